import PyProof.Rows.All
import Wide.All
import OpenK.AllK
import Wide.FinOn
import Lean
import PyProof.EqAt
import PyProof.EqKinds
import PyProof.NeKinds
import PyProof.TupleCall
import PyProof.CollectStr
import PyProof.FactsAll.tuple
import PyProof.Draws
import PyProof.EnumMake
import PyProof.ListTruth
import PyProof.RaisesMany
import PyProof.Rows.SetFrom
import PyProof.StrLawsIn
import PyProof.TupleIter
import PySem.Challenge.RW_tastegrove_k17_tree_at_a_number
set_option Elab.async false
set_option linter.all false
set_option maxRecDepth 100000
set_option maxHeartbeats 0
set_option compiler.extract_closed false
set_option genSizeOf false
namespace T17
open PySem
def top(i:Nat):Stmt:=PySem.Challenge.pw_tastegrove_k17_tree_at_a_number.main.body.getD i (.Pass ⟨0,0,0,0⟩)
abbrev pw:Program:=PySem.Challenge.pw_tastegrove_k17_tree_at_a_number
def vw:Program:={pw with main:={pw.main with body:=[top 1,top 2,top 3,top 5,top 6,top 8,top 9,top 10,top 11,top 13,top 14,top 15,top 17,top 18,top 19,top 20,top 21,top 22,top 23,top 24,top 25,top 26,top 27,top 28,top 29,top 30,top 31,top 32]}}
theorem two_all{W α β γ:Type}{o:W→Option α}{f:W→α→β}{g:W→α→γ}{a:W→β}{b:W→γ}(h1:∀w,(o w).map (f w)=some (a w))(h2:∀w,(o w).map (g w)=some (b w)):∀w,(o w).map (fun x=>(f w x,g w x))=some (a w,b w):=fun w=>by
 have h1:=h1 w
 have h2:=h2 w
 cases h:o w with
 |none=>rw[h]at h1;cases h1
 |some x=>
  rw[h]at h1 h2
  simp only[Option.map_some,Option.some.injEq]at h1 h2⊢
  rw[h1,h2]
theorem helper{A B C:Prop}(f:A→B→C)(hw:A)(call:B):C:=f hw call
def q1{A B W V:Prop}(_:(A∧B)∧W→V):Prop:=A
def q2{A B W V:Prop}(_:(A∧B)∧W→V):Prop:=B
end T17
open PySem PySem.W PyProof.Rows in
local macro_rules | `(tactic| o_head $H) => `(tactic| (apply T17.helper (fun hw hc => holds_open (q := T17.vw) (loose := []) (Xt := fun s => xlAt T17.vw [] s && recOk (RowW.records (OpenRow.toRowW (OpenLaw.row PySem.Challenge.rw_tastegrove_k17_tree_at_a_number))) s) (XP := XL T17.vw []) (Yf := Hook.obs $H) (Ya := Hook.val $H) (YP := Hook.says $H) (N := 5014) (T17.two_all (And.left (And.left hc)) (And.right (And.left hc))) (Hook.of $H) (Hook.keeps $H) (fun s e => xl_of s (Bool.and_eq_true_iff.mp e).1) XL.keeps (by rfl) (by rfl) (by rfl) (fun s e => recFacts_of (Bool.and_eq_true_iff.mp e).2) (by rfl) (by first | assumption | decide +kernel) (by decide +kernel) ⟨rfl, rfl, rfl, rfl, rfl, by decide +kernel⟩ hw (And.right hc))))
open PySem PySem.W PyProof.Rows in
open_top T17.tp for PySem.Challenge.rw_tastegrove_k17_tree_at_a_number
theorem T17.h1:T17.q1 @T17.tp:=by
 unfold T17.q1
 intro w
 kernel_rfl
theorem T17.h2:T17.q2 @T17.tp:=by
 unfold T17.q2
 intro w
 kernel_rfl
open PySem renaming wpAny_bind → aa, Value → ae, Shared → ai, wpAny_pure → aq, starEach → au, Program → aJ, sizeLine → aO, model → aQ, World → aV, FuncData → aW, wpAny_mono → bj, wpAny_field → bG, wpAny_newObj_type → bH, mainGlobals → bO, backTo → bT, compareOp → bV, Builtin → cu, attributeBase → cy, bootBuiltins → cA, wpAny_callSpecial?_slot → cF, wpAny_holding → cJ, wpAny_call_entry → cY, binaryOp → dM, wpAny_seqItems → dU, foldedSetIterable → en, Scope → er, IsPair → eB, NameKind → eE, keywordEach → eL, wpAny_setField_rec → eQ, sysModules → eR, wpAny_truthy_bool → fj, lookup_relabel_local → fq, wpAny_Call_Name_kw → fO, wpAny_passesOwn → fX, behindInMarks → gi, Keyword → gA, wpAny_typeOf → gP, swapsWith → gQ, backToKw → ic, wpAny_updateSeq → ii, wpAny_execs_nil → ij, wpAny_rule → iq, cLine → iG, getItem → iO, sliceBounds → jp, sizeLine_eq → jq, wpAny_loadPart' → jI, letOwnedTupleGo → jL, assignEach → km, Operator → ko, IsZip → kq, wpAny_onRaise → lz, wpAny_comprehension_free → lA, wpAny_attempt → lB, wpAny_isInstance → lY, codeAny_mono → nM, codeAny_compStart_list → nN, call_meets → nO, wpAny_updateSeq_pair → pG, wpAny_setField → pH, wpAny_newFunctionEnv → pI, getMethod → qb, tupleKind_room_in1 → rV, wpAny_sequenceKey → ub, wpAny_pyIter_list → uc, wpAny_pyIter_dict → ud, wpAny_loadPart_at → ue, slot_list_getitem → ur, wpAny_letGo → wQ, wpAny_newTuple → zR, wpAny_getItem_list_slice → Bl
open PySem.Heap renaming get?_push_of_some → af, lt_size → aB, get?_push_size → aK, get?_update_other → bK, size_push → cS, get?_update_self → dG, SameBut → eA
open List renaming length_map → ak, getElem?_eq_getElem → al, getElem?_eq_some_iff → am, mem_of_getElem? → av, map_cons → aw, size_toArray → ax, mem_singleton → aA, getElem?_map → aC, mem_map → aD, mem_cons → aI, length_append → aP, all_eq_true → aS, length_cons → aU, mem_append_right → aY, nodup_cons → aZ, map_append → a8, take_length → bi, sum_cons → bn, mem_append → bo, length_take → bv, map_map → bx, take_add_one → bB, not_mem_nil → bC, replicate → bI, range → bJ, getElem?_append_right → bS, getElem?_append_left → bW, mem_flatMap → ce, getElem?_set_ne → cq, getElem?_set_self → cI, getElem?_eq_none → cO, mem_range → cQ, any_cons → cR, mem_cons_of_mem → cV, replicate_succ → dA, getElem?_range → dB, take_append_drop → dF, sum_nil → dL, flatten_cons → dP, append_nil → dS, length_reverse → dW, getD_eq_getElem?_getD → eF, drop_eq_getElem_cons → eP, find?_cons → eU, flatMap_cons → eW, append_assoc → eX, map_congr_left → fz, lookup_cons → fA, flatMap_append → gL, filterMap_cons → gM, mem_cons_self → gY, take_of_length_le → im, reverse_cons → io, mem_iff_getElem? → iM, lookup → iU, length → iV, mem_filter → jc, countP_eq_length_filter → jd, countP_pos_iff → ji, map_nil → jo, filter_append → jH, all_cons → kh, getElem?_replicate → kx, forIn_cons → lH, length_filter_le → lX, take_succ → mz, mem_of_mem_take → mB, filter_eq_self → nZ, zipIdx_cons → rR, eq_nil_of_length_eq_zero → sv, zipIdx_nil → tR, forIn_nil → vn, pairwise_iff_getElem → wL, length_eq_zero_iff → yu, getElem?_cons_zero → yw
open Nat renaming le_refl → ao, ne_of_lt → aN, le_trans → aR, lt_of_lt_of_le → a9, le_of_ble_eq_true → ba, zero_le → bt, pow_le_pow_right → bX, lt_irrefl → c7, lt_succ_of_lt → dj, lt_or_ge → dz, pos_of_ne_zero → eK, lt_succ_self → fF, zero_add → fN, le_succ → gu, zero_mul → gH, ne_of_gt → iC, mul_zero → iD, le_of_lt → iE, pow_add → ja, not_lt_zero → jh, pow_pos → kg, sub_self → lG, pow_one → nV, mul_le_mul_right → nW, lt_of_le_of_lt → pQ, lt_succ_of_le → rQ, le_zero → tQ
open PySem.Value renaming ref → aE, none → br, type → bE, int → dO, bool → e8, str → jm, builtin → kc, isStrOf → nY
open PySem.Str renaming ofString → aF
open Ne renaming symm → aG
open Option.some renaming inj → bf
open Bool renaming and_eq_true → bp, false_ne_true → bz, and_false → mC, false_eq_true → pF, and_eq_true_iff → A8
open Array renaming length_toList → bu, getElem?_eq_some_iff → jE, getElem?_toList → lI
open PyProof.Rows renaming slot_tuple_getitem → bw, callWith_type1 → fE, envOfC → ku, AllBare → ly, entry_tuple_getitem → rA, args_tuple_getitem → sk
open PySem.Builtin.SmallTypes renaming nextOf → bL
open False renaming elim → bQ
open PySem.Builtin.Slice renaming slicePlaces → bZ, sliceAdjust → dY, sliceApplied → fK, sliceFields → pE
open PySem.Builtin.Tuple renaming tupleExact → ck, tupleItemsOf → iN, tupleIsExact → pc
open True renaming intro → cE
open PySem.Builtin.List renaming listExtendWith → cP, listTooLong → dC, listSameRef → fW, listLengthHint → pd
open PySem.Obj renaming mapSeq → c9
open PySem.Data renaming fields → dD, seq → eZ, cell → rS
open Sum renaming inr → dE
open Int renaming emod_lt_of_pos → dI, emod_nonneg → eY, toNat_natCast → fV, ofNat_inj → iW
open PySem.Builtin.Range renaming rangeSize → gj
open ForInStep renaming yield → gB
open PySem.Builtin.Str renaming occurrences → gC
open PySem.F renaming slot_tuple_iterator_next → gI, slot_zip_next → g7, args_zip_next_1 → sw, entry_zip_next → vk, slot_dict_keyiterator_iter → wO, args_tuple_iterator_next_1 → wP, entry_tuple_iterator_next → wV
open Or renaming inr → g6, inl → iI
open PySem.Calls renaming callWith_builtin → ig, spliced_cons → jC, Name_function_global → jD, evalArgs_plain → mv, spliced_nil → pS, loadGlobal_global → wW
open PySem.Txt renaming join → i8
open Classical renaming byContradiction → jj
open PySem.NameKind renaming free → jG
open Option renaming some → jT, isSome_iff_exists → jU
open PySem.Heap.IsSliceOf renaming new → ky
open PySem.SeqAt.EqAt renaming str_int → lV, int_str → lW
local macro_rules | `(tactic| ac_nf) => `(tactic| first | lia | omega)
namespace L2
open PySem PySem.Spec PyProof.Rows
noncomputable abbrev Key:=Sum Int Str
noncomputable def tq:Key->ae->Bool
 | .inl k,v=>ae.isInt k v
 | .inr x,v=>nY x v
noncomputable def Od(w:aV):Key->Int
 | .inl k=>hashInt k
 | .inr x=>hashStr w x
theorem dQ:∀{k:Key} {v:ae},tq k v=true->(∃i t,k=Sum.inl i/\v=dO i t)\/(∃x t,k=dE x/\v=jm x t)
 | .inl i,v,h=>by
  obtain⟨t,e⟩:=ae.isInt_shape (k:=i) (v:=v) h
  exact .inl ⟨i,t,rfl,e⟩
 | .inr x,v,h=>by
  obtain⟨t,e⟩:=ae.isStrOf_shape (x:=x) (v:=v) h
  exact .inr ⟨x,t,rfl,e⟩
theorem Az(i:Int)(t:Tok):tq (.inl i) (.int i t)=true:=by simp[tq,ae.isInt]
theorem Ay(x:Str)(t:Tok):tq (.inr x) (.str x t)=true:=by simp[tq,nY]
theorem Jk(a b:Int):decide ((Sum.inl a:Key)=Sum.inl b)=(a==b):=by
 by_cases e:a=b
 ·subst e;simp
 ·have h:¬(Sum.inl a:Key)=Sum.inl b:=λq=>e (Sum.inl.inj q)
  rw[decide_eq_false h]
  exact(beq_eq_false_iff_ne.mpr e).symm
theorem Jh(a b:Str):decide ((dE a:Key)=dE b)=decide (a=b):=by
 by_cases e:a=b
 ·subst e;simp
 ·have h:¬(dE a:Key)=dE b:=λq=>e (dE.inj q)
  rw[decide_eq_false h,decide_eq_false e]
theorem Jj(a:Int)(b:Str):decide ((Sum.inl a:Key)=dE b)=false:=decide_eq_false (λq=>nomatch q)
theorem Ji(a:Str)(b:Int):decide ((dE a:Key)=Sum.inl b)=false:=decide_eq_false (λq=>nomatch q)
noncomputable def mixKind(prog:aJ)(w:aV):PySem.KeyKind prog w Key where
 is:=tq
 hash:=Od w
 inj:=λv a b ha hb=>by
  rcases dQ ha with⟨i,t,rfl,rfl⟩|⟨x,t,rfl,rfl⟩
  ·rcases dQ hb with⟨j,u,rfl,e⟩|⟨y,u,rfl,e⟩
   ·injection e with e1 _;rw[e1]
   ·exact nomatch e
  ·rcases dQ hb with⟨j,u,rfl,e⟩|⟨y,u,rfl,e⟩
   ·exact nomatch e
   ·injection e with e1 _;rw[e1]
 byValue:=λk v h=>by
  rcases dQ h with⟨i,t,rfl,rfl⟩|⟨x,t,rfl,rfl⟩<;>rfl
 pyHash:=λhv h=>by
  rcases dQ hv with⟨i,t,rfl,rfl⟩|⟨x,t,rfl,rfl⟩
  ·exact wpAny_pyHash_int h
  ·exact wpAny_pyHash_str h
 eqBool:=λhu hv h=>by
  rcases dQ hu with⟨i,t,rfl,rfl⟩|⟨x,t,rfl,rfl⟩
  ·rcases dQ hv with⟨j,u,rfl,rfl⟩|⟨y,u,rfl,rfl⟩
   ·rw[Jk]at h;exact wpAny_eqBool_int h
   ·rw[Jj]at h;exact lW i t y u _ _ _ _ h
  ·rcases dQ hv with⟨j,u,rfl,rfl⟩|⟨y,u,rfl,rfl⟩
   ·rw[Ji]at h;exact lV x t j u _ _ _ _ h
   ·rw[Jh]at h;exact wpAny_eqBool_str h
 «strs»:=λk x t v h=>by
  rcases dQ h with⟨i,u,rfl,e⟩|⟨y,u,rfl,e⟩
  ·exact nomatch e
  ·injection e with e1 _
   subst e1
   cases v<;>rfl
theorem v9(prog:aJ)(w:aV)(i:Int)(t:Tok):(mixKind prog w).is (.inl i) (.int i t)=true:=Az i t
theorem v8(prog:aJ)(w:aV)(x:Str)(t:Tok):(mixKind prog w).is (.inr x) (.str x t)=true:=Ay x t
inductive V where
 |non|bl (b:Bool)|int (i:Int)|str (x:Str)|byt (b:Array UInt8)|flt (b:UInt64)|ref (a:Addr)|ty (n:String)
 deriving DecidableEq
noncomputable def RelV:V->ae->Prop
 | .non,u=>u=br
 | .bl b,u=>u=e8 b
 | .int i,u=>∃t,u=dO i t
 | .str x,u=>∃t,u=jm x t
 | .byt b,u=>∃t,u=ae.bytes b t
 | .flt b,u=>∃t,u=ae.float b t
 | .ref a,u=>u=aE a
 | .ty n,u=>u=bE n
noncomputable abbrev Vals:List V->List ae->Prop:=Paired RelV
theorem Vals.length{xs:List V}{us:List ae}(r:Vals xs us):xs.length=us.length:=Paired.length r
theorem Vals.get:∀{xs:List V} {us:List ae} {i:Nat} {x:V},Vals xs us->xs[i]? =some x->∃u,us[i]? =some u/\RelV x u
 |_,_,_,_,.nil,e=>by simp at e
 |_,_,0,_,.cons r _,e=>by simp at e;subst e;exact⟨_,rfl,r⟩
 |_,_,i+1,x,.cons _ t,e=>by
  obtain⟨u,h1,h2⟩:=Vals.get (i:=i) (x:=x) t (by simpa using e)
  exact⟨u,by simpa using h1,h2⟩
theorem Vals.set{x:V}{u:ae}(r:RelV x u):∀{xs:List V} {us:List ae} (i:Nat),Vals xs us->Vals (xs.set i x) (us.set i u)
 |_,_,_,.nil=> .nil
 |_,_,0,.cons _ t=> .cons r t
 |_,_,i+1,.cons q t=> .cons q (Vals.set r i t)
theorem Vals.append:∀{xs ys:List V} {us ws:List ae},Vals xs us->Vals ys ws->Vals (xs++ys) (us++ws)
 |_,_,_,_,.nil,s=>s
 |_,_,_,_,.cons r t,s=> .cons r (Vals.append t s)
theorem Vals.take:∀{xs:List V} {us:List ae} (n:Nat),Vals xs us->Vals (xs.take n) (us.take n)
 |_,_,0,_=> .nil
 |_,_,_+1,.nil=> .nil
 |_,_,n+1,.cons r t=> .cons r (Vals.take n t)
theorem Vals.drop:∀{xs:List V} {us:List ae} (n:Nat),Vals xs us->Vals (xs.drop n) (us.drop n)
 |_,_,0,r=>r
 |_,_,_+1,.nil=> .nil
 |_,_,n+1,.cons _ t=>Vals.drop n t
noncomputable def RelO:Option V->Option ae->Prop
 |some v,some u=>RelV v u
 |none,none=>True
 |_,_=>False
noncomputable def KV{κ:Type}:List (κ×V)->List (κ×ae)->Prop:=Paired fun(p:κ×V) (q:κ×ae)=>p.1=q.1/\RelV p.2 q.2
noncomputable def kV:Key->V
 | .inl i=> .int i
 | .inr x=> .str x
inductive HO where
  |lst (xs:List V)
  |tup (xs:List V)
  |dK (kvs:List (Key×V))|dT (kvs:List (List Key×V))
  |set (S:Int->Bool) (n:Nat)
  |ins (C dx:Addr) (fs:List (Str×V))
  |own (x:Addr)
  |xd (fs:List (Str×V))
  |met (f x:Addr)
  |rng (lo hi:Int)
  |frz (o:Obj) (u:HO)
  |tbl (ps:Array ae)
  |ext (φ:Heap->Prop)
noncomputable abbrev Hp:=Addr->Option HO
noncomputable def upd(H:Hp)(a:Addr)(o:HO):Hp:=λb=>if b=a then some o else H b
theorem cw{H:Hp}{a:Addr}{o:HO}:upd H a o a=some o:=by unfold upd;rw[if_pos rfl]
theorem bD{H:Hp}{a b:Addr}{o:HO}(h:b≠a):upd H a o b=H b:=by unfold upd;rw[if_neg h]
theorem LJ{H:Hp}{a b:Addr}{o u:HO}(h:H a=some o)(h':H b=some u)(d:o≠u):a≠b:=by
 intro e;subst e;rw[h]at h';exact d (bf h')
theorem cr{H:Hp}{a b:Addr}{o:HO}(h:H a=some o)(h':H b=none):a≠b:=by
 intro e;subst e;rw[h]at h';cases h'
section
variable(P:aJ)(w:aV)
noncomputable def ObjOk(H:Hp)(h:Heap)(a:Addr):HO->Prop
 | .lst xs=>xs.length<=aO/\∃(its:List ae) (n:Nat),Vals xs its/\h.get? a=some {cls:= .type "list",data:= .seq its.toArray n}
 | .tup xs=>xs.length<=aO/\∃its:List ae,Vals xs its/\IsTup h a its.toArray
 | .dK kvs=>kvs.length<=aO/\(a==eR)=false/\∃vs,KV kvs vs/\h.DictOf (mixKind P w) a vs
 | .dT kvs=>kvs.length<=aO/\(a==eR)=false/\∃xs:List (List Key×Addr×ae),
   Paired (fun(p:List Key×V) (q:List Key×Addr×ae)=>p.1=q.1/\H q.2.1=some (.tup (p.1.map kV))/\RelV p.2 q.2.2) kvs xs/\
   ∃o es ep,h.get? a=some o/\o.ExactDict/\o.data= .dict es ep/\es.toList=xs.map (entryOfKey (tupleKind (mixKind P w)))/\(xs.map (·.1)).Nodup
 | .set S n=>h.SetOf (intKind P w) a S n
 | .ins C dx fs=>H dx=some (.own a)/\fs.length<=1000/\dx≠a/\h.get? a=some (PySem.W.instObj C dx)/\
   ∃mA,h.Ns1 dx mA/\(∀f,RelO (fs.lookup f) (mA f))/\PySem.Within mA (fs.map (·.1))
 | .own _=>∃o,h.get? a=some o
 | .xd fs=>∃mA,h.Ns1 a mA/\∀f,RelO (fs.lookup f) (mA f)
 | .rng lo hi=>∃t u v,h.get? a=some {cls:= .type "range",data:= .fields #[.int lo t,.int hi u,.int 1 v]}
 | .frz o u=>h.get? a=some o/\ObjOk H h a u
 | .tbl ps=>h.get? a=some {cls:= .none,data:= .fields ps}
 | .met f x=>h.get? a=some (PySem.W.methodObj (.ref f) (.ref x))
 | .ext φ=>φ h/\(∃o,h.get? a=some o)/\∀h1 h2:Heap,φ h1->(∀o,h1.get? a=some o->h2.get? a=some o)->φ h2
noncomputable def HOk(H:Hp)(h:Heap):Prop:=∀a o,H a=some o->ObjOk P w H h a o
end
section
variable{P:aJ}{w:aV}{H H':Hp}{h h':Heap}{a:Addr}{o:HO}
theorem ObjOk.lt(x:ObjOk P w H h a o):a<h.objs.size:=by
 cases o with
 |lst xs=>obtain⟨_,_,_,_,e⟩:=x;exact aB e
 |tup xs=>obtain⟨_,_,_,p⟩:=x;exact p.lt
 |dK kvs=>obtain⟨_,_,_,_,o,_,_,e,_⟩:=x;exact aB e
 |dT kvs=>obtain⟨_,_,_,_,o,_,_,e,_⟩:=x;exact aB e
 |set S n=>obtain⟨o,_,_,_,e,_⟩:=x;exact aB e
 |ins C dx fs=>obtain⟨_,_,_,e,_⟩:=x;exact aB e
 |own y=>obtain⟨_,e⟩:=x;exact aB e
 |xd fs=>obtain⟨_,⟨_,_,_,e,_⟩,_⟩:=x;exact aB e
 |rng lo hi=>obtain⟨_,_,_,e⟩:=x;exact aB e
 |frz ob u=>obtain⟨e,_⟩:=x;exact aB e
 |tbl ps=>exact aB (show h.get? a=some _ from x)
 |met f y=>exact aB (show h.get? a=some _ from x)
 |ext φ=>obtain⟨_,⟨_,e⟩,_⟩:=x;exact aB e
theorem Paired.mapP{α β:Type}{F G:α->β->Prop}:∀{l₁:List α} {l₂:List β},Paired F l₁ l₂->(∀a b,F a b->G a b)->Paired G l₁ l₂
 |_,_,.nil,_=> .nil
 |_,_,.cons r t,f=> .cons (f _ _ r) (Paired.mapP t f)
theorem ObjOk.stay(x:ObjOk P w H h a o)(k:∀b u,(b=a\/H b=some (.own a))->h.get? b=some u->h'.get? b=some u)
  (ho:∀b,H b=some (.own a)->H' b=some (.own a)) (ht:∀b xs,H b=some (.tup xs)->H' b=some (.tup xs)):ObjOk P w H' h' a o:=by
 induction o with
 |lst xs=>obtain⟨z,its,n,r,e⟩:=x;exact⟨z,its,n,r,k _ _ (.inl rfl) e⟩
 |tup xs=>obtain⟨z,its,r,ob,e,c⟩:=x;exact⟨z,its,r,ob,k _ _ (.inl rfl) e,c⟩
 |dK kvs=>obtain⟨z,y,vs,r,ob,es,ep,e,c⟩:=x;exact⟨z,y,vs,r,ob,es,ep,k _ _ (.inl rfl) e,c⟩
 |dT kvs=>
  obtain⟨z,y,xs,r,ob,es,ep,e,c⟩:=x
  exact⟨z,y,xs,Paired.mapP r λp q z=>⟨z.1,ht _ _ z.2.1,z.2.2⟩,ob,es,ep,k _ _ (.inl rfl) e,c⟩
 |set S n=>obtain⟨ob,es,ep,t,e,c⟩:=x;exact⟨ob,es,ep,t,k _ _ (.inl rfl) e,c⟩
 |ins C dx fs=>
  obtain⟨d,z,ne,e,mA,⟨od,es,ep,e2,c⟩,r⟩:=x
  exact⟨ho _ d,z,ne,k _ _ (.inl rfl) e,mA,⟨od,es,ep,k _ _ (.inr d) e2,c⟩,r⟩
 |own y=>obtain⟨ob,e⟩:=x;exact⟨ob,k _ _ (.inl rfl) e⟩
 |xd fs=>obtain⟨mA,⟨od,es,ep,e,c⟩,r⟩:=x;exact⟨mA,⟨od,es,ep,k _ _ (.inl rfl) e,c⟩,r⟩
 |rng lo hi=>obtain⟨t,u,v,e⟩:=x;exact⟨t,u,v,k _ _ (.inl rfl) e⟩
 |frz ob u ih=>obtain⟨e,q⟩:=x;exact⟨k _ _ (.inl rfl) e,ih q⟩
 |tbl ps=>
  have e:h.get? a=some {cls:= .none,data:= .fields ps}:=x
  show h'.get? a=some {cls:= .none,data:= .fields ps}
  exact k a _ (.inl rfl) e
 |met f y=>
  have e:h.get? a=some (PySem.W.methodObj (.ref f) (.ref y)):=x
  show h'.get? a=some (PySem.W.methodObj (.ref f) (.ref y))
  exact k a _ (.inl rfl) e
 |ext φ=>obtain⟨p,⟨o,e⟩,st⟩:=x;exact⟨st _ _ p λo q=>k _ _ (.inl rfl) q,⟨o,k _ _ (.inl rfl) e⟩,st⟩
theorem HOk.lt(x:HOk P w H h)(e:H a=some o):a<h.objs.size:=(x a o e).lt
theorem HOk.fresh(x:HOk P w H h)(e:h.objs.size<=a):H a=none:=by
 cases q:H a with
 |none=>rfl
 |some u=>exact absurd (a9 (x.lt q) e) (c7 _)
theorem HOk.kept(x:HOk P w H h)(k:∀b u,h.get? b=some u->h'.get? b=some u):HOk P w H h':=λa o e=>
 (x a o e).stay (λb u _ q=>k b u q) (λ_ q=>q) λ_ _ q=>q
theorem HOk.laid(x:HOk P w H h)(k:∀b u,h.get? b=some u->h'.get? b=some u)(hp:h.objs.size<=a)(new:ObjOk P w (upd H a o) h' a o):HOk P w (upd H a o) h':=λb u e=>by
 have hn:=x.fresh hp
 by_cases hb:b=a
 ·subst hb;rw[cw]at e;cases e;exact new
 ·rw[bD hb]at e
  exact(x b u e).stay (λc v _ q=>k c v q) (λc q=>by rw[bD (cr q hn)];exact q) λc xs q=>by rw[bD (cr q hn)];exact q
end
noncomputable def Rd(H:Hp)(a:Addr)(u:HO):Prop:=H a=some u\/∃o,H a=some (.frz o u)
theorem Rd.ok{P:aJ}{w:aV}{H:Hp}{h:Heap}{a:Addr}{u:HO}(r:Rd H a u)(x:HOk P w H h):ObjOk P w H h a u:=by
 rcases r with r|⟨o,r⟩
 ·exact x a u r
 ·obtain⟨_,q⟩:=x a _ r
  exact q
noncomputable def Ng:Option HO->Prop
 |some (.lst _)=>True
 |some (.dK _)=>True
 |some (.dT _)=>True
 |some (.set _ _)=>True
 |some (.ins _ _ _)=>True
 |some (.ext _)=>True
 |_=>False
section
variable{P:aJ}{w:aV}{H:Hp}{h h':Heap}{x e:Addr}{o':HO}
theorem HOk.write(ok:HOk P w H h)(mu:Ng (H x))(he:e=x\/H e=some (.own x))(k:∀b u,b≠e->h.get? b=some u->h'.get? b=some u)(heo:∃u,h'.get? e=some u)
  (new:ObjOk P w (upd H x o') h' x o'):HOk P w (upd H x o') h':=λb u q=>by
 have nown:∀c y,H c=some (.own y)->c≠x:=λc y r z=>by subst z;rw[r]at mu;exact mu
 have ntup:∀c xs,H c=some (.tup xs)->c≠x:=λc xs r z=>by subst z;rw[r]at mu;exact mu
 by_cases hb:b=x
 ·subst hb;rw[cw]at q;cases q;exact new
 ·rw[bD hb]at q
  by_cases hbe:b=e
  ·have q':H b=some (.own x):=by
    rcases he with z|z
    ·exact absurd (hbe.trans z) hb
    ·rw[hbe];exact z
   rw[q]at q';cases q'
   obtain⟨v,hv⟩:=heo
   exact⟨v,by rw[hbe];exact hv⟩
  ·refine(ok b u q).stay (λc v hc r=>k c v ?_ r) (λc r=>by rw[bD (nown c b r)];exact r) λc xs r=>by rw[bD (ntup c xs r)];exact r
   rcases hc with rfl|hc
   ·exact hbe
   ·rintro rfl
    rcases he with z|z
    ·exact nown c b hc z
    ·rw[hc]at z;cases z;exact hb rfl
end
structure Un(fs ex:List Addr)(H H':Hp)(h h':Heap):Prop where
 keep:∀b o,h.get? b=some o->H b=none->b∉fs->b∉ex->h'.get? b=some o
 slot:∀b o,h.get? b=some o->H b=none->b∈fs->b∉ex->∃sl,h'.get? b=some {o with slots:=sl}
 free:∀b o,h.get? b=some o->H b=none->b∉ex->H' b=none
 there:∀b o,h.get? b=some o->b∉ex->∃o',h'.get? b=some o'
 tups:∀b xs,H b=some (.tup xs)->H' b=some (.tup xs)
 frzs:∀b o u,H b=some (.frz o u)->H' b=some (.frz o u)
 tbls:∀b ps,H b=some (.tbl ps)->∃more,H' b=some (.tbl (ps++more))
section
variable{fs ex:List Addr}{H H1:Hp}{h h1 h':Heap}{a x e:Addr}{o:HO}
theorem Un.any(u:Un fs ex H H1 h h1){b:Addr}{ob:Obj}(q:h.get? b=some ob)(n:H b=none)(hx:b∉ex):∃sl,h1.get? b=some {ob with slots:=sl}:=by
 by_cases hb:b∈fs
 ·exact u.slot b ob q n hb hx
 ·exact⟨ob.slots,u.keep b ob q n hb hx⟩
theorem Un.kept(k:∀b u,h.get? b=some u->h'.get? b=some u):Un fs ex H H h h':=
 ⟨λb ob q _ _ _=>k b ob q,λb ob q _ _ _=>⟨ob.slots,k b ob q⟩,λ_ _ _ n _=>n,λb ob q _=>⟨ob,k b ob q⟩,λ_ _ q=>q,λ_ _ _ q=>q,λ_ ps q=>⟨#[],by rw[q];simp⟩⟩
theorem Un.refl:Un fs ex H H h h:=Un.kept λ_ _ q=>q
theorem Un.laid(k:∀b u,h.get? b=some u->h'.get? b=some u)(hp:h.objs.size<=a)(hn:H a=none):Un fs ex H (upd H a o) h h' where
 keep:=λb u q _ _ _=>k b u q
 slot:=λb u q _ _ _=>⟨u.slots,k b u q⟩
 free:=λb u q n _=>by rw[bD (aN (a9 (aB q) hp))];exact n
 there:=λb u q _=>⟨u,k b u q⟩
 tups:=λb xs q=>by rw[bD (cr q hn)];exact q
 frzs:=λb u xs q=>by rw[bD (cr q hn)];exact q
 tbls:=λb ps q=>⟨#[],by rw[bD (cr q hn),q];simp⟩
theorem Un.write(mu:Ng (H x))(he:e=x\/H e=some (.own x))(k:∀b u,b≠e->h.get? b=some u->h'.get? b=some u)(heo:∃u,h'.get? e=some u):Un fs ex H (upd H x o) h h':=by
 have hx:∀b,H b=none->b≠x:=λb n z=>by subst z;rw[n]at mu;exact mu
 have hb:∀b,H b=none->b≠e:=λb n z=>by
  subst z
  rcases he with r|r
  ·exact hx b n r
  ·rw[n]at r;cases r
 have hm:∀b u,H b=some u->¬Ng (some u)->b≠x:=λb u q nm z=>by subst z;rw[q]at mu;exact nm mu
 refine⟨λb u q n _ _=>k b u (hb b n) q,λb u q n _ _=>⟨u.slots,k b u (hb b n) q⟩,λb u q n _=>by rw[bD (hx b n)];exact n,λb u q _=> ?_,
  λb xs q=>by rw[bD (hm b _ q λz=>z)];exact q,λb u xs q=>by rw[bD (hm b _ q λz=>z)];exact q,λb ps q=>⟨#[],by rw[bD (hm b _ q λz=>z),q];simp⟩⟩
 by_cases hbe:b=e
 ·subst hbe;exact heo
 ·exact⟨u,k b u hbe q⟩
end
noncomputable def Ni(h:Heap)(H:Hp):List Addr:=(bJ h.objs.size).filter λa=>(H a).isSome
noncomputable def uN(h:Heap)(H:Hp):Heap:=PySem.W.hideAll h (Ni h H)
theorem AN(h:Heap)(H:Hp):(uN h H).objs.size=h.objs.size:=PySem.W.hideAll_size _ _
theorem DH{h:Heap}{H:Hp}{b:Addr}{o:Obj}(e:h.get? b=some o)(n:H b=none):(uN h H).get? b=some o:=
 PySem.W.hideAll_get _ e λhm=>by
  have q:(H b).isSome=true:=(jc.mp hm).2
  rw[n]at q;simp at q
theorem FC{h:Heap}{H:Hp}{b:Addr}{o:Obj}(e:(uN h H).get? b=some o):h.get? b=some o/\H b=none:=by
 have e':h.get? b=some o:=PySem.W.of_hideAll (Ni h H) e
 refine⟨e',?_⟩
 cases q:H b with
 |none=>rfl
 |some x=>
  have hm:b∈Ni h H:=jc.mpr ⟨cQ.mpr (aB e'),by simp[q]⟩
  have z:(uN h H).get? b=none:=PySem.W.hideAll_none (Ni h H) hm
  rw[z]at e;cases e
structure Mod(K:PySem.W.Frag)(mg:Str->Option ae)(base:Heap):Prop where
 kin:K.In base
 glob:base.Ns bO mg
 blt:∃mb,base.Ns builtinsNs mb/\∀x:Str,x≠ "__name__" ->mb x=cA x
 nolimit:base.NoLimit
structure Cx where
 prog:aJ
 w:aV
 K:PySem.W.Frag
 mg:Str->Option ae
 base:Heap
 A:Around
 N:List Str
 s₀:ai
 H₀:Hp
 env:Env
 outer:List Env
 stack:List Env
 ex:List Addr
 fn:Str->Bool
 calm:Bool
 pn:List (Addr×Obj)
 xe:ae->ai->Prop
noncomputable def lq(l:List Env):List Addr:=l.filterMap (·.frame)
noncomputable abbrev Cx.fs(X:Cx):List Addr:=lq X.outer
noncomputable def Nr(sc:er)(x:Str):Prop:=sc.names.lookup x=some .local\/sc.names.lookup x=some .cell\/sc.names.lookup x=some .free
noncomputable def vm(sc:er)(x:Str):Prop:=sc.names.lookup x=some .local\/sc.names.lookup x=some .cell
noncomputable def Oy(env:Env)(h:Heap)(m:Str->Option ae)(x:Str)(u:ae):Prop:=
 (env.kindOf x=some .local/\m x=some u)\/((env.kindOf x=some .cell\/env.kindOf x=some .free)/\∃c,env.cells.lookup x=some c/\h.IsCell c (some u))
structure Cx.Ok(X:Cx):Prop where
 mod:Mod X.K X.mg X.base
 kind:X.env.scope.kind= .function
 glob:X.env.globals=bO
 blt:X.env.builtins=builtinsNs
 above:X.s₀.heap.objs.size<=X.env.locals
 inj:∀x y c,X.env.cells.lookup x=some c->X.env.cells.lookup y=some c->x=y
 has:∀x,(X.env.kindOf x=some .cell\/X.env.kindOf x=some .free)->∃c,X.env.cells.lookup x=some c
 cab:∀x c,X.fn x=true->X.env.cells.lookup x=some c->X.s₀.heap.objs.size<=c
 hd:X.calm=true->X.A.handled=none
 frames:X.A.frames=some X.stack
 stk:X.stack=X.outer\/(X.stack=X.env::X.outer/\X.env.frame=some X.env.locals)
 exf:∀b∈X.ex,b≠X.env.locals/\∀x c,X.env.cells.lookup x=some c->c≠b
 bs:∀b o,X.base.get? b=some o->X.s₀.heap.get? b=some o/\X.H₀ b=none
 bsz:X.base.objs.size<=X.s₀.heap.objs.size
 noex:∀b o,X.base.get? b=some o->b∉X.ex
 exfs:∀b∈X.ex,b∉X.fs
 funs:X.s₀.heap.FunFrames X.base X.outer
 frf:∀b∈X.fs,X.H₀ b=none
structure Inv(X:Cx)(pins:List (Addr×Obj))(σ:List (Option V))(H:Hp)(s:ai):Prop where
 ok:X.Ok
 os:s.os=X.s₀.os
 bare:ly s.gens
 base:Un X.fs X.ex X.H₀ H X.s₀.heap s.heap
 loc:∃m,s.heap.Ns X.env.locals m/\∀(i:Nat) (x:Str) (v:V),X.N[i]? =some x->σ[i]? =some (some v)->Nr X.env.scope x->∃u,RelV v u/\Oy X.env s.heap m x u
 cell:∀x c,X.env.cells.lookup x=some c->∃v,s.heap.IsCell c v
 free:H X.env.locals=none
 freeC:∀x c,X.env.cells.lookup x=some c->H c=none
 pin:∀p∈X.pn++pins,s.heap.get? p.1=some p.2/\H p.1=none/\p.1≠X.env.locals/\p.1∉X.fs/\∀v,p.2.data≠ .cell v
 hok:HOk X.prog X.w H s.heap
 len:σ.length=X.N.length
section
variable{X:Cx}{pins:List (Addr×Obj)}{σ:List (Option V)}{H H':Hp}{s:ai}{h':Heap}
theorem Cx.Ok.nofr(ok:X.Ok){b:Addr}{o:Obj}(e:X.base.get? b=some o):b∉X.fs:=λhb=>by
 have:=(ok.funs.mem hb).1
 rw[e]at this;cases this
theorem Inv.bs(I:Inv X pins σ H s):∀b o,X.base.get? b=some o->s.heap.get? b=some o/\H b=none:=λb o e=>
 ⟨I.base.keep b o (I.ok.bs b o e).1 (I.ok.bs b o e).2 (I.ok.nofr e) (I.ok.noex b o e),I.base.free b o (I.ok.bs b o e).1 (I.ok.bs b o e).2 (I.ok.noex b o e)⟩
theorem Inv.bk(I:Inv X pins σ H s):∀b o,X.base.get? b=some o->s.heap.get? b=some o:=λb o e=>(I.bs b o e).1
theorem Inv.mod(I:Inv X pins σ H s):Mod X.K X.mg X.base:=I.ok.mod
theorem Inv.kIn(I:Inv X pins σ H s):X.K.In s.heap:=I.ok.mod.kin.keeps I.bk
theorem Inv.fr(I:Inv X pins σ H s):∃m,Fr X.base X.env.locals s.heap m:=
 let⟨m,hn,_⟩:=I.loc
 ⟨m,hn,I.bk,aR I.ok.bsz I.ok.above⟩
theorem Inv.lt(I:Inv X pins σ H s):X.env.locals<s.heap.objs.size:=let⟨_,hn,_⟩:=I.loc;hn.lt
theorem Inv.sz(I:Inv X pins σ H s):X.s₀.heap.objs.size<=s.heap.objs.size:=aR I.ok.above (iE I.lt)
theorem Inv.nofs(I:Inv X pins σ H s){a:Addr}(h:s.heap.objs.size<=a):a∉X.fs:=λhb=>by
 obtain⟨_,o,ho,_⟩:=I.ok.funs.mem hb
 exact absurd (a9 (aB ho) (aR I.sz h)) (c7 _)
theorem Inv.cne(I:Inv X pins σ H s):∀x c,X.env.cells.lookup x=some c->c≠X.env.locals:=λx c e z=>by
 obtain⟨v,o,ho,hd⟩:=I.cell x c e
 obtain⟨m,⟨o',es,ep,ho',hd',_⟩,_⟩:=I.loc
 rw[z,ho']at ho;cases ho;rw[hd']at hd;cases hd
theorem Inv.funs(I:Inv X pins σ H s):s.heap.FunFrames X.base X.outer:=by
 have all:∀(l:List Env),(∀b∈lq l,b∈X.fs)->X.s₀.heap.FunFrames X.base l->s.heap.FunFrames X.base l:=by
  intro l
  induction l with
  |nil=>intro _ _;trivial
  |cons env r ih=>
   intro hs hl
   obtain⟨hk,⟨L,o,hf,hn,ho,hd⟩,hr⟩:=hl
   have hL:L∈X.fs:=hs L (by unfold lq;rw[gM,hf];exact gY)
   obtain⟨sl,e⟩:=I.base.slot L o ho (I.ok.frf L hL) hL λz=>I.ok.exfs L z hL
   exact⟨hk,⟨L,_,hf,hn,e,hd⟩,ih (λb hb=>hs b (by unfold lq;rw[gM,hf];exact cV _ hb)) hr⟩
 exact all X.outer (λ_ hb=>hb) I.ok.funs
theorem Inv.stack(I:Inv X pins σ H s):s.heap.FunFrames X.base X.stack:=by
 rcases I.ok.stk with e|⟨e,hf⟩
 ·rw[e];exact I.funs
 ·rw[e]
  obtain⟨m,hn,_⟩:=I.loc
  refine .cons (by rw[I.ok.kind];decide) hf hn ?_ I.funs
  exact Heap.get?_none_of_le (aR I.ok.bsz I.ok.above)
theorem Inv.stkSub(I:Inv X pins σ H s):∀b∈lq X.stack,b∈X.env.locals::X.fs:=λb hb=>by
 rcases I.ok.stk with e|⟨e,hf⟩
 ·rw[e]at hb;exact cV _ hb
 ·rw[e]at hb
  unfold lq at hb
  rw[gM,hf]at hb
  exact hb
theorem Inv.stkFree(I:Inv X pins σ H s):∀b∈lq X.stack,H b=none:=λb hb=>by
 rcases aI.mp (I.stkSub b hb)with e|hb
 ·rw[e];exact I.free
 ·obtain⟨_,o,ho,_⟩:=I.ok.funs.mem hb
  exact I.base.free b o ho (I.ok.frf b hb) λz=>I.ok.exfs b z hb
theorem Inv.step{g':Array GenState}{t':Nat}{d':Drawn}{ch:List Addr}(I:Inv X pins σ H s)
  (hch:∀b∈ch,(b∈X.ex\/X.s₀.heap.objs.size<=b)/\b≠X.env.locals/\(∀x c,X.env.cells.lookup x=some c->c≠b)/\∀p∈X.pn++pins,p.1≠b)
  (keep:∀b o,b≠X.env.locals->b∉X.fs->b∉ch->s.heap.get? b=some o->H b=none->h'.get? b=some o)
  (slot:∀b o,b≠X.env.locals->b∈X.fs->b∉ch->s.heap.get? b=some o->H b=none->∃sl,h'.get? b=some {o with slots:=sl}) (free:∀b o,b∉ch->s.heap.get? b=some o->H b=none->H' b=none)
  (there:∀b o,b∉ch->s.heap.get? b=some o->∃o',h'.get? b=some o')
  (tups:∀b xs,H b=some (.tup xs)->H' b=some (.tup xs)) (frzs:∀b o u,H b=some (.frz o u)->H' b=some (.frz o u)) (tbls:∀b ps,H b=some (.tbl ps)->∃more,H' b=some (.tbl (ps++more)))
  (ns:∀m,s.heap.Ns X.env.locals m->h'.Ns X.env.locals m) (hok:HOk X.prog X.w H' h') (hg:ly g'):
  Inv X pins σ H' {s with heap:=h',gens:=g',drawn:=d',toks:=t'}:=by
 have neL:∀b o,X.s₀.heap.get? b=some o->b≠X.env.locals:=λb o e=>aN (a9 (aB e) I.ok.above)
 have neC:∀b o,X.s₀.heap.get? b=some o->b∉X.ex->b∉ch:=λb o e hx hb=>by
  rcases(hch b hb).1 with z|z
  ·exact hx z
  ·exact absurd (a9 (aB e) z) (c7 _)
 have cellK:∀x c,X.env.cells.lookup x=some c->∀v,s.heap.IsCell c v->h'.IsCell c v:=λx c e v hPl=>by
  obtain⟨o,ho,hd⟩:=hPl
  have nch:c∉ch:=λz=>(hch c z).2.2.1 x c e rfl
  by_cases hc:c∈X.fs
  ·obtain⟨sl,q⟩:=slot c o (I.cne x c e) hc nch ho (I.freeC x c e)
   exact⟨_,q,hd⟩
  ·exact⟨o,keep c o (I.cne x c e) hc nch ho (I.freeC x c e),hd⟩
 refine⟨I.ok,I.os,hg,⟨λb o e n hb hx=> ?_,λb o e n hb hx=> ?_,λb o e n hx=> ?_,λb o e hx=> ?_,λb xs e=>tups b xs (I.base.tups b xs e),λb o xs e=>frzs b o xs (I.base.frzs b o xs e),λb ps e=> ?_⟩,?_,λx c e=> ?_,?_,λx c e=> ?_,λp hp=> ?_,hok,I.len⟩
 ·exact keep b o (neL b o e) hb (neC b o e hx) (I.base.keep b o e n hb hx) (I.base.free b o e n hx)
 ·obtain⟨sl,e1⟩:=I.base.slot b o e n hb hx
  obtain⟨sl',e2⟩:=slot b _ (neL b o e) hb (neC b o e hx) e1 (I.base.free b o e n hx)
  exact⟨sl',e2⟩
 ·obtain⟨o',e1⟩:=I.base.there b o e hx
  exact free b o' (neC b o e hx) e1 (I.base.free b o e n hx)
 ·obtain⟨o',e1⟩:=I.base.there b o e hx
  exact there b o' (neC b o e hx) e1
 ·obtain⟨m1,e1⟩:=I.base.tbls b ps e
  obtain⟨m2,e2⟩:=tbls b _ e1
  exact⟨m1++m2,by rw[e2,Array.append_assoc]⟩
 ·obtain⟨m,hn,hl⟩:=I.loc
  refine⟨m,ns m hn,λi x v e1 e2 e3=> ?_⟩
  obtain⟨u,r,l⟩:=hl i x v e1 e2 e3
  refine⟨u,r,?_⟩
  rcases l with l|⟨k,c,e,z⟩
  ·exact .inl l
  ·exact .inr ⟨k,c,e,cellK x c e _ z⟩
 ·obtain⟨v,z⟩:=I.cell x c e
  exact⟨v,cellK x c e v z⟩
 ·obtain⟨m,⟨o,_,_,ho,_⟩,_⟩:=I.loc
  exact free _ o (λz=>(hch _ z).2.1 rfl) ho I.free
 ·obtain⟨v,o,ho,hd⟩:=I.cell x c e
  exact free c o (λz=>(hch c z).2.2.1 x c e rfl) ho (I.freeC x c e)
 ·obtain⟨e,n,ne,nf,d⟩:=I.pin p hp
  have nch:p.1∉ch:=λz=>(hch p.1 z).2.2.2 p hp rfl
  exact⟨keep p.1 p.2 ne nf nch e n,free p.1 p.2 nch e n,ne,nf,d⟩
theorem Inv.un{t':Nat}(I:Inv X pins σ H s)(u:Un X.fs [] H H' s.heap h')(hok:HOk X.prog X.w H' h'):Inv X pins σ H' {s with heap:=h',toks:=t'}:=by
 obtain⟨m,⟨o,es,ep,ho,r⟩,_⟩:=id I.loc
 obtain⟨sl,hL⟩:=u.any ho I.free (by simp)
 exact I.step (g':=s.gens) (d':=s.drawn) (ch:=[]) (λ_ z=>nomatch z) (λb o _ hb _ e n=>u.keep b o e n hb (by simp)) (λb o _ hb _ e n=>u.slot b o e n hb (by simp)) (λb o _ e n=>u.free b o e n (by simp)) (λb o _ e=>u.there b o e (by simp)) u.tups u.frzs u.tbls (λm' hm=>by
  obtain⟨o',es',ep',ho',r'⟩:=hm
  rw[ho]at ho';cases ho'
  exact⟨_,es',ep',hL,r'⟩) hok I.bare
theorem Inv.call{g':Array GenState}{t':Nat}{d':Drawn}{ch:List Addr}(I:Inv X pins σ H s)(u:Un (lq X.stack) ch H H' s.heap h')(hok:HOk X.prog X.w H' h')(hg:ly g')
  (hch:∀b∈ch,(b∈X.ex\/X.s₀.heap.objs.size<=b)/\b≠X.env.locals/\(∀x c,X.env.cells.lookup x=some c->c≠b)/\∀p∈X.pn++pins,p.1≠b):
  Inv X pins σ H' {s with heap:=h',gens:=g',drawn:=d',toks:=t'}:=by
 obtain⟨m,⟨o,es,ep,ho,r⟩,_⟩:=id I.loc
 obtain⟨sl,hL⟩:=u.any ho I.free λz=>(hch _ z).2.1 rfl
 exact I.step (ch:=ch) hch (λb o hL hb hc e n=>u.keep b o e n (λz=>(aI.mp (I.stkSub b z)).elim hL hb) hc) (λb o _ _ hc e n=>u.any e n hc) (λb o hc e n=>u.free b o e n hc) (λb o hc e=>u.there b o e hc) u.tups u.frzs u.tbls (λm' hm=>by
  obtain⟨o',es',ep',ho',r'⟩:=hm
  rw[ho]at ho';cases ho'
  exact⟨_,es',ep',hL,r'⟩) hok hg
theorem Inv.turned{t':Nat}{it:Addr}(I:Inv X pins σ H s)(k:∀b o,b≠it->s.heap.get? b=some o->h'.get? b=some o)(hn:H it=none)(hL:it≠X.env.locals)
  (h1:it∈X.ex\/X.s₀.heap.objs.size<=it) (h2:∀x c,X.env.cells.lookup x=some c->c≠it) (h3:∀p∈X.pn++pins,p.1≠it):Inv X pins σ H {s with heap:=h',toks:=t'}:=by
 have nit:∀b u,H b=some u->b≠it:=λb u e z=>by rw[z,hn]at e;cases e
 refine I.step (g':=s.gens) (d':=s.drawn) (ch:=[it]) (λb hb=> ?_) (λb o _ _ hc e _=>k b o (λz=>hc (by simp[z])) e) (λb o _ _ hc e _=>⟨o.slots,k b o (λz=>hc (by simp[z])) e⟩) (λ_ _ _ _ n=>n)
  (λb o hc e=>⟨o,k b o (λz=>hc (by simp[z])) e⟩) (λ_ _ e=>e) (λ_ _ _ e=>e) (λb ps e=>⟨#[],by rw[e];simp⟩) (λm hm=> ?_) (λb u e=> ?_) I.bare
 ·have e:b=it:=by simpa using hb
  subst e
  exact⟨h1,hL,h2,h3⟩
 ·obtain⟨o,es,ep,ho,r⟩:=hm
  exact⟨o,es,ep,k _ o (aG hL) ho,r⟩
 ·refine(I.hok b u e).stay (λc v hc q=>k c v ?_ q) (λ_ q=>q) λ_ _ q=>q
  rcases hc with z|z
  ·rw[z];exact nit b u e
  ·exact nit c _ z
theorem Inv.tok(I:Inv X pins σ H s)(t:Nat):Inv X pins σ H {s with toks:=t}:=I.un (h':=s.heap) (t':=t) Un.refl I.hok
theorem Inv.kept{t':Nat}(I:Inv X pins σ H s)(k:∀b u,s.heap.get? b=some u->h'.get? b=some u):Inv X pins σ H {s with heap:=h',toks:=t'}:=I.un (Un.kept k) (I.hok.kept k)
theorem Inv.laid{a:Addr}{o:HO}{t':Nat}(I:Inv X pins σ H s)(k:∀b u,s.heap.get? b=some u->h'.get? b=some u)(hp:s.heap.objs.size<=a)(new:ObjOk X.prog X.w (upd H a o) h' a o):
  Inv X pins σ (upd H a o) {s with heap:=h',toks:=t'}:=I.un (Un.laid k hp (I.hok.fresh hp)) (I.hok.laid k hp new)
theorem Inv.write{x e:Addr}{o:HO}{t':Nat}(I:Inv X pins σ H s)(mu:Ng (H x))(he:e=x\/H e=some (.own x))(k:∀b u,b≠e->s.heap.get? b=some u->h'.get? b=some u)(heo:∃u,h'.get? e=some u)
  (new:ObjOk X.prog X.w (upd H x o) h' x o):Inv X pins σ (upd H x o) {s with heap:=h',toks:=t'}:=I.un (Un.write mu he k heo) (I.hok.write mu he k heo new)
theorem Inv.weak{σ':List (Option V)}(I:Inv X pins σ H s)(hl:σ'.length=σ.length)(w:∀(i:Nat) v,σ'[i]? =some (some v)->σ[i]? =some (some v)):Inv X pins σ' H s:=
 ⟨I.ok,I.os,I.bare,I.base,let⟨m,hn,hl'⟩:=I.loc;⟨m,hn,λi x v e1 e2 e3=>hl' i x v e1 (w i v e2) e3⟩,I.cell,I.free,I.freeC,I.pin,I.hok,hl.trans I.len⟩
theorem Inv.pins_of{pins':List (Addr×Obj)}(I:Inv X pins σ H s)(h:∀p∈pins',s.heap.get? p.1=some p.2/\H p.1=none/\p.1≠X.env.locals/\p.1∉X.fs/\∀v,p.2.data≠ .cell v):Inv X pins' σ H s:=
 ⟨I.ok,I.os,I.bare,I.base,I.loc,I.cell,I.free,I.freeC,λp hp=>(bo.mp hp).elim (λz=>I.pin p (List.mem_append_left _ z)) (h p),I.hok,I.len⟩
theorem qP{N:List Str}(hN:N.Nodup){i j:Nat}{x:Str}(a:N[i]? =some x)(b:N[j]? =some x):i=j:=by
 obtain⟨h1,e1⟩:=am.mp a
 obtain⟨h2,e2⟩:=am.mp b
 exact(List.getElem_inj hN).mp (e1.trans e2.symm)
theorem z8{M:Model}{A:Around}{E:ae->ai->Prop}{i:Nat}{x:Str}{v:V}{u:ae}{Q:Unit->ai->Prop}(I:Inv X pins σ H s)(hN:X.N.Nodup)(hi:X.N[i]? =some x)(hx:vm X.env.scope x)(r:RelV v u)
  (h:∀s',Inv X pins (σ.set i (some v)) H s'->(∃a,eA a s.heap s'.heap/\(a=X.env.locals\/X.env.cells.lookup x=some a))->Q () s') (hf:X.fn x=true\/X.env.scope.names.lookup x=some .local:=by first|exact .inl rfl|exact .inr rfl|assumption):wpAny M A (storeName X.env x u) Q E s:=by
 obtain⟨m,hn,hl⟩:=id I.loc
 have hcls:(X.env.scope.kind== .class||(X.env.scope.kind== .module&&X.env.locals !=X.env.globals))=false:=by rw[I.ok.kind];rfl
 have hiσ:i<σ.length:=by rw[I.len];exact(am.mp hi).1
 have cne:=I.cne
 have tracked:∀{a:Addr} {h':Heap},(∃o,s.heap.get? a=some o/\H a=none)->eA a s.heap h'->HOk X.prog X.w H h':=fun{a h'} ha hs b ob e=>by
  obtain⟨_,_,hfree⟩:=ha
  refine(I.hok b ob e).stay (λc w' hc q=>(hs.2 c ?_).trans q) (λ_ q=>q) λ_ _ q=>q
  rintro rfl
  rcases hc with rfl|hc
  ·rw[hfree]at e;cases e
  ·rw[hfree]at hc;cases hc
 rcases hx with hk|hk
 ·refine wpAny_storeName_local hk hn (λh' hn' hs=> ?_) hcls
  obtain⟨oL,_,_,hoL,_⟩:=id hn
  refine h _ ⟨I.ok,I.os,I.bare,⟨λb o e n hb hx=> ?_,λb o e n hb hx=> ?_,I.base.free,λb o e hx=> ?_,I.base.tups,I.base.frzs,I.base.tbls⟩,⟨_,hn',λj y v' e1 e2 e3=> ?_⟩,λy c e=> ?_,I.free,I.freeC,λp hp=> ?_,tracked ⟨oL,hoL,I.free⟩ hs,by simpa using I.len⟩ ⟨_,hs,.inl rfl⟩
  ·exact(hs.2 b (aN (a9 (aB e) I.ok.above))).trans (I.base.keep b o e n hb hx)
  ·obtain⟨sl,e1⟩:=I.base.slot b o e n hb hx
   exact⟨sl,(hs.2 b (aN (a9 (aB e) I.ok.above))).trans e1⟩
  ·obtain⟨o',e1⟩:=I.base.there b o e hx
   exact⟨o',(hs.2 b (aN (a9 (aB e) I.ok.above))).trans e1⟩
  ·by_cases hj:j=i
   ·subst hj
    rw[hi]at e1;cases e1
    rw[cI hiσ]at e2
    cases e2
    exact⟨u,r,.inl ⟨hk,by simp⟩⟩
   ·rw[cq (aG hj)]at e2
    obtain⟨u',r',q⟩:=hl j y v' e1 e2 e3
    refine⟨u',r',?_⟩
    rcases q with⟨k,e⟩|⟨k,c,e,z⟩
    ·refine .inl ⟨k,?_⟩
     have:y≠x:=λe=>hj (qP hN e1 (e▸hi))
     simp[this,e]
    ·exact .inr ⟨k,c,e,z.sameBut hs (cne y c e)⟩
  ·obtain⟨w',z⟩:=I.cell y c e
   exact⟨w',z.sameBut hs (cne y c e)⟩
  ·obtain⟨e,n,ne,nf,d⟩:=I.pin p hp
   exact⟨(hs.2 p.1 ne).trans e,n,ne,nf,d⟩
 ·have hfn:X.fn x=true:=by
   rcases hf with z|z
   ·exact z
   ·rw[z]at hk;cases hk
  obtain⟨c,hc⟩:=I.ok.has x (.inl hk)
  obtain⟨w',z⟩:=I.cell x c hc
  refine wpAny_storeName_cell I.ok.kind hk hc z (λh' hc' hs=> ?_)
  obtain⟨oc,hoc,hocd⟩:=id z
  refine h {s with heap:=h'} ⟨I.ok,I.os,I.bare,⟨λb o e n hb hx=> ?_,λb o e n hb hx=> ?_,I.base.free,λb o e hx=> ?_,I.base.tups,I.base.frzs,I.base.tbls⟩,⟨m,hn.sameBut hs (aG (cne x c hc)),λj y v' e1 e2 e3=> ?_⟩,λy c' e=> ?_,I.free,I.freeC,λp hp=> ?_,tracked ⟨oc,hoc,I.freeC x c hc⟩ hs,by simpa using I.len⟩ ⟨c,hs,.inr hc⟩
  ·exact(hs.2 b (aN (a9 (aB e) (I.ok.cab x c hfn hc)))).trans (I.base.keep b o e n hb hx)
  ·obtain⟨sl,e1⟩:=I.base.slot b o e n hb hx
   exact⟨sl,(hs.2 b (aN (a9 (aB e) (I.ok.cab x c hfn hc)))).trans e1⟩
  ·obtain⟨o',e1⟩:=I.base.there b o e hx
   exact⟨o',(hs.2 b (aN (a9 (aB e) (I.ok.cab x c hfn hc)))).trans e1⟩
  ·by_cases hj:j=i
   ·subst hj
    rw[hi]at e1;cases e1
    rw[cI hiσ]at e2
    cases e2
    exact⟨u,r,.inr ⟨.inl hk,c,hc,hc'⟩⟩
   ·rw[cq (aG hj)]at e2
    obtain⟨u',r',q⟩:=hl j y v' e1 e2 e3
    refine⟨u',r',?_⟩
    rcases q with q|⟨k,c',e,z'⟩
    ·exact .inl q
    ·refine .inr ⟨k,c',e,z'.sameBut hs ?_⟩
     rintro rfl
     exact hj (qP hN e1 (I.ok.inj _ _ _ e hc▸hi))
  ·by_cases hcc:c'=c
   ·subst hcc;exact⟨_,hc'⟩
   ·obtain⟨w2,z2⟩:=I.cell y c' e
    exact⟨w2,z2.sameBut hs hcc⟩
  ·obtain⟨e,n,ne,nf,d⟩:=I.pin p hp
   refine⟨(hs.2 p.1 ?_).trans e,n,ne,nf,d⟩
   intro q
   rw[q,hoc]at e
   have q':oc=p.2:=bf e
   exact d w' (by rw[<-q'];exact hocd)
theorem kD{M:Model}{A:Around}{E:ae->ai->Prop}{i:Nat}{x:Str}{v:V}{u:ae}{Q:Unit->ai->Prop}(I:Inv X pins σ H s)(hN:X.N.Nodup)(hi:X.N[i]? =some x)(hx:vm X.env.scope x)(r:RelV v u)
  (h:∀s',Inv X pins (σ.set i (some v)) H s'->Q () s') (hf:X.fn x=true\/X.env.scope.names.lookup x=some .local:=by first|exact .inl rfl|exact .inr rfl|assumption):wpAny M A (storeName X.env x u) Q E s:=
 z8 I hN hi hx r (λs' I' _=>h s' I') hf
theorem Inv.call'{s':ai}{ch:List Addr}(I:Inv X pins σ H s)(ho:s'.os=s.os)(u:Un (lq X.stack) ch H H' s.heap s'.heap)(hok:HOk X.prog X.w H' s'.heap)(hg:ly s'.gens)
  (hch:∀b∈ch,(b∈X.ex\/X.s₀.heap.objs.size<=b)/\b≠X.env.locals/\(∀x c,X.env.cells.lookup x=some c->c≠b)/\∀p∈X.pn++pins,p.1≠b):Inv X pins σ H' s':=by
 obtain⟨h',g',d',t',o'⟩:=s'
 have e:o'=s.os:=ho
 subst e
 exact I.call (g':=g') (t':=t') (d':=d') u hok hg hch
end
noncomputable abbrev XK:=ae->Option Addr->Hp->Prop
noncomputable abbrev St:=List (Option V)
noncomputable abbrev VK:=V->Hp->Prop
noncomputable abbrev TE:=St->Hp->VK->Prop
noncomputable abbrev TT:=St->Hp->(Bool->Hp->Prop)->Prop
noncomputable abbrev TA:=St->Hp->(List V->Hp->Prop)->Prop
structure Ends where
 nx:St->Hp->Prop
 rt:VK
 bk:St->Hp->Prop:=λ_ _=>False
 ct:St->Hp->Prop:=λ_ _=>False
noncomputable abbrev TS:=Ends->St->Hp->Prop
noncomputable def EP(X:Cx)(pins:List (Addr×Obj))(σ:St)(Q:VK)(u:ae)(s':ai):Prop:=∃v H',Inv X pins σ H' s'/\RelV v u/\Q v H'
noncomputable def TP(X:Cx)(pins:List (Addr×Obj))(σ:St)(Q:Bool->Hp->Prop)(b:Bool)(s':ai):Prop:=∃H',Inv X pins σ H' s'/\Q b H'
noncomputable def AP(X:Cx)(pins:List (Addr×Obj))(σ:St)(Q:List V->Hp->Prop)(us:List ae)(s':ai):Prop:=∃vs H',Inv X pins σ H' s'/\Vals vs us/\Q vs H'
noncomputable def SP(X:Cx)(pins:List (Addr×Obj))(D:Ends)(f:Flow)(s':ai):Prop:=
 match f with
 | .next=>∃σ' H',Inv X pins σ' H' s'/\D.nx σ' H'
 | .brk=>∃σ' H',Inv X pins σ' H' s'/\D.bk σ' H'
 | .cont=>∃σ' H',Inv X pins σ' H' s'/\D.ct σ' H'
 | .ret u=>∃v σ' H',Inv X pins σ' H' s'/\RelV v u/\D.rt v H'
noncomputable def PE(X:Cx)(e:Expr)(t:TE):Prop:=
 ∀(pins:List (Addr×Obj)) (s:ai) (σ:St) (H:Hp) (Q:VK),Inv X pins σ H s->t σ H Q->wpAny (aQ X.prog X.w) X.A (eval e X.env) (EP X pins σ Q) X.xe s
noncomputable def PT(X:Cx)(e:Expr)(t:TT):Prop:=
 ∀(pins:List (Addr×Obj)) (s:ai) (σ:St) (H:Hp) (Q:Bool->Hp->Prop),Inv X pins σ H s->t σ H Q->wpAny (aQ X.prog X.w) X.A (isTrue e X.env (eval e X.env)) (TP X pins σ Q) X.xe s
noncomputable def PW(X:Cx)(e:Expr)(t:TT):Prop:=
 ∀(whole:Sem ae) (pins:List (Addr×Obj)) (s:ai) (σ:St) (H:Hp) (Q:Bool->Hp->Prop),Inv X pins σ H s->t σ H Q->wpAny (aQ X.prog X.w) X.A (isTrue e X.env whole) (TP X pins σ Q) X.xe s
theorem PW.pt{X:Cx}{e:Expr}{t:TT}(h:PW X e t):PT X e t:=h _
noncomputable def PA(X:Cx)(es:List Expr)(t:TA):Prop:=
 ∀(pos:Pos) (pins:List (Addr×Obj)) (s:ai) (σ:St) (H:Hp) (Q:List V->Hp->Prop),Inv X pins σ H s->t σ H Q->wpAny (aQ X.prog X.w) X.A (spliced (bT pos (au es X.env))) (AP X pins σ Q) X.xe s
noncomputable def PS(X:Cx)(st:Stmt)(t:TS):Prop:=
 ∀(pins:List (Addr×Obj)) (s:ai) (σ:St) (H:Hp) (D:Ends),Inv X pins σ H s->t D σ H->wpAny (aQ X.prog X.w) X.A (exec st X.env) (SP X pins D) X.xe s
noncomputable def PSs(X:Cx)(st:List Stmt)(t:TS):Prop:=
 ∀(pins:List (Addr×Obj)) (s:ai) (σ:St) (H:Hp) (D:Ends),Inv X pins σ H s->t D σ H->wpAny (aQ X.prog X.w) X.A (execs st X.env) (SP X pins D) X.xe s
theorem eD{α:Type}{t:Sem α}{Q Q':α->ai->Prop}{M:Model}{A:Around}{E:ae->ai->Prop}{s:ai}(h:wpAny M A t Q E s)(hQ:∀a s,Q a s->Q' a s):wpAny M A t Q' E s:=bj h hQ λ_ _ x=>x
section
variable{X:Cx}
noncomputable def ND(i:Nat):TE:=λσ H Q=>∃v,σ[i]? =some (some v)/\Q v H
noncomputable def tC(v:V):TE:=λ_ H Q=>Q v H
theorem Iz{i:Nat}{x:Str}{pos:Pos}(hN:X.N[i]? =some x)(hv:Nr X.env.scope x)(hd:(x==("__debug__" :Str))=false:=by decide)(hcd:(x==("__classdict__" :Str))=false:=by decide):PE X (.Name x pos) (ND i):=by
 intro pins s σ H Q I h
 obtain⟨v,e,h⟩:=h
 obtain⟨m,hn,hl⟩:=I.loc
 obtain⟨u,r,l⟩:=hl i x v hN e hv
 have fin:EP X pins σ Q u s:=⟨v,H,I,r,h⟩
 rcases l with⟨hk,hm⟩|⟨hk,c,hc,hcell⟩
 ·exact wpAny_Name (wpAny_loadName_local I.ok.kind hk hn hm fin) hd
 ·rcases hk with hk|hk
  ·exact wpAny_Name (wpAny_loadName_cell I.ok.kind hk hc hcell fin) hd
  ·exact wpAny_Name (wpAny_loadName_free I.ok.kind hk hc hcell fin hcd) hd
theorem Ck{i j pos}:PE X (.Constant (.int i) j pos) (tC (.int i)):=λ_ _ _ H _ I h=>wpAny_Constant_int ⟨.int i,H,I.tok _,⟨_,rfl⟩,h⟩
theorem Lv{b j pos}:PE X (.Constant (.bool b) j pos) (tC (.bl b)):=λ_ _ _ H _ I h=>Constant_bool ⟨.bl b,H,I,rfl,h⟩
theorem IE{j pos}:PE X (.Constant .none j pos) (tC .non):=λ_ _ _ H _ I h=>Constant_none ⟨.non,H,I,rfl,h⟩
theorem IB{x j pos}:PE X (.Constant (.str x) j pos) (tC (.str x)):=λ_ _ _ H _ I h=>Calls.Constant_str ⟨.str x,H,I.tok _,⟨_,rfl⟩,h⟩
noncomputable def Gl(X:Cx)(x:Str):Prop:=X.env.kindOf x=some .globalImplicit
theorem nr{E:ae->ai->Prop}{pins:List (Addr×Obj)}{s:ai}{σ:St}{H:Hp}{x:Str}{u:ae}{pos:Pos}{Q:ae->ai->Prop}(I:Inv X pins σ H s)(hg:Gl X x)(hm:X.mg x=some u)(h:Q u s)
  (hd:(x==("__debug__" :Str))=false:=by decide):wpAny (aQ X.prog X.w) X.A (eval (.Name x pos) X.env) Q E s:=
 jD I.ok.kind hg (wW (by rw[I.ok.glob];exact I.mod.glob.keeps I.bk) hm h) hd
theorem oP{E:ae->ai->Prop}{pins:List (Addr×Obj)}{s:ai}{σ:St}{H:Hp}{x:Str}{u:ae}{pos:Pos}{Q:ae->ai->Prop}(I:Inv X pins σ H s)(hg:Gl X x)(hm:X.mg x=none)(hv:cA x=some u)(h:Q u s)
  (hn:x≠ "__name__" :=by decide) (hd:(x==("__debug__" :Str))=false:=by decide):wpAny (aQ X.prog X.w) X.A (eval (.Name x pos) X.env) Q E s:=by
 obtain⟨mb,h1,h2⟩:=I.mod.blt
 exact jD I.ok.kind hg (Calls.loadGlobal_builtin (by rw[I.ok.glob];exact I.mod.glob.keeps I.bk) hm (by rw[I.ok.blt];exact h1.keeps I.bk) ((h2 x hn).trans hv) h) hd
theorem Fe{x:Str}{v:V}{u:ae}{pos:Pos}(hg:Gl X x)(hm:X.mg x=some u)(r:RelV v u)(hd:(x==("__debug__" :Str))=false:=by decide):PE X (.Name x pos) (tC v):=
 λ_ _ _ H _ I h=>nr I hg hm ⟨v,H,I,r,h⟩ hd
theorem Fk{x:Str}{v:V}{u:ae}{pos:Pos}(hg:Gl X x)(hm:X.mg x=none)(hv:cA x=some u)(r:RelV v u)(hn:x≠ "__name__" :=by decide)(hd:(x==("__debug__" :Str))=false:=by decide):PE X (.Name x pos) (tC v):=
 λ_ _ _ H _ I h=>oP I hg hm hv ⟨v,H,I,r,h⟩ hn hd
variable{a b:Expr}{ta tb:TE}{pos:Pos}
noncomputable def tB(t:TE):TT:=λσ H Q=>t σ H λx H1=>∃c,x= .bl c/\Q c H1
theorem Ij{e:Expr}{t:TE}(h:PE X e t)(he:∀whole,isTrue e X.env whole=(do let v <-whole;standAt e.pos;holding [v] (truthy v)):=by intro _;rfl):PT X e (tB t):=by
 intro pins s σ H Q I hw
 refine isTrue_plain (eD (h pins s σ H _ I hw) λv s1 hPl=> ?_) (he _)
 obtain⟨x,H1,I1,r1,q1⟩:=hPl
 obtain⟨d,rfl,q⟩:=q1
 cases r1
 exact fj ⟨H1,I1,q⟩
variable{tA tB':TT}{rest:List Expr}
noncomputable def NS(t u:TT):TT:=λσ H Q=>t σ H λc H1=>if c=true then u σ H1 Q else Q false H1
noncomputable def tOr(t u:TT):TT:=λσ H Q=>t σ H λc H1=>if c=true then Q true H1 else u σ H1 Q
noncomputable def NK(t:TT):TT:=λσ H Q=>t σ H λc H1=>Q (!c) H1
theorem ER(ha:PT X a tA):PW X (.BoolOp .And [a] pos) tA:=by
 intro wh pins s σ H Q I h
 refine isTrue_and (eD (ha pins s σ H Q I h) λc s1 e=> ?_)
 cases c with
 |true=>exact isTrue_and_nil e
 |false=>exact e
theorem Ih(ha:PT X a tA):PW X (.BoolOp .Or [a] pos) tA:=by
 intro wh pins s σ H Q I h
 refine isTrue_or (eD (ha pins s σ H Q I h) λc s1 e=> ?_)
 cases c with
 |false=>exact isTrue_or_nil e
 |true=>exact e
theorem Ii(ha:PT X a tA)(hb:PW X (.BoolOp .And (b::rest) pos) tB'):PW X (.BoolOp .And (a::b::rest) pos) (NS tA tB'):=by
 intro wh pins s σ H Q I h
 refine isTrue_and (eD (ha pins s σ H _ I h) λc s1 hPl=> ?_)
 obtain⟨H1,I1,q1⟩:=hPl
 cases c with
 |true=>exact hb wh pins s1 σ H1 Q I1 q1
 |false=>exact⟨H1,I1,q1⟩
theorem Ln(ha:PT X a tA)(hb:PW X (.BoolOp .Or (b::rest) pos) tB'):PW X (.BoolOp .Or (a::b::rest) pos) (tOr tA tB'):=by
 intro wh pins s σ H Q I h
 refine isTrue_or (eD (ha pins s σ H _ I h) λc s1 hPl=> ?_)
 obtain⟨H1,I1,q1⟩:=hPl
 cases c with
 |true=>exact⟨H1,I1,q1⟩
 |false=>exact hb wh pins s1 σ H1 Q I1 q1
theorem Ik(ha:PT X a tA):PT X (.UnaryOp .Not a pos) (NK tA):=by
 intro pins s σ H Q I h
 exact isTrue_not (ha pins s σ H (λc H1=>Q (!c) H1) I h)
noncomputable def Le(ta tb:TE):TE:=λσ H Q=>ta σ H λx H1=>∃c,x= .bl c/\if c=true then tb σ H1 Q else Q (.bl false) H1
noncomputable def NJ(ta tb:TE):TE:=λσ H Q=>ta σ H λx H1=>∃c,x= .bl c/\if c=true then Q (.bl true) H1 else tb σ H1 Q
noncomputable def K5(ta:TE):TE:=λσ H Q=>ta σ H λx H1=>∃c,x= .bl c/\Q (.bl (!c)) H1
theorem IC{op}{t:TE}(h:PE X a t):PE X (.BoolOp op [a] pos) t:=λpins s σ H Q I hw=>BoolOp_one (h pins s σ H Q I hw)
theorem II(ha:PE X a ta)(hb:PE X (.BoolOp .And (b::rest) pos) tb):PE X (.BoolOp .And (a::b::rest) pos) (Le ta tb):=by
 intro pins s σ H Q I h
 refine BoolOp_and (eD (ha pins s σ H _ I h) λv s1 hPl=> ?_)
 obtain⟨x,H1,I1,r1,q1⟩:=hPl
 obtain⟨c,rfl,q1⟩:=q1
 cases r1
 refine fj ?_
 cases c with
 |true=>exact hb pins s1 σ H1 Q I1 q1
 |false=>exact⟨.bl false,H1,I1,rfl,q1⟩
theorem Lr(ha:PE X a ta)(hb:PE X (.BoolOp .Or (b::rest) pos) tb):PE X (.BoolOp .Or (a::b::rest) pos) (NJ ta tb):=by
 intro pins s σ H Q I h
 refine BoolOp_or (eD (ha pins s σ H _ I h) λv s1 hPl=> ?_)
 obtain⟨x,H1,I1,r1,q1⟩:=hPl
 obtain⟨c,rfl,q1⟩:=q1
 cases r1
 refine fj ?_
 cases c with
 |false=>exact hb pins s1 σ H1 Q I1 q1
 |true=>exact⟨.bl true,H1,I1,rfl,q1⟩
theorem ID(ha:PE X a ta):PE X (.UnaryOp .Not a pos) (K5 ta):=by
 intro pins s σ H Q I h
 refine UnaryOp_ (eD (ha pins s σ H _ I h) λv s1 hPl=> ?_)
 obtain⟨x,H1,I1,r1,q1⟩:=hPl
 obtain⟨c,rfl,q1⟩:=q1
 cases r1
 exact not_of (fj ⟨.bl (!c),H1,I1,rfl,q1⟩)
noncomputable def tIf(t:TT)(ta tb:TE):TE:=λσ H Q=>t σ H λc H1=>if c=true then ta σ H1 Q else tb σ H1 Q
theorem Cm{c:Expr}(hc:PT X c tA)(ha:PE X a ta)(hb:PE X b tb):PE X (.IfExp c a b pos) (tIf tA ta tb):=by
 intro pins s σ H Q I h
 refine wpAny_IfExp (eD (hc pins s σ H _ I h) λd s1 hPl=> ?_)
 obtain⟨H1,I1,q1⟩:=hPl
 cases d with
 |true=>exact ha pins s1 σ H1 Q I1 q1
 |false=>exact hb pins s1 σ H1 Q I1 q1
end
noncomputable def SqL(K:PySem.W.Frag)(H:Hp)(a:Addr)(xs:List V):Prop:=
 Rd H a (.lst xs)\/
  ∃(o:Obj) (its:Array ae) (n:Nat),K.lookup a=some o/\o.cls= .type "list" /\o.dict=none/\o.data= .seq its n/\its.size<=aO/\Vals xs its.toList
noncomputable def SqT(K:PySem.W.Frag)(H:Hp)(a:Addr)(xs:List V):Prop:=
 Rd H a (.tup xs)\/
  ∃(o:Obj) (its:Array ae) (n:Nat),K.lookup a=some o/\o.cls= .type "tuple" /\o.data= .seq its n/\its.size<=aO/\Vals xs its.toList
noncomputable def Ov:ae->Option V
 | .none=>some .non
 | .bool b=>some (.bl b)
 | .int i _=>some (.int i)
 | .str x _=>some (.str x)
 | .bytes b _=>some (.byt b)
 | .float b _=>some (.flt b)
 | .ref a=>some (.ref a)
 | .type n=>some (.ty n)
 |_=>none
theorem RelV.abs{x:V}{u:ae}(r:RelV x u):Ov u=some x:=by
 cases x with
 |non=>cases r;rfl
 |bl _=>cases r;rfl
 |int _=>obtain⟨t,rfl⟩:=r;rfl
 |str _=>obtain⟨t,rfl⟩:=r;rfl
 |byt _=>obtain⟨t,rfl⟩:=r;rfl
 |flt _=>obtain⟨t,rfl⟩:=r;rfl
 |ref _=>cases r;rfl
 |ty _=>cases r;rfl
theorem RelV.inj{x y:V}{u:ae}(r:RelV x u)(q:RelV y u):x=y:=bf (r.abs.symm.trans q.abs)
theorem Vals.inj:∀{xs ys:List V} {us:List ae},Vals xs us->Vals ys us->xs=ys
 |_,_,_,.nil,.nil=>rfl
 |_,_,_,.cons r t,.cons r' t'=>by rw[r.inj r',Vals.inj t t']
section
variable{X:Cx}{pins:List (Addr×Obj)}{σ:St}{H:Hp}{s:ai}{a:Addr}{xs ys:List V}
theorem SqL.of{K:PySem.W.Frag}(h:H a=some (.lst xs)):SqL K H a xs:= .inl (.inl h)
theorem SqT.of{K:PySem.W.Frag}(h:H a=some (.tup xs)):SqT K H a xs:= .inl (.inl h)
theorem Inv.list(I:Inv X pins σ H s)(h:SqL X.K H a xs):∃its:List ae,Vals xs its/\PlainL s.heap a its.toArray/\xs.length<=aO:=by
 rcases h with h|⟨o,its,n,hk,hc,hd,hs,hz,r⟩
 ·obtain⟨z,its,n,r,e⟩:=h.ok I.hok
  exact⟨its,r,⟨_,n,e,rfl,rfl,rfl⟩,z⟩
 ·refine⟨its.toList,r,⟨o,n,I.kIn a o hk,hc,hd,by simpa using hs⟩,?_⟩
  have e:=r.length
  simp only[bu]at e
  ac_nf
theorem Inv.tuple(I:Inv X pins σ H s)(h:SqT X.K H a xs):∃its:List ae,Vals xs its/\IsTup s.heap a its.toArray/\xs.length<=aO:=by
 rcases h with h|⟨o,its,n,hk,hc,hs,hz,r⟩
 ·obtain⟨z,its,r,p⟩:=h.ok I.hok
  exact⟨its,r,p,z⟩
 ·refine⟨its.toList,r,⟨o,I.kIn a o hk,hc,n,by simpa using hs⟩,?_⟩
  have e:=r.length
  simp only[bu]at e
  ac_nf
theorem Inv.list_inj(I:Inv X pins σ H s)(h:SqL X.K H a xs)(h':SqL X.K H a ys):xs=ys:=by
 obtain⟨its,r,⟨o,n,e,_,_,d⟩,_⟩:=I.list h
 obtain⟨its',r',⟨o',n',e',_,_,d'⟩,_⟩:=I.list h'
 rw[e]at e';cases e'
 rw[d]at d'
 injection d' with d1 _
 have:its=its':=by simpa using congrArg Array.toList d1
 subst this
 exact r.inj r'
theorem Inv.tuple_inj(I:Inv X pins σ H s)(h:SqT X.K H a xs)(h':SqT X.K H a ys):xs=ys:=by
 obtain⟨its,r,⟨o,e,_,n,d⟩,_⟩:=I.tuple h
 obtain⟨its',r',⟨o',e',_,n',d'⟩,_⟩:=I.tuple h'
 rw[e]at e';cases e'
 rw[d]at d'
 injection d' with d1 _
 have:its=its':=by simpa using congrArg Array.toList d1
 subst this
 exact r.inj r'
end
noncomputable abbrev Cx.wish(X:Cx)(E:ae->ai->Prop):Cx:={X with xe:=E}
noncomputable abbrev Cx.nox(X:Cx):Cx:=X.wish λ_ _=>False
theorem Cx.Ok.wish{X:Cx}(ok:X.Ok)(E:ae->ai->Prop):(X.wish E).Ok:=
 ⟨ok.mod,ok.kind,ok.glob,ok.blt,ok.above,ok.inj,ok.has,ok.cab,ok.hd,ok.frames,ok.stk,ok.exf,ok.bs,ok.bsz,ok.noex,ok.exfs,ok.funs,ok.frf⟩
theorem Cx.Ok.unwish{X:Cx}{E:ae->ai->Prop}(ok:(X.wish E).Ok):X.Ok:=
 ⟨ok.mod,ok.kind,ok.glob,ok.blt,ok.above,ok.inj,ok.has,ok.cab,ok.hd,ok.frames,ok.stk,ok.exf,ok.bs,ok.bsz,ok.noex,ok.exfs,ok.funs,ok.frf⟩
section
variable{X:Cx}{pins:List (Addr×Obj)}{σ:St}{H:Hp}{s:ai}{E:ae->ai->Prop}
theorem Inv.wish(I:Inv X pins σ H s)(E:ae->ai->Prop):Inv (X.wish E) pins σ H s:=⟨I.ok.wish E,I.os,I.bare,I.base,I.loc,I.cell,I.free,I.freeC,I.pin,I.hok,I.len⟩
theorem Inv.unwish(I:Inv (X.wish E) pins σ H s):Inv X pins σ H s:=⟨I.ok.unwish,I.os,I.bare,I.base,I.loc,I.cell,I.free,I.freeC,I.pin,I.hok,I.len⟩
theorem SP.unwish{D:Ends}{f:Flow}{s':ai}(h:SP (X.wish E) pins D f s'):SP X pins D f s':=by
 cases f with
 |next=>obtain⟨σ',H',I,q⟩:=h;exact⟨σ',H',I.unwish,q⟩
 |brk=>obtain⟨σ',H',I,q⟩:=h;exact⟨σ',H',I.unwish,q⟩
 |cont=>obtain⟨σ',H',I,q⟩:=h;exact⟨σ',H',I.unwish,q⟩
 |ret u=>obtain⟨v,σ',H',I,r,q⟩:=h;exact⟨v,σ',H',I.unwish,r,q⟩
theorem PSs.nox{st:List Stmt}{t:TS}(h:PSs X.nox st t):PSs X st t:=λpins s σ H D I hw=>
 bj (h pins s σ H D (I.wish _) hw) (λ_ _ q=>q.unwish) λ_ _ z=>bQ z
end
section
variable{X:Cx}{st:Stmt}{rest:List Stmt}{t u:TS}{e:Expr}{te:TE}{pos:Pos}
noncomputable def GX:TS:=λD σ H=>D.nx σ H
noncomputable def NG(t u:TS):TS:=λD σ H=>t {D with nx:=u D} σ H
theorem EU:PSs X [] GX:=λ_ _ σ H _ I h=>ij ⟨σ,H,I,h⟩
theorem Cb(h1:PS X st t)(h2:PSs X rest u):PSs X (st::rest) (NG t u):=by
 intro pins s σ H D I h
 refine wpAny_execs_cons (eD (h1 pins s σ H {D with nx:=u D} I h) λf s1 q=> ?_)
 cases f with
 |next=>
  obtain⟨σ',H',I',q⟩:=q
  exact h2 pins s1 σ' H' D I' q
 |ret v=>exact q
 |brk=>exact q
 |cont=>exact q
theorem ET(h1:PS X st t):PSs X [st] t:=by
 intro pins s σ H D I h
 refine wpAny_execs_cons (eD (h1 pins s σ H D I h) λf s1 q=> ?_)
 cases f with
 |next=>exact ij q
 |ret v=>exact q
 |brk=>exact q
 |cont=>exact q
theorem EV:PS X (.Pass pos) GX:=λ_ _ σ H _ I h=>wpAny_Pass ⟨σ,H,I,h⟩
theorem Inv.quiet{pins:List (Addr×Obj)}{σ:St}{H:Hp}{s:ai}(I:Inv X pins σ H s):interactive X.env=false:=by simp[interactive,I.ok.kind]
noncomputable def K8(te:TE):TS:=λD σ H=>te σ H λ_ H1=>D.nx σ H1
theorem EW(he:PE X e te)(hs:gQ e none pos.line X.env=pure false:=by rfl):PS X (.Expr e pos) (K8 te):=by
 intro pins s σ H D I h
 exact wpAny_Expr_any (eD (he pins s σ H _ I h) λv s1 ⟨x,H1,I1,r1,q1⟩=>⟨σ,H1,I1,q1⟩) I.quiet hs
noncomputable def NH(te:TE):TS:=λD σ H=>te σ H D.rt
theorem Im(he:PE X e te):PS X (.Return (some e) pos) (NH te):=by
 intro pins s σ H D I h
 exact wpAny_Return_some (eD (he pins s σ H _ I h) λv s1 ⟨x,H1,I1,r1,q1⟩=>⟨x,σ,H1,I1,r1,q1⟩)
noncomputable def NM(c:TT)(t u:TS):TS:=λD σ H=>c σ H λb H1=>if b=true then t D σ H1 else u D σ H1
theorem Lo{c:Expr}{a b:List Stmt}{tc:TT}(hc:PT X c tc)(ha:PSs X a t)(hb:PSs X b u):PS X (.If c a b pos) (NM tc t u):=by
 intro pins s σ H D I h
 refine wpAny_If (eD (hc pins s σ H _ I h) λd s1 hPl=> ?_)
 obtain⟨H1,I1,q1⟩:=hPl
 cases d with
 |true=>exact ha pins s1 σ H1 D I1 q1
 |false=>exact hb pins s1 σ H1 D I1 q1
end
noncomputable abbrev TG:=V->St->Hp->(St->Hp->Prop)->Prop
noncomputable abbrev KC:=List V->St->Hp->(St->Hp->Prop)->Prop
noncomputable def PG(X:Cx)(target:Expr)(t:TG):Prop:=
 ∀(pins:List (Addr×Obj)) (s:ai) (σ:St) (H:Hp) (v:V) (u:ae) (Q:St->Hp->Prop),Inv X pins σ H s->RelV v u->t v σ H Q->
  wpAny (aQ X.prog X.w) X.A (assign target X.env u) (λ_ s'=>∃σ' H',Inv X pins σ' H' s'/\Q σ' H') X.xe s
noncomputable def Nu(X:Cx)(ts:List Expr)(t:KC):Prop:=
 ∀(pins:List (Addr×Obj)) (s:ai) (σ:St) (H:Hp) (vs:List V) (us:List ae) (Q:St->Hp->Prop),Inv X pins σ H s->Vals vs us->t vs σ H Q->
  wpAny (aQ X.prog X.w) X.A (assignInOrder ((km ts X.env).map (·.2)) us) (λ_ s'=>∃σ' H',Inv X pins σ' H' s'/\Q σ' H') X.xe s
noncomputable abbrev yq:=V->V->V->Hp->(Hp->Prop)->Prop
noncomputable def PSet(X:Cx)(t:yq):Prop:=
 ∀(pins:List (Addr×Obj)) (s:ai) (σ:St) (H:Hp) (o i v:V) (ov iv u:ae) (Q:Hp->Prop),Inv X pins σ H s->RelV o ov->RelV i iv->RelV v u->t o i v H Q->
  wpAny (aQ X.prog X.w) X.A (setItem ov iv u) (λ_ s'=>∃H',Inv X pins σ H' s'/\Q H') X.xe s
noncomputable abbrev KP:=V->V->Hp->VK->Prop
noncomputable def KQ(X:Cx)(op:ko)(t:KP):Prop:=
 ∀(pins:List (Addr×Obj)) (s:ai) (σ:St) (H:Hp) (x y:V) (v u:ae) (Q:VK),Inv X pins σ H s->RelV x v->RelV y u->t x y H Q->
  wpAny (aQ X.prog X.w) X.A (inplaceOp op v u) (EP X pins σ Q) X.xe s
section
variable{X:Cx}{pos:Pos}
noncomputable def rh(i:Nat):TG:=λv σ H Q=>Q (σ.set i (some v)) H
theorem ik{i:Nat}{x:Str}(hN:X.N.Nodup)(hi:X.N[i]? =some x)(hx:vm X.env.scope x)(hf:X.fn x=true\/X.env.scope.names.lookup x=some .local:=by first|exact .inl rfl|exact .inr rfl|assumption):PG X (.Name x pos) (rh i):=by
 intro pins s σ H v u Q I r h
 exact wpAny_assign_Name (kD I hN hi hx r (λs' I'=>⟨_,H,I',h⟩) hf)
noncomputable def Mz:KC:=λvs σ H Q=>vs=[]/\Q σ H
noncomputable def DK(t:TG)(u:KC):KC:=λvs σ H Q=>∃v r,vs=v::r/\t v σ H λσ' H'=>u r σ' H' Q
theorem ux:Nu X [] Mz:=by
 intro pins s σ H vs us Q I r h
 obtain⟨e,h⟩:=h
 subst e
 cases r
 exact assignInOrder_nil ⟨σ,H,I,h⟩
theorem iw{e:Expr}{es:List Expr}{t:TG}{u:KC}(h1:PG X e t)(h2:Nu X es u)
  (hs:(km (e::es) X.env).map (·.2)=assign e X.env::(km es X.env).map (·.2):=by rfl):Nu X (e::es) (DK t u):=by
 intro pins s σ H vs us Q I r h
 obtain⟨v,vr,e1,h⟩:=h
 subst e1
 cases r with
 |cons r rr=>
  rw[hs]
  refine assignInOrder_cons (eD (h1 pins s σ H _ _ _ I r h) λ_ s1 hPl=> ?_)
  obtain⟨σ1,H1,I1,q1⟩:=hPl
  exact h2 pins s1 σ1 H1 _ _ Q I1 rr q1
noncomputable def Mw(K:PySem.W.Frag)(n:Nat)(t:KC):TG:=λv σ H Q=>∃a xs,v= .ref a/\SqT K H a xs/\xs.length=n/\t xs σ H Q
theorem xG{es:List Expr}{k:Nat}{t:KC}{n:Nat}(hc:X.calm=true)(h:Nu X es t)
  (hn:(km es X.env).length=n:=by rfl) (hst:(km es X.env).findIdx? (·.1)=none:=by rfl):PG X (.Tuple es k pos) (Mw X.K n t):=by
 intro pins s σ H v u Q I r hw
 obtain⟨a,xs,e1,hq,hl,hw⟩:=hw
 subst e1
 cases r
 obtain⟨its,rv,ht,hz⟩:=I.tuple hq
 refine assign_Tuple_tuple (I.ok.hd hc) ht (by simp[hn,<-hl,rv.length]) hst λh' hx=> ?_
 have I1:Inv X pins σ H {s with heap:=h'}:=I.kept (t':=s.toks) λb o e=>hx b o (aN (aB e)) e
 exact h pins _ σ H xs _ Q I1 (by simpa using rv) hw
noncomputable def Oo(to ti:TE)(t:yq):TG:=λv σ H Q=>to σ H λo H1=>ti σ H1 λi H2=>t o i v H2 λH3=>Q σ H3
theorem Iv{o i:Expr}{to ti:TE}{t:yq}(ho:PE X o to)(hi:PE X i ti)(hs:PSet X t)
  (ha:∀v,assign (.Subscript o i pos) X.env v=(do
   let ov <-holding [v] (eval o X.env)
   let iv <-holding [v,ov] (eval i X.env)
   standAt pos
   holding [v,ov,iv] (setItem ov iv v)
   release [v,ov,iv] []):=by intro _;rfl):PG X (.Subscript o i pos) (Oo to ti t):=by
 intro pins s σ H v u Q I r h
 rw[ha]
 refine aa (cJ (eD (ho pins s σ H _ I h) λov s1 hPl=> ?_))
 obtain⟨x,H1,I1,r1,q1⟩:=hPl
 refine aa (cJ (eD (hi pins s1 σ H1 _ I1 q1) λiv s2 hPl=> ?_))
 obtain⟨y,H2,I2,r2,q2⟩:=hPl
 refine aa (wpAny_standAt (aa (cJ (eD (hs pins s2 σ H2 x y v ov iv u _ I2 r1 r2 r q2) λ_ s3 hPl=> ?_))))
 obtain⟨H3,I3,q3⟩:=hPl
 exact wpAny_release ⟨σ,H3,I3,q3⟩
noncomputable def HN(te:TE)(g:TG):TS:=λD σ H=>te σ H λx H1=>g x σ H1 D.nx
theorem Ir{tg e:Expr}{te:TE}{g:TG}(he:PE X e te)(hg:PG X tg g)(hs:swapsWithSole [tg] e pos.line X.env=pure false:=by rfl)(hw:swappedStores [tg] e X.env=pure none:=by rfl)
  (h1:(km [tg] X.env).map (·.2)=[assign tg X.env]:=by rfl):PS X (.Assign [tg] e pos) (HN te g):=by
 intro pins s σ H D I h
 refine wpAny_Assign_stores (eD (he pins s σ H _ I h) λv s1 hPl=> ?_) hs hw
 obtain⟨x,H1,I1,r1,q1⟩:=hPl
 rw[h1]
 exact eD (hg pins s1 σ H1 x v _ I1 r1 q1) λ_ s2 q=>q
theorem Il{i:Nat}{x:Str}{e:Expr}{te:TE}{pos':Pos}(hN:X.N.Nodup)(hi:X.N[i]? =some x)(hx:vm X.env.scope x)(he:PE X e te)(hs:gQ e (some (.Name x pos')) pos.line X.env=pure false:=by rfl)(hf:X.fn x=true\/X.env.scope.names.lookup x=some .local:=by first|exact .inl rfl|exact .inr rfl|assumption):
  PS X (.Assign [.Name x pos'] e pos) (HN te (rh i)):=by
 intro pins s σ H D I h
 refine wpAny_Assign_Name (eD (he pins s σ H _ I h) λv s1 hPl=> ?_) hs
 obtain⟨y,H1,I1,r1,q1⟩:=hPl
 exact kD I1 hN hi hx r1 (λs2 I2=>⟨_,H1,I2,q1⟩) hf
noncomputable def NR(i:Nat)(te:TE)(ti:KP):TS:=λD σ H=>∃x,σ[i]? =some (some x)/\te σ H λy H1=>ti x y H1 λz H2=>D.nx (σ.set i (some z)) H2
theorem Iq{i:Nat}{x:Str}{e:Expr}{te:TE}{op:ko}{ti:KP}{pos':Pos}(hN:X.N.Nodup)(hi:X.N[i]? =some x)(hx:vm X.env.scope x)(he:PE X e te)(ho:KQ X op ti)(hf:X.fn x=true\/X.env.scope.names.lookup x=some .local:=by first|exact .inl rfl|exact .inr rfl|assumption):
  PS X (.AugAssign (.Name x pos') op e pos) (NR i te ti):=by
 intro pins s σ H D I h
 obtain⟨v,e1,h⟩:=h
 obtain⟨m,hn,hl⟩:=I.loc
 have vis:Nr X.env.scope x:=by rcases hx with k|k;exact .inl k;exact .inr (.inl k)
 obtain⟨u,r,l⟩:=hl i x v hi e1 vis
 refine wpAny_AugAssign_Name ?_
 have go:wpAny (aQ X.prog X.w) X.A (eval e X.env) (λw s₂=>wpAny (aQ X.prog X.w) X.A (inplaceOp op u w) (λr s₃=>wpAny (aQ X.prog X.w) X.A (storeName X.env x r) (λ_=>SP X pins D .next) X.xe s₃) X.xe s₂) X.xe s:=by
  refine eD (he pins s σ H _ I h) λw s1 hPl=> ?_
  obtain⟨y,H1,I1,r1,q1⟩:=hPl
  refine eD (ho pins s1 σ H1 v y u w _ I1 r r1 q1) λz s2 hPl=> ?_
  obtain⟨zv,H2,I2,r2,q2⟩:=hPl
  exact kD I2 hN hi hx r2 (λs3 I3=>⟨_,H2,I3,q2⟩) hf
 rcases l with⟨hk,hm⟩|⟨hk,c,hc,hcell⟩
 ·exact wpAny_loadName_local I.ok.kind hk hn hm go
 ·rcases hk with hk|hk
  ·exact wpAny_loadName_cell I.ok.kind hk hc hcell go
  ·rcases hx with k|k
   ·have:X.env.scope.names.lookup x=some .free:=hk
    rw[k]at this;cases this
   ·have:X.env.scope.names.lookup x=some .free:=hk
    rw[k]at this;cases this
noncomputable def Ld(to ti te:TE)(tget:V->V->Hp->VK->Prop)(tip:KP)(tset:yq):TS:=λD σ H=>to σ H λo H1=>ti σ H1 λi H2=>tget o i H2 λx H3=>te σ H3 λy H4=>tip x y H4 λz H5=>tset o i z H5 λH6=>D.nx σ H6
noncomputable def KE(X:Cx)(t:V->V->Hp->VK->Prop):Prop:=
 ∀(pins:List (Addr×Obj)) (s:ai) (σ:St) (H:Hp) (o i:V) (ov iv:ae) (Q:VK),Inv X pins σ H s->RelV o ov->RelV i iv->t o i H Q->
  wpAny (aQ X.prog X.w) X.A (iO ov iv) (EP X pins σ Q) X.xe s
theorem EZ{o i e:Expr}{to ti te:TE}{tget:V->V->Hp->VK->Prop}{tip:KP}{tset:yq}{op:ko}{tpos:Pos}(ho:PE X o to)(hi:PE X i ti)(hg:KE X tget)(he:PE X e te)(hp:KQ X op tip)(hs:PSet X tset)
  (ha:∀ov iv new,augStore i ov iv new=(do holding [new,ov,iv] (setItem ov iv new);release [new,ov,iv] [];pure .next):=by intros;rfl):PS X (.AugAssign (.Subscript o i tpos) op e pos) (Ld to ti te tget tip tset):=by
 intro pins s σ H D I h
 refine wpAny_AugAssign_SubscriptAny (eD (ho pins s σ H _ I h) λov s1 hPl=> ?_) ha
 obtain⟨x1,H1,I1,r1,q1⟩:=hPl
 refine eD (hi pins s1 σ H1 _ I1 q1) λiv s2 hPl=> ?_
 obtain⟨x2,H2,I2,r2,q2⟩:=hPl
 refine eD (hg pins s2 σ H2 x1 x2 ov iv _ I2 r1 r2 q2) λold s3 hPl=> ?_
 obtain⟨x3,H3,I3,r3,q3⟩:=hPl
 refine eD (he pins s3 σ H3 _ I3 q3) λv s4 hPl=> ?_
 obtain⟨x4,H4,I4,r4,q4⟩:=hPl
 refine eD (hp pins s4 σ H4 x3 x4 old v _ I4 r3 r4 q4) λnew s5 hPl=> ?_
 obtain⟨x5,H5,I5,r5,q5⟩:=hPl
 exact eD (hs pins s5 σ H5 x1 x2 x5 ov iv new _ I5 r1 r2 r5 q5) λ_ s6 hPl=>by obtain⟨H6,I6,q6⟩:=hPl;exact⟨σ,H6,I6,q6⟩
noncomputable def ipI(f:Int->Int->Int):KP:=λx y H Q=>∃i j,x= .int i/\y= .int j/\Q (.int (f i j)) H
theorem Kd:KQ X .Add (ipI λi j=>i+j):=by
 intro pins s σ H x y v u Q I r1 r2 h
 obtain⟨i,j,e1,e2,q⟩:=h
 subst e1;subst e2
 obtain⟨t,rfl⟩:=r1
 obtain⟨t',rfl⟩:=r2
 exact iadd_int ⟨.int _,H,I.tok _,⟨_,rfl⟩,q⟩
end
section
variable{X:Cx}{pos:Pos}
noncomputable def HI(c:TT)(tb:TS):TS:=λD σ H=>∃W:Nat->St->Hp->Prop,(∃m,W m σ H)/\∀m σ H,W m σ H->
 c σ H λb H1=>if b=true then∃N:St->Hp->Prop,(∀σ' H',N σ' H'->∃m',m'<m/\W m' σ' H')/\tb {D with nx:=N,ct:=N,bk:=D.nx} σ H1 else D.nx σ H1
theorem Cc{c:Expr}{body:List Stmt}{tc:TT}{tb:TS}(hp:PassesOwn (aQ X.prog X.w) X.A X.env X.xe)(hc:PT X c tc)(hb:PSs X body tb):PS X (.While c body [] pos) (HI tc tb):=by
 intro pins s σ H D I h
 obtain⟨W,⟨m0,w0⟩,turn⟩:=h
 refine wpAny_While (codeAny_whileLoop (λn s'=>∃σ' H',Inv X pins σ' H' s'/\W n σ' H') ?_ m0 ⟨σ,H,I,w0⟩)
 rintro n s1 ⟨σ1,H1,I1,w1⟩
 refine fX hp (eD (hc pins s1 σ1 H1 _ I1 (turn n σ1 H1 w1)) λb s2 hPl=> ?_)
 obtain⟨H2,I2,q2⟩:=hPl
 cases b with
 |true=>
  obtain⟨N,hN,q2⟩:=q2
  rw[if_pos rfl]
  refine fX hp (eD (hb pins s2 σ1 H2 _ I2 q2) λf s3 q3=> ?_)
  cases f with
  |next=>
   obtain⟨σ3,H3,I3,n3⟩:=q3
   obtain⟨m',hm,w3⟩:=hN σ3 H3 n3
   exact⟨m',hm,σ3,H3,I3,w3⟩
  |cont=>
   obtain⟨σ3,H3,I3,n3⟩:=q3
   obtain⟨m',hm,w3⟩:=hN σ3 H3 n3
   exact⟨m',hm,σ3,H3,I3,w3⟩
  |brk=>exact q3
  |ret v=>exact q3
 |false=>
  rw[if_neg bz]
  exact ij ⟨σ1,H2,I2,q2⟩
end
structure It where
 go:Nat->Hp->Prop
 yld:Nat->Hp->V->Hp->Prop
 stop:Nat->Hp->Prop
noncomputable def pR(X:Cx)(pins:List (Addr×Obj))(H:Hp)(b:Addr):Prop:=
 H b=none/\b≠X.env.locals/\b∉X.fs/\(b∈X.ex\/X.s₀.heap.objs.size<=b)/\(∀x c,X.env.cells.lookup x=some c->c≠b)/\∀p∈X.pn++pins,p.1≠b
theorem Inv.fpOk{X:Cx}{pins:List (Addr×Obj)}{σ:St}{H H':Hp}{s:ai}{b:Addr}(I:Inv X pins σ H s)(hb:s.heap.objs.size<=b)(hn:H' b=none):pR X pins H' b:=by
 refine⟨hn,iC (a9 I.lt hb),I.nofs hb,.inr (aR I.sz hb),λx c e z=> ?_,λp hp z=> ?_⟩
 ·obtain⟨v,q⟩:=I.cell x c e
  exact absurd (a9 q.lt (by rw[z];exact hb)) (c7 _)
 ·exact absurd (a9 (aB (I.pin p hp).1) (by rw[z];exact hb)) (c7 _)
structure sr(P:aJ)(w:aV)(K:PySem.W.Frag)(tg:Expr)(J:It)(fp:List Addr)(it:Addr)(tn:Nat->Heap->Prop):Prop where
 mem:it∈fp
 obj:∀i h,tn i h->∀b∈fp,∃o,h.get? b=some o/\∀v,o.data≠ .cell v
 keep:∀i h h',tn i h->(∀b∈fp,∀o,h.get? b=some o->h'.get? b=some o)->tn i h'
 item:∀(X:Cx),X.prog=P->X.w=w->X.K=K->X.calm=true->∀(i:Nat) (pins:List (Addr×Obj)) (s:ai) (σ:St) (H:Hp) (E:ae->ai->Prop),Inv X pins σ H s->(∀b∈fp,pR X pins H b)->tn i s.heap->J.go i H->
  wpAny (aQ P w) X.A (pyNext (.ref it)) (λr s1=>∃u,r=some u/\
   wpAny (aQ P w) X.A (jL tg (.ref it) u) (λ_ s2=>∃x H',Inv X pins σ H' s2/\RelV x u/\J.yld i H x H'/\tn (i+1) s2.heap/\∀b∈fp,H' b=none) E s1) E s
 done:∀(X:Cx),X.prog=P->X.w=w->X.K=K->X.calm=true->∀(i:Nat) (pins:List (Addr×Obj)) (s:ai) (σ:St) (H:Hp) (E:ae->ai->Prop),Inv X pins σ H s->(∀b∈fp,pR X pins H b)->tn i s.heap->J.stop i H->
  wpAny (aQ P w) X.A (pyNext (.ref it)) (λr s1=>r=none/\Inv X pins σ H s1) E s
 self:∀(A:Around) (i:Nat) (s:ai) (Q:ae->ai->Prop) (E:ae->ai->Prop),tn i s.heap->Q (.ref it) s->wpAny (aQ P w) A (pyIter (.ref it)) Q E s
noncomputable abbrev TI:=St->Hp->(It->Hp->Prop)->Prop
noncomputable def Ox(X:Cx)(pins:List (Addr×Obj))(σ:St)(tg:Expr)(R:It->Hp->Prop)(itv:ae)(s2:ai):Prop:=
 ∃(it:Addr) (fp:List Addr) (tn:Nat->Heap->Prop) (J:It) (H':Hp),itv= .ref it/\Inv X pins σ H' s2/\sr X.prog X.w X.K tg J fp it tn/\tn 0 s2.heap/\(∀b∈fp,pR X pins H' b)/\R J H'
noncomputable def PI(X:Cx)(tg iter:Expr)(wi:TI):Prop:=
 ∀(pins:List (Addr×Obj)) (s:ai) (σ:St) (H:Hp) (R:It->Hp->Prop),Inv X pins σ H s->wi σ H R->
  wpAny (aQ X.prog X.w) X.A (eval iter X.env) (λv s1=>wpAny (aQ X.prog X.w) X.A (pyIter v) (Ox X pins σ tg R) X.xe s1) X.xe s
theorem wx{M:Model}{A:Around}{E:ae->ai->Prop}{s:ai}{tg:Expr}{it:Addr}{u:ae}{o:Obj}{n:String}{vs:Array ae}{Q:Unit->ai->Prop}(ho:s.heap.get? it=some o)(hc:o.cls= .type n)(hd:o.data= .fields vs)
  (hn:["enumerate", "zip", "dict_itemiterator", "dict_reverseitemiterator", "odict_iterator", "itertools.zip_longest", "itertools.pairwise"].contains n=false) (hQ:Q () s):wpAny M A (jL tg (.ref it) u) Q E s:=by
 unfold jL
 cases tg<;>first
  |exact aq hQ
  |(cases u<;>first
    |exact aq hQ
    |(refine aa (wpAny_load ho ?_)
      rw[hc,hd]
      show wpAny M A (if(["enumerate", "zip", "dict_itemiterator", "dict_reverseitemiterator", "odict_iterator", "itertools.zip_longest", "itertools.pairwise"].contains n&&vs[0]? ==some (rawInt _))=true then _ else _) Q E s
      rw[if_neg (by intro h;rw[hn,Bool.false_and]at h;cases h)]
      exact aq hQ))
noncomputable def Oz(K:PySem.W.Frag)(a:Addr):It:=
 ⟨λi H=>∃xs x,SqL K H a xs/\xs[i]? =some x,λi H x H'=>H'=H/\∀xs,SqL K H a xs->xs[i]? =some x,λi H=>∃xs,SqL K H a xs/\xs.length<=i⟩
noncomputable def Itt(K:PySem.W.Frag)(a:Addr):It:=
 ⟨λi H=>∃xs x,SqT K H a xs/\xs[i]? =some x,λi H x H'=>H'=H/\∀xs,SqT K H a xs->xs[i]? =some x,λi H=>∃xs,SqT K H a xs/\xs.length<=i⟩
noncomputable def Nz(lo:Int)(n:Nat):It:=⟨λi _=>i<n,λi H x H'=>H'=H/\x= .int (lo+i),λi _=>n<=i⟩
theorem sD{P:aJ}{w:aV}{K:PySem.W.Frag}{tg:Expr}(a it:Addr):sr P w K tg (Oz K a) [it] it (λi h=>h.IsListIter it a i) where
 mem:=by simp
 obj:=λi h st b hb=>by
  have e:b=it:=by simpa using hb
  subst e
  obtain⟨o,e,c,d⟩:=st
  exact⟨o,e,λv z=>by rw[d]at z;cases z⟩
 keep:=λi h h' st k=>st.at λo e=>k it (by simp) o e
 item:=by
  intro X hP hw hK hc i pins s σ H E I hf st hg
  subst hP hw hK
  obtain⟨xs,x,hq,hx⟩:=hg
  obtain⟨its,rv,p,hz⟩:=I.list hq
  obtain⟨u,hu,ru⟩:=rv.get hx
  obtain⟨f0,f1,f2,f3,f4,f5⟩:=hf it (by simp)
  refine wpAny_pyNext_list_item st p.isList (x:=u) (by simpa using hu) λh' st' sb=> ?_
  have I1:Inv X pins σ H {s with heap:=h'}:=I.turned (t':=s.toks) (λb o hb e=>(sb.2 b hb).trans e) f0 f1 f3 f4 f5
  obtain⟨o,e,c,d⟩:=id st'
  exact⟨u,rfl,wx (s:={s with heap:=h'}) e c d (by decide) ⟨x,H,I1,ru,⟨rfl,λys hy=>by rw[I.list_inj hy hq];exact hx⟩,st',λb hb=>(hf b hb).1⟩⟩
 done:=by
  intro X hP hw hK hc i pins s σ H E I hf st hg
  subst hP hw hK
  obtain⟨xs,hq,hx⟩:=hg
  obtain⟨its,rv,p,hz⟩:=I.list hq
  obtain⟨f0,f1,f2,f3,f4,f5⟩:=hf it (by simp)
  have hl:=rv.length
  exact wpAny_pyNext_list_end (I.ok.hd hc) st p.isList (by simp;ac_nf) λh' eb=>⟨rfl,I.turned (t':=s.toks) (λb o hb e=>eb b o hb e) f0 f1 f3 f4 f5⟩
 self:=λ_ _ _ _ _ st h=>wpAny_pyIter_listiter st h
theorem xi{P:aJ}{w:aV}{K:PySem.W.Frag}{tg:Expr}(a it:Addr):sr P w K tg (Itt K a) [it] it (λi h=>h.IsTupleIter it a i) where
 mem:=by simp
 obj:=λi h st b hb=>by
  have e:b=it:=by simpa using hb
  subst e
  obtain⟨o,e,c,d⟩:=st
  exact⟨o,e,λv z=>by rw[d]at z;cases z⟩
 keep:=λi h h' st k=>st.at λo e=>k it (by simp) o e
 item:=by
  intro X hP hw hK hc i pins s σ H E I hf st hg
  subst hP hw hK
  obtain⟨xs,x,hq,hx⟩:=hg
  obtain⟨its,rv,p,hz⟩:=I.tuple hq
  obtain⟨u,hu,ru⟩:=rv.get hx
  obtain⟨f0,f1,f2,f3,f4,f5⟩:=hf it (by simp)
  refine wpAny_pyNext_tuple_item st (show s.heap.IsTuple a its.toArray from p) (x:=u) (by simpa using hu) λh' st' sb=> ?_
  have I1:Inv X pins σ H {s with heap:=h'}:=I.turned (t':=s.toks) (λb o hb e=>(sb.2 b hb).trans e) f0 f1 f3 f4 f5
  obtain⟨o,e,c,d⟩:=id st'
  exact⟨u,rfl,wx (s:={s with heap:=h'}) e c d (by decide) ⟨x,H,I1,ru,⟨rfl,λys hy=>by rw[I.tuple_inj hy hq];exact hx⟩,st',λb hb=>(hf b hb).1⟩⟩
 done:=by
  intro X hP hw hK hc i pins s σ H E I hf st hg
  subst hP hw hK
  obtain⟨xs,hq,hx⟩:=hg
  obtain⟨its,rv,p,hz⟩:=I.tuple hq
  obtain⟨f0,f1,f2,f3,f4,f5⟩:=hf it (by simp)
  have hl:=rv.length
  exact wpAny_pyNext_tuple_end (I.ok.hd hc) st (show s.heap.IsTuple a its.toArray from p) (by simp;ac_nf) λh' eb=>⟨rfl,I.turned (t':=s.toks) (λb o hb e=>eb b o hb e) f0 f1 f3 f4 f5⟩
 self:=λ_ _ _ _ _ st h=>wpAny_pyIter_tupleiter st h
theorem xj{P:aJ}{w:aV}{K:PySem.W.Frag}{tg:Expr}(it:Addr)(lo:Int)(n:Nat):sr P w K tg (Nz lo n) [it] it (λi h=>IsRangeIter h it (lo+(i:Nat)*1) ((n:Int)-(i:Nat)) 1) where
 mem:=by simp
 obj:=λi h st b hb=>by
  have e:b=it:=by simpa using hb
  subst e
  exact⟨_,st,λv z=>by
   have z':dD _=rS v:=z
   cases z'⟩
 keep:=λi h h' st k=>k it (by simp) _ st
 item:=by
  intro X hP hw hK hc i pins s σ H E I hf st hg
  subst hP hw hK
  obtain⟨f0,f1,f2,f3,f4,f5⟩:=hf it (by simp)
  have W:=Walks.range (prog:=X.prog) (w:=X.w) (I.ok.hd hc) it lo 1 n
  refine W.item i s _ _ hg st λv h' tk hv st' kk=> ?_
  obtain⟨t,rfl⟩:=hv
  have I1:Inv X pins σ H {s with heap:=h',toks:=tk}:=I.turned (λb o hb e=>kk b o (by simpa using hb) e) f0 f1 f3 f4 f5
  refine⟨_,rfl,wx (s:={s with heap:=h',toks:=tk}) (n:= "range_iterator") st' rfl rfl (by decide) ⟨.int (lo+i),H,I1,⟨t,?_⟩,⟨rfl,rfl⟩,st',λb hb=>(hf b hb).1⟩⟩
  rw[Int.mul_one]
 done:=by
  intro X hP hw hK hc i pins s σ H E I hf st hg
  subst hP hw hK
  obtain⟨f0,f1,f2,f3,f4,f5⟩:=hf it (by simp)
  exact wpAny_pyNext_range_end (I.ok.hd hc) st (by have:n<=i:=hg;ac_nf) λh' eb=>⟨rfl,I.turned (t':=s.toks) (λb o hb e=>eb b o hb e) f0 f1 f3 f4 f5⟩
 self:=λ_ _ _ _ _ st h=>wpAny_pyIter_rangeiter st h
section
variable{X:Cx}{tg:Expr}
noncomputable def Mt(K:PySem.W.Frag)(tl:TE):TI:=λσ H R=>tl σ H λx H1=>∃a,x= .ref a/\(∃xs,SqL K H1 a xs)/\R (Oz K a) H1
theorem Fa{l:Expr}{tl:TE}(hl:PE X l tl):PI X tg l (Mt X.K tl):=by
 intro pins s σ H R I h
 refine eD (hl pins s σ H _ I h) λv s1 hPl=> ?_
 obtain⟨x,H1,I1,r1,q1⟩:=hPl
 obtain⟨a,e,⟨xs,hq⟩,q⟩:=q1
 subst e
 cases r1
 obtain⟨its,rv,p,hz⟩:=I1.list hq
 refine uc p.isList ?_
 refine⟨s1.heap.objs.size,[s1.heap.objs.size],_,_,H1,rfl,I1.kept (t':=s1.toks) λb o e=>af _ e,sD a _,⟨_,aK _ rfl,rfl,rfl⟩,λb hb=> ?_,q⟩
 have e:b=s1.heap.objs.size:=by simpa using hb
 subst e
 exact I1.fpOk (ao _) (I1.hok.fresh (ao _))
theorem B7{pins:List (Addr×Obj)}{σ:St}{H:Hp}{s:ai}{R:It->Hp->Prop}{E:ae->ai->Prop}{lo hi:Int}{t u v:Tok}{tk:Nat}(I:Inv X pins σ H s)(h1: -(2^62)<=lo)(h2:lo<2^62)(h3: -(2^62)<=hi)(h4:hi<2^62)
  (q:R (Nz lo (hi-lo).toNat) H):wpAny (aQ X.prog X.w) X.A (pyIter (.ref s.heap.objs.size)) (Ox X pins σ tg R) E {s with heap:=s.heap.push {cls:= .type "range",data:= .fields #[.int lo t,.int hi u,.int 1 v]},toks:=tk}:=by
 refine wpAny_pyIter_range (IsRange.new ..) (small_one h1 h2 h3 h4) ?_
 have I1:Inv X pins σ H {s with heap:=s.heap.push {cls:= .type "range",data:= .fields #[.int lo t,.int hi u,.int 1 v]},toks:=tk}:=I.kept λb o e=>af _ e
 refine⟨(s.heap.push {cls:= .type "range",data:= .fields #[.int lo t,.int hi u,.int 1 v]}).objs.size,[(s.heap.push {cls:= .type "range",data:= .fields #[.int lo t,.int hi u,.int 1 v]}).objs.size],_,_,H,rfl,
  I1.kept (t':=tk) λb o e=>af _ e,xj _ lo (hi-lo).toNat,?_,λb hb=> ?_,q⟩
 ·have e1:lo+((0:Nat):Int)*1=lo:=by simp
  have e2:(((hi-lo).toNat:Nat):Int)-((0:Nat):Int)=gj lo hi 1:=by rw[rangeSize_one];split<;>ac_nf
  show IsRangeIter _ _ (lo+((0:Nat):Int)*1) ((((hi-lo).toNat:Nat):Int)-((0:Nat):Int)) 1
  rw[e1,e2]
  exact aK _ rfl
 ·have e:b=(s.heap.push {cls:= .type "range",data:= .fields #[.int lo t,.int hi u,.int 1 v]}).objs.size:=by simpa using hb
  subst e
  exact I1.fpOk (ao _) (I1.hok.fresh (ao _))
noncomputable def Ms(ta:TA):TI:=λσ H R=>ta σ H λvs H1=>∃j:Int,vs=[.int j]/\-(2^62)<=j/\j<2^62/\R (Nz 0 j.toNat) H1
theorem Ah{a:Expr}{ta:TA}{p pos:Pos}(hg:Gl X "range")(hm:X.mg "range" =none)(ha:PA X [a] ta)(hs:au [a] X.env=[(false,eval a X.env)]:=by rfl):PI X tg (.Call (.Name "range" p) [a] [] pos) (Ms ta):=by
 intro pins s σ H R I h
 refine Call_ (oP I hg hm boot_range (fE (eD (ha pos pins s σ H _ I h) λus s1 hPl=> ?_) hs rfl))
 obtain⟨vs,H1,I1,r1,q1⟩:=hPl
 obtain⟨j,e,q1,q2,q⟩:=q1
 subst e
 cases r1 with
 |cons r rr=>
  cases rr
  obtain⟨t,rfl⟩:=r
  exact call_range_1 (B7 I1 (by ac_nf) (by ac_nf) q1 q2 (by simpa using q))
noncomputable def NN(wi:TI)(g:TG)(tb:TS):TS:=λD σ H=>wi σ H λJ H1=>∃W:Nat->Nat->St->Hp->Prop,(∃m,W 0 m σ H1)/\∀i m σ H,W i m σ H->
 (J.stop i H/\D.nx σ H)\/(J.go i H/\∃N:St->Hp->Prop,(∀σ' H',N σ' H'->∃m',m'<m/\W (i+1) m' σ' H')/\∀x H',J.yld i H x H'->g x σ H' λσ2 H2=>tb {D with nx:=N,ct:=N,bk:=D.nx} σ2 H2)
noncomputable def oI(fp:List Addr)(h:Heap):List (Addr×Obj):=fp.filterMap λb=>(h.get? b).map λo=>(b,o)
theorem ia{fp:List Addr}{h:Heap}{b:Addr}{o:Obj}(hb:b∈fp)(e:h.get? b=some o):(b,o)∈oI fp h:=List.mem_filterMap.mpr ⟨b,hb,by rw[e];rfl⟩
theorem Aq{fp:List Addr}{h:Heap}{p:Addr×Obj}(hp:p∈oI fp h):p.1∈fp/\h.get? p.1=some p.2:=by
 obtain⟨b,hb,e⟩:=List.mem_filterMap.mp hp
 cases q:h.get? b with
 |none=>rw[q]at e;cases e
 |some o=>
  rw[q]at e
  have e':(b,o)=p:=bf e
  subst e'
  exact⟨hb,q⟩
theorem Inv.pinned{pins:List (Addr×Obj)}{σ:St}{H:Hp}{s:ai}{fp:List Addr}(I:Inv X pins σ H s)(hf:∀b∈fp,pR X pins H b)(ho:∀b∈fp,∃o,s.heap.get? b=some o/\∀v,o.data≠ .cell v):Inv X (pins++oI fp s.heap) σ H s:=
 I.pins_of λp hp=>(bo.mp hp).elim (λz=>I.pin p (aY _ z)) λz=>by
  obtain⟨hb,e⟩:=Aq z
  obtain⟨f0,f1,f2,_⟩:=hf p.1 hb
  obtain⟨o,e',d⟩:=ho p.1 hb
  rw[e]at e';cases e'
  exact⟨e,f0,f1,f2,d⟩
theorem Inv.unpinned{pins pl:List (Addr×Obj)}{σ:St}{H:Hp}{s:ai}(I:Inv X (pins++pl) σ H s):Inv X pins σ H s:=I.pins_of λp hp=>I.pin p (aY _ (List.mem_append_left _ hp))
theorem Io{iter:Expr}{body:List Stmt}{wi:TI}{g:TG}{tb:TS}{pos:Pos}(hp:PassesOwn (aQ X.prog X.w) X.A X.env X.xe)(hc:X.calm=true)(hi:PI X tg iter wi)(hg:PG X tg g)(hb:PSs X body tb)
  (hs:∀x,en iter X.env x=pure x:=by intro _;rfl):PS X (.For tg iter body [] pos) (NN wi g tb):=by
 intro pins s σ H D I h
 refine wpAny_For (eD (hi pins s σ H _ I h) λv s1 h1=>eD h1 λitv s2 h2=> ?_) hs
 obtain⟨it,fp,tn,J,H2,e,I2,T,st2,f2,W,⟨m0,w0⟩,turn⟩:=h2
 subst e
 -- what stays true of the iterator's objects through the loop
 have stat:∀{H':Hp},(∀b∈fp,H' b=none)->∀b∈fp,pR X pins H' b:=λhn b hb=>⟨hn b hb,(f2 b hb).2⟩
 refine codeAny_forLoop_any (λn s'=>∃i σ' H',Inv X pins σ' H' s'/\tn i s'.heap/\(∀b∈fp,H' b=none)/\W i n σ' H') ?_ m0 ⟨0,σ,H2,I2,st2,λb hb=>(f2 b hb).1,w0⟩
 rintro n s3 ⟨i,σ3,H3,I3,st3,fr3,w3⟩
 rcases turn i n σ3 H3 w3 with⟨stop,qn⟩|⟨go,N,hN,step⟩
 ·refine fX hp (eD (T.done X rfl rfl rfl hc i pins s3 σ3 H3 X.xe I3 (stat fr3) st3 stop) λr s4 hPl=> ?_)
  obtain⟨hr,I4⟩:=hPl
  subst hr
  exact ij ⟨σ3,H3,I4,qn⟩
 ·refine fX hp (eD (T.item X rfl rfl rfl hc i pins s3 σ3 H3 X.xe I3 (stat fr3) st3 go) λr s4 hPl=> ?_)
  obtain⟨u,hr,h4⟩:=hPl
  subst hr
  refine fX hp (eD h4 λ_ s5 hPl=> ?_)
  obtain⟨x,H5,I5,r5,y5,st5,fr5⟩:=hPl
  have I5':=I5.pinned (stat fr5) (T.obj _ _ st5)
  refine fX hp (eD (hg _ s5 σ3 H5 x u _ I5' r5 (step x H5 y5)) λ_ s6 hPl=> ?_)
  obtain⟨σ6,H6,I6,q6⟩:=hPl
  refine fX hp (eD (hb _ s6 σ6 H6 _ I6 q6) λf s7 q7=> ?_)
  have again:∀{σ7:St} {H7:Hp},Inv X (pins++oI fp s5.heap) σ7 H7 s7->N σ7 H7->∃m,m<n/\∃i σ' H',Inv X pins σ' H' s7/\tn i s7.heap/\(∀b∈fp,H' b=none)/\W i m σ' H':=fun{σ7 H7} I7 n7=>by
   obtain⟨m',hm,w7⟩:=hN σ7 H7 n7
   refine⟨m',hm,i+1,σ7,H7,I7.unpinned,T.keep _ _ _ st5 λb hb o e=>(I7.pin (b,o) (aY _ (aY _ (ia hb e)))).1,λb hb=> ?_,w7⟩
   obtain⟨o,e,d⟩:=T.obj _ _ st5 b hb
   exact(I7.pin (b,o) (aY _ (aY _ (ia hb e)))).2.1
  cases f with
  |next=>obtain⟨σ7,H7,I7,n7⟩:=q7;exact again I7 n7
  |cont=>obtain⟨σ7,H7,I7,n7⟩:=q7;exact again I7 n7
  |brk=>obtain⟨σ7,H7,I7,q7⟩:=q7;exact⟨σ7,H7,I7.unpinned,q7⟩
  |ret v=>obtain⟨x7,σ7,H7,I7,r7,q7⟩:=q7;exact⟨x7,σ7,H7,I7.unpinned,r7,q7⟩
end
noncomputable abbrev R2:=V->V->Hp->VK->Prop
noncomputable def iJ(X:Cx)(f:ae->ae->Sem ae)(r:R2):Prop:=
 ∀(pins:List (Addr×Obj)) (s:ai) (σ:St) (H:Hp) (x y:V) (v u:ae) (Q:VK),Inv X pins σ H s->RelV x v->RelV y u->r x y H Q->
  wpAny (aQ X.prog X.w) X.A (f v u) (EP X pins σ Q) X.xe s
noncomputable def Nf(X:Cx)(f:ae->Sem ae)(r:V->Hp->VK->Prop):Prop:=
 ∀(pins:List (Addr×Obj)) (s:ai) (σ:St) (H:Hp) (x:V) (v:ae) (Q:VK),Inv X pins σ H s->RelV x v->r x H Q->
  wpAny (aQ X.prog X.w) X.A (f v) (EP X pins σ Q) X.xe s
noncomputable def iF(X:Cx)(f:ae)(r:List V->Hp->VK->Prop):Prop:=
 ∀(pins:List (Addr×Obj)) (s:ai) (σ:St) (H:Hp) (xs:List V) (us:List ae) (Q:VK),Inv X pins σ H s->Vals xs us->r xs H Q->
  wpAny (aQ X.prog X.w) X.A (call f us) (EP X pins σ Q) X.xe s
noncomputable def K4(r:R2)(ta tb:TE):TE:=λσ H Q=>ta σ H λx H1=>tb σ H1 λy H2=>r x y H2 Q
noncomputable def tUn(r:V->Hp->VK->Prop)(ta:TE):TE:=λσ H Q=>ta σ H λx H1=>r x H1 Q
noncomputable def rI(C:Int->Int->Prop)(g:Int->Int->V):R2:=λx y H Q=>∃i j,x= .int i/\y= .int j/\C i j/\Q (g i j) H
noncomputable def EN(g:Int->Int->V):R2:=λx y H Q=>∃i j,x= .int i/\y= .int j/\Q (g i j) H
noncomputable def rU(g:Int->V):V->Hp->VK->Prop:=λx H Q=>∃i,x= .int i/\Q (g i) H
section
variable{X:Cx}{a b:Expr}{ta tb:TE}{pos:Pos}
theorem Kz(ha:PE X a ta)(hb:PE X b tb){pins:List (Addr×Obj)}{s:ai}{σ:St}{H:Hp}{R:V->V->Hp->Prop}(I:Inv X pins σ H s)
  (h:ta σ H λx H1=>tb σ H1 λy H2=>R x y H2) {Q:ae->ai->Prop} {f:ae->ae->Sem ae}
  (hf:∀v u s2 x y H2,Inv X pins σ H2 s2->RelV x v->RelV y u->R x y H2->wpAny (aQ X.prog X.w) X.A (f v u) Q X.xe s2):
  wpAny (aQ X.prog X.w) X.A (eval a X.env) (λv s₁=>wpAny (aQ X.prog X.w) X.A (eval b X.env) (λu s₂=>wpAny (aQ X.prog X.w) X.A (f v u) Q X.xe s₂) X.xe s₁) X.xe s:=by
 refine eD (ha pins s σ H _ I h) λv s1 hPl=> ?_
 obtain⟨x,H1,I1,r1,q1⟩:=hPl
 refine eD (hb pins s1 σ H1 _ I1 q1) λu s2 hPl=> ?_
 obtain⟨y,H2,I2,r2,q2⟩:=hPl
 exact hf v u s2 x y H2 I2 r1 r2 q2
theorem Ls{op:ko}{r:R2}(ho:iJ X (dM op) r)(ha:PE X a ta)(hb:PE X b tb):PE X (.BinOp a op b pos) (K4 r ta tb):=by
 intro pins s σ H Q I h
 exact wpAny_BinOp (Kz ha hb I h λv u s2 x y H2 I2 rx ry q=>ho pins s2 σ H2 x y v u Q I2 rx ry q)
theorem Hj{op:UnaryOp}{r:V->Hp->VK->Prop}(ho:Nf X (unaryOp op) r)(ha:PE X a ta):PE X (.UnaryOp op a pos) (tUn r ta):=by
 intro pins s σ H Q I h
 exact UnaryOp_ (eD (ha pins s σ H _ I h) λv s1 ⟨x,H1,I1,r1,q1⟩=>ho pins s1 σ H1 x v Q I1 r1 q1)
theorem Nk{f:ae->ae->Sem ae}{C:Int->Int->Prop}{g:Int->Int->Int}
  (rule:∀(i j:Int) (t u:Tok) (s:ai) (Q:ae->ai->Prop) (E:ae->ai->Prop),C i j->Q (.int (g i j) s.toks) {s with toks:=s.toks+1}->wpAny (aQ X.prog X.w) X.A (f (.int i t) (.int j u)) Q E s):
  iJ X f (rI C λi j=> .int (g i j)):=by
 intro pins s σ H x y v u Q I rx ry h
 obtain⟨i,j,rfl,rfl,hc,q⟩:=h
 obtain⟨t,rfl⟩:=rx
 obtain⟨t',rfl⟩:=ry
 exact rule i j t t' s _ _ hc ⟨.int (g i j),H,I.tok _,⟨_,rfl⟩,q⟩
theorem LB{f:ae->ae->Sem ae}{g:Int->Int->Int}
  (rule:∀(i j:Int) (t u:Tok) (s:ai) (Q:ae->ai->Prop) (E:ae->ai->Prop),Q (.int (g i j) s.toks) {s with toks:=s.toks+1}->wpAny (aQ X.prog X.w) X.A (f (.int i t) (.int j u)) Q E s):
  iJ X f (EN λi j=> .int (g i j)):=by
 intro pins s σ H x y v u Q I rx ry h
 obtain⟨i,j,rfl,rfl,q⟩:=h
 obtain⟨t,rfl⟩:=rx
 obtain⟨t',rfl⟩:=ry
 exact rule i j t t' s _ _ ⟨.int (g i j),H,I.tok _,⟨_,rfl⟩,q⟩
theorem Fo{f:ae->ae->Sem ae}{g:Int->Int->Bool}
  (rule:∀(i j:Int) (t u:Tok) (s:ai) (Q:ae->ai->Prop) (E:ae->ai->Prop),Q (.bool (g i j)) s->wpAny (aQ X.prog X.w) X.A (f (.int i t) (.int j u)) Q E s):
  iJ X f (EN λi j=> .bl (g i j)):=by
 intro pins s σ H x y v u Q I rx ry h
 obtain⟨i,j,rfl,rfl,q⟩:=h
 obtain⟨t,rfl⟩:=rx
 obtain⟨t',rfl⟩:=ry
 exact rule i j t t' s _ _ ⟨.bl (g i j),H,I,rfl,q⟩
noncomputable def KJ(i j:Int):Prop:=0<=j/\j<=1000000/\i.natAbs<2^64
noncomputable def CMul(i j:Int):Prop:=(-(2^64)<i/\i<2^64)\/(-(2^64)<j/\j<2^64)
theorem CMul.ok{i j:Int}(h:CMul i j):IntMulOk i j:=by
 rcases h with⟨h1,h2⟩|⟨h1,h2⟩
 ·exact .of_left (intBits_le_64 h1 h2)
 ·exact .of_right (intBits_le_64 h1 h2)
theorem IS:iJ X (dM .Add) (EN λi j=> .int (i+j)):=LB λ_ _ _ _ _ _ _ q=>add_int q
theorem IK:iJ X (dM .Sub) (EN λi j=> .int (i-j)):=LB λ_ _ _ _ _ _ _ q=>sub_int q
theorem IN:iJ X (dM .Mult) (rI CMul λi j=> .int (i*j)):=Nk λ_ _ _ _ _ _ _ hc q=>mul_int q hc.ok
theorem IP:iJ X (dM .Mod) (rI (λ_ j=>0<j) λi j=> .int (i%j)):=Nk λi j _ _ _ _ _ hc q=>by
 have h1:(0:Int)<j:=hc
 exact mod_int' (by ac_nf) (by rw[Int.fmod_eq_emod_of_nonneg i (by ac_nf)];exact q)
theorem IM:iJ X (dM .Pow) (rI KJ λi j=> .int (i^j.toNat)):=Nk λ_ _ _ _ _ _ _ hc q=>pow_int_small hc.1 hc.2.1 hc.2.2 q
theorem unI{f:ae->Sem ae}{g:Int->Int}
  (rule:∀(i:Int) (t:Tok) (s:ai) (Q:ae->ai->Prop) (E:ae->ai->Prop),Q (.int (g i) s.toks) {s with toks:=s.toks+1}->wpAny (aQ X.prog X.w) X.A (f (.int i t)) Q E s):
  Nf X f (rU λi=> .int (g i)):=by
 intro pins s σ H x v Q I rx h
 obtain⟨i,rfl,q⟩:=h
 obtain⟨t,rfl⟩:=rx
 exact rule i t s _ _ ⟨.int (g i),H,I.tok _,⟨_,rfl⟩,q⟩
theorem Bp:Nf X (unaryOp .USub) (rU λi=> .int (-i)):=unI λ_ _ _ _ _ q=>neg_int q
end
section
variable{X:Cx}{a b c:Expr}{ta tb tc:TE}{pos:Pos}
theorem uQ{pins:List (Addr×Obj)}{σ:St}{H:Hp}{s:ai}{Q:VK}{k k':Bool}(I:Inv X pins σ H s)(q:Q (.bl k) H)(e:k=k'):EP X pins σ Q (.bool k') s:=by
 subst e
 exact⟨.bl k,H,I,rfl,q⟩
theorem Lx:iJ X (bV .Lt) (EN λi j=> .bl (decide (i<j))):=Fo λ_ _ _ _ _ _ _ q=>lt_int q
theorem Ly:iJ X (bV .LtE) (EN λi j=> .bl (decide (i<=j))):=Fo λ_ _ _ _ _ _ _ q=>le_int q
theorem Lz:iJ X (bV .Gt) (EN λi j=> .bl (decide (j<i))):=Fo λ_ _ _ _ _ _ _ q=>gt_int q
theorem LA:iJ X (bV .GtE) (EN λi j=> .bl (decide (j<=i))):=Fo λ_ _ _ _ _ _ _ q=>ge_int q
theorem Aj:iJ X (bV .Lt) (λx y H Q=>∃i j,x= .str i/\y= .str j/\Q (.bl (decide (i.cps.toList<j.cps.toList))) H):=by
 intro pins s σ H x y v u Q I rx ry h
 obtain⟨i,j,rfl,rfl,q⟩:=h
 obtain⟨t,rfl⟩:=rx
 obtain⟨t',rfl⟩:=ry
 exact lt_str (uQ I q rfl)
theorem Al:iJ X (bV .In) (λx y H Q=>∃i j,x= .str i/\y= .str j/\Q (.bl (!(gC j i 0 j.length 1).isEmpty)) H):=by
 intro pins s σ H x y v u Q I rx ry h
 obtain⟨i,j,rfl,rfl,q⟩:=h
 obtain⟨t,rfl⟩:=rx
 obtain⟨t',rfl⟩:=ry
 exact in_str (uQ I q rfl)
theorem IQ:iJ X (bV .Is) (λx y H Q=>y= .non/\Q (.bl (decide (x= .non))) H):=by
 intro pins s σ H x y v u Q I rx ry h
 obtain⟨rfl,q⟩:=h
 cases ry
 refine is_none_gen (uQ I q ?_)
 cases x<;>first
  |(cases rx;rfl)
  |(obtain⟨t,rfl⟩:=rx;rfl)
theorem kJ(b:Expr){op:CmpOp}(h:op≠ .In:=by decide)(h2:op≠ .NotIn:=by decide):gi op b=false:=by
 have e1:(op==CmpOp.In)=false:=by cases op<;>first|rfl|exact absurd rfl h
 have e2:(op==CmpOp.NotIn)=false:=by cases op<;>first|rfl|exact absurd rfl h2
 cases b<;>simp[gi,e1,e2]
theorem Fj{op:CmpOp}{r:R2}(ho:iJ X (bV op) r)(ha:PE X a ta)(hb:PE X b tb)(hm:gi op b=false):PE X (.Compare a [op] [b] pos) (K4 r ta tb):=by
 intro pins s σ H Q I h
 exact wpAny_Compare1 (Kz ha hb I h λv u s2 x y H2 I2 rx ry q=>ho pins s2 σ H2 x y v u Q I2 rx ry q) hm
noncomputable def By(t:TE):TT:=λσ H Q=>t σ H λx H'=>∃k,x= .bl k/\Q k H'
theorem ES{op:CmpOp}{r:R2}(ho:iJ X (bV op) r)(ha:PE X a ta)(hb:PE X b tb)(hm:gi op b=false):PT X (.Compare a [op] [b] pos) (By (K4 r ta tb)):=by
 intro pins s σ H Q I h
 refine wpAny_isTrue_Compare1 (eD (ha pins s σ H _ I h) λv s1 ⟨x,H1,I1,r1,q1⟩=>eD (hb pins s1 σ H1 _ I1 q1) λu s2 ⟨y,H2,I2,r2,q2⟩=>
  eD (ho pins s2 σ H2 x y v u _ I2 r1 r2 q2) λc s3 ⟨z,H3,I3,r3,k,e,q3⟩=> ?_) hm
 subst e
 cases r3
 exact fj ⟨H3,I3,q3⟩
noncomputable def BB(r r':R2)(ta tb tc:TE):TE:=λσ H Q=>ta σ H λx H1=>tb σ H1 λy H2=>r x y H2 λz H3=>∃k,z= .bl k/\
 (if k=true then tc σ H3 λw' H4=>r' y w' H4 Q else Q (.bl false) H3)
theorem Ca{op op':CmpOp}{r r':R2}(ho:iJ X (bV op) r)(ho':iJ X (bV op') r')(ha:PE X a ta)(hb:PE X b tb)(hc:PE X c tc)
  (hm:lastMarks [op,op'] [b,c]=false:=by with_unfolding_all rfl):PT X (.Compare a [op,op'] [b,c] pos) (By (BB r r' ta tb tc)):=by
 intro pins s σ H Q I h
 refine isTrue_chain (eD (ha pins s σ H _ I h) λv s1 ⟨x,H1,I1,r1,q1⟩=>test_link (eD (hb pins s1 σ H1 _ I1 q1) λu s2 ⟨y,H2,I2,r2,q2⟩=>
  eD (ho pins s2 σ H2 x y v u _ I2 r1 r2 q2) λd s3 ⟨z,H3,I3,r3,k,e,q3⟩=> ?_)) hm
 subst e
 cases r3
 refine fj ?_
 cases k with
 |false=>
  obtain⟨k',e',q'⟩:=q3
  cases e'
  exact ite_ff ⟨H3,I3,q'⟩
 |true=>
  refine ite_tt (test_last (eD (hc pins s3 σ H3 _ I3 q3) λw' s4 ⟨z',H4,I4,r4,q4⟩=>eD (ho' pins s4 σ H4 y z' u w' _ I4 r2 r4 q4) λd' s5 ⟨z2,H5,I5,r5,k2,e2,q5⟩=> ?_))
  subst e2
  cases r5
  exact fj ⟨H5,I5,q5⟩
theorem ma:(aO:Nat)<2^63:=by rw[jq];decide
theorem xI:iJ X (dM .Add) (λx y H Q=>∃i j,x= .str i/\y= .str j/\i.length+j.length<=aO/\Q (.str (i++j)) H):=by
 intro pins s σ H x y v u Q I rx ry h
 obtain⟨i,j,rfl,rfl,hz,q⟩:=h
 obtain⟨t,rfl⟩:=rx
 obtain⟨t',rfl⟩:=ry
 exact add_str (λt' tk=>⟨.str (i++j),H,I.tok _,⟨_,rfl⟩,q⟩) hz
theorem Bn{x:V}{us:List ae}(r:Vals [x] us):∃u,us=[u]/\RelV x u:=by
 cases r with
 |cons r1 r2=>cases r2;exact⟨_,rfl,r1⟩
theorem KU{x y:V}{us:List ae}(r:Vals [x,y] us):∃u w',us=[u,w']/\RelV x u/\RelV y w':=by
 cases r with
 |cons r1 r2=>
  cases r2 with
  |cons r3 r4=>cases r4;exact⟨_,_,rfl,r1,r3⟩
theorem AX(hc:X.calm=true):iF X (.builtin "max") (λxs H Q=>∃i j,xs=[.int i,.int j]/\Q (.int (if j>i then j else i)) H):=by
 intro pins s σ H xs us Q I r h
 obtain⟨i,j,rfl,q⟩:=h
 obtain⟨u,w',rfl,⟨t,rfl⟩,⟨t',rfl⟩⟩:=KU r
 refine max_two_ints (I.ok.hd hc) λh' tk k=>⟨_,H,I.kept k,?_,q⟩
 by_cases hj:j>i
 ·rw[if_pos hj,if_pos hj];exact⟨_,rfl⟩
 ·rw[if_neg hj,if_neg hj];exact⟨_,rfl⟩
end
structure ObjM(h:Heap)(x dx C:Addr)(mA:Str->Option ae):Prop where
 obj:h.get? x=some (PySem.W.instObj C dx)
 ns:h.Ns1 dx mA
 ne:dx≠x
theorem Ax{h:Heap}{dx:Addr}{mA:Str->Option ae}(n:h.Ns1 dx mA):∃od,h.get? dx=some od/\∀name,PySem.W.lookIn name od=some (mA name):=by
 obtain⟨o,es,ep,ho,hd,hk,_,hm⟩:=n
 refine⟨o,ho,λname=> ?_⟩
 have e:=hm name
 unfold nsFind findBy at e
 rw[<-Array.find?_toList]at e
 unfold PySem.W.lookIn
 rw[hd]
 dsimp only
 split
 ·rename_i y q
  rw[q]at e
  exact congrArg some e
 ·rename_i q
  rw[q]at e
  have a:es.toList.any (·.refKey)=false:=by
   rw[List.any_eq_false]
   intro y hy
   obtain⟨z,t,hkey⟩:=hk y (Array.mem_toList_iff.mp hy)
   simp[DictEntry.refKey,hkey]
  have a':¬es.toList.any (·.refKey)=true:=by rw[a];exact bz
  rw[if_neg a']
  exact congrArg some e
theorem ObjM.look{h:Heap}{x dx C:Addr}{mA:Str->Option ae}(I:ObjM h x dx C mA):∃od,PySem.W.InstAt h x (PySem.W.instObj C dx) C (some od)/\∀name,PySem.W.lookIn name od=some (mA name):=
 let⟨od,ho,hl⟩:=Ax I.ns
 ⟨od,⟨I.obj,rfl,rfl,ho⟩,hl⟩
section
variable{prog:aJ}{w:aV}{A:Around}{E:ae->ai->Prop}{s:ai}{K:PySem.W.Frag}{x dx C f:Addr}{mA:Str->Option ae}{name:Str}{v:ae}
theorem Gy{expr:Bool}{Q:ae->ai->Prop}(X:K.In s.heap)(I:ObjM s.heap x dx C mA)(hg:PySem.W.plainGet K C name=true)(hh:PySem.W.hasDictIn K C=true)
  (ha:PySem.W.findIn K (.ref C) name=some none) (hv:mA name=some v) (hv':PySem.W.handedIn v=true) (h:Q v {s with toks:=s.toks+1}):
  wpAny (aQ prog w) A (getAttr (.ref x) name expr) Q E s:=by
 obtain⟨od,J,hl⟩:=I.look
 exact PySem.W.get_value X J (PySem.W.plainGet_of hg).1 (PySem.W.findObj_own hh ha rfl (by rw[hl,hv])) hv' h
theorem DJ{pl:Sem Bool}{Q:ae×List ae->ai->Prop}(X:K.In s.heap)(I:ObjM s.heap x dx C mA)(hg:PySem.W.plainGet K C name=true)
  (hf:PySem.W.findIn K (.ref C) name=some (some (.ref f))) (ht:PySem.W.isFn K (.ref f)=true) (hv:mA name=none) (h:Q (.ref f,[.ref x]) s):
  wpAny (aQ prog w) A (qb (.ref x) name pl) Q E s:=by
 obtain⟨od,J,hl⟩:=I.look
 exact PySem.W.method_fn X J (PySem.W.plainGet_of hg).1 (PySem.W.plainGet_of hg).2 hf (beq_iff_eq.mp ht) (by show(PySem.W.lookIn name od).map (·.isSome)=some false;rw[hl,hv];rfl) h
theorem EF{ns:List Str}{Q:Unit->ai->Prop}(X:K.In s.heap)(I:ObjM s.heap x dx C mA)
  (hs:PySem.W.findIn K (.ref C) "__setattr__" =some (some (.builtin "object.__setattr__"))) (hp:PySem.W.plainOver K C=true) (ht:PySem.W.takerIn K C name=some none) (hh:PySem.W.hasDictIn K C=true)
  (hw:PySem.Within mA ns) (hsz:ns.length<=aO)
  (h:∀h',ObjM h' x dx C (λy=>if y=name then some v else mA y)->eA dx s.heap h'->Q () {s with heap:=h',toks:=s.toks+2}):
  wpAny (aQ prog w) A (setAttr (.ref x) name v) Q E s:=by
 obtain⟨od,J,hl⟩:=I.look
 refine PySem.W.set_plain X J hs (PySem.W.osa_open (s:={s with toks:=s.toks+1}) (r:=none) X J hp ht λb=> ?_)
 obtain⟨cd,hc,hd'⟩:=PySem.W.any_some hh
 have hx:s.heap.get? x=some ⟨.ref C,some dx,.plain,#[]⟩:=I.obj
 refine aa (aq (aa (aa (wpAny_loadPart hx (aa (PySem.W.Looks.here (s:={s with toks:=s.toks+1}) (PySem.W.looks_clsIn X hc) ?_))))))
 rw[hd']
 refine aq (a:=some dx) (aa (aq (aa ?_)))
 refine wpAny_nsSet1 (s:={s with toks:=s.toks+1}) I.ns λh' hn2 hs2=> ?_
 obtain⟨oD,esD,epD,hoD,hdD,hcD⟩:=hn2.count (PySem.Within.cons name v hw)
 refine aa (wpAny_lookBehind hoD (by rw[hdD];exact pastItsLine_dict (aR hcD (by rw[aU];ac_nf))) ?_)
 exact aq (h _ ⟨(hs2.2 _ (aG I.ne)).trans I.obj,hn2,I.ne⟩ hs2)
theorem Dc{R:Result->ai->Prop}{vs:List ae}{kw:List (Str×ae)}(X:K.In s.heap)(hm:PySem.W.makesIn K C=true)
  (hi:PySem.W.findIn K (.ref C) "__init__" =some (some (.ref f))) (hf:PySem.W.typeIn K (.ref f)=some (.type "function"))
  (h:codeAny (aQ prog w) (A.under (.builtin "type.__call__" ⟨.ref C::vs,kw⟩)) (.call (.ref f) ⟨.ref (s.heap.objs.size+1)::vs,kw⟩) (PySem.W.InitBack (s.heap.objs.size+1) R)
   {s with heap:=(s.heap.push PySem.W.emptyDict).push (PySem.W.instObj C s.heap.objs.size)}):
  codeAny (aQ prog w) A (.call (.ref C) ⟨vs,kw⟩) R s:=by
 obtain⟨hh,g,d,t,os⟩:=s
 exact PySem.W.make_core (PySem.W.makes_of X hm) (PySem.W.looks_findIn X hi) (λself=>PySem.W.bind_fn X self hf) (.inl rfl) h
end
noncomputable def jf(f:Str)(v:V):List (Str×V)->List (Str×V)
 |[]=>[(f,v)]
 |(g,x)::r=>if g=f then(g,v)::r else(g,x)::jf f v r
theorem pj(f g:Str)(v:V):∀fs:List (Str×V),(jf f v fs).lookup g=if g=f then some v else fs.lookup g
 |[]=>by
  show iU g [(f,v)]=_
  by_cases h:g=f
  ·have hb:(g==f)=true:=beq_iff_eq.mpr h
   simp only[iU,hb,if_pos h]
  ·have hb:(g==f)=false:=beq_eq_false_iff_ne.mpr h
   simp only[iU,hb,if_neg h]
 |(k,x)::r=>by
  have ih:=pj f g v r
  rw[show jf f v ((k,x)::r)=(if k=f then(k,v)::r else(k,x)::jf f v r)from rfl]
  by_cases hk:k=f
  ·rw[if_pos hk]
   by_cases h:g=k
   ·have hb:(g==k)=true:=beq_iff_eq.mpr h
    simp only[iU,hb,if_pos (h.trans hk)]
   ·have hb:(g==k)=false:=beq_eq_false_iff_ne.mpr h
    simp only[iU,hb,if_neg (λe:g=f=>h (e.trans hk.symm))]
  ·rw[if_neg hk]
   by_cases h:g=k
   ·have hb:(g==k)=true:=beq_iff_eq.mpr h
    simp only[iU,hb,if_neg (λe:g=f=>hk (h.symm.trans e))]
   ·have hb:(g==k)=false:=beq_eq_false_iff_ne.mpr h
    simp only[iU,hb]
    exact ih
theorem oQ(f:Str)(v:V):∀fs:List (Str×V),f∈(jf f v fs).map (·.1)/\∀g,g∈fs.map (·.1)->g∈(jf f v fs).map (·.1)
 |[]=>⟨by simp[jf],λg h=>by simp at h⟩
 |(k,x)::r=>by
  obtain⟨i1,i2⟩:=oQ f v r
  rw[show jf f v ((k,x)::r)=(if k=f then(k,v)::r else(k,x)::jf f v r)from rfl]
  by_cases hk:k=f
  ·rw[if_pos hk]
   subst hk
   exact⟨by simp,λg h=>by simpa using h⟩
  ·rw[if_neg hk]
   refine⟨?_,λg h=> ?_⟩
   ·rw[aw]
    exact cV _ i1
   ·rw[aw]at h⊢
    rcases aI.mp h with e|e
    ·exact aI.mpr (.inl e)
    ·exact cV _ (i2 g e)
theorem pq(f:Str)(v:V):∀fs:List (Str×V),(jf f v fs).length<=fs.length+1
 |[]=>by simp[jf]
 |(k,x)::r=>by
  have ih:=pq f v r
  rw[show jf f v ((k,x)::r)=(if k=f then(k,v)::r else(k,x)::jf f v r)from rfl]
  by_cases hk:k=f
  ·rw[if_pos hk,aU,aU];ac_nf
  ·rw[if_neg hk,aU,aU];ac_nf
theorem RelO.some_of{v:V}{o:Option ae}(r:RelO (some v) o):∃u,o=some u/\RelV v u:=by
 cases o with
 |none=>exact(show False from r).elim
 |some u=>exact⟨u,rfl,r⟩
theorem RelO.none_of{o:Option ae}(r:RelO none o):o=none:=by
 cases o with
 |none=>rfl
 |some u=>exact(show False from r).elim
theorem AO{v:V}{u:ae}(r:RelV v u):PySem.W.handedIn u=true:=by
 cases v with
 |non=>cases (show u=br from r);rfl
 |bl b=>cases (show u=e8 b from r);rfl
 |int i=>obtain⟨t,e⟩:=(show∃t,u=dO i t from r);cases e;rfl
 |str x=>obtain⟨t,e⟩:=(show∃t,u=jm x t from r);cases e;rfl
 |byt b=>obtain⟨t,e⟩:=(show∃t,u=ae.bytes b t from r);cases e;rfl
 |flt b=>obtain⟨t,e⟩:=(show∃t,u=ae.float b t from r);cases e;rfl
 |ref a=>cases (show u=aE a from r);rfl
 |ty n=>cases (show u=bE n from r);rfl
section
variable{P:aJ}{w:aV}{H:Hp}{h:Heap}{a C dx:Addr}{fs:List (Str×V)}
theorem qa(hok:HOk P w H h)(e:H a=some (.ins C dx fs)):∃mA,ObjM h a dx C mA/\(∀f,RelO (fs.lookup f) (mA f))/\PySem.Within mA (fs.map (·.1))/\fs.length<=1000/\H dx=some (.own a):=by
 obtain⟨d,z,ne,ob,mA,n,r,q⟩:=(show ObjOk P w H h a (.ins C dx fs)from hok a _ e)
 exact⟨mA,⟨ob,n,ne⟩,r,q,z,d⟩
end
structure Cls(K:PySem.W.Frag)(C:Addr):Prop where
 pg:PySem.W.plainGet K C Str.empty=true
 hd:PySem.W.hasDictIn K C=true
 po:PySem.W.plainOver K C=true
 sa:PySem.W.findIn K (.ref C) "__setattr__" =some (some (.builtin "object.__setattr__"))
theorem Cls.get{K:PySem.W.Frag}{C:Addr}(c:Cls K C)(f:Str):PySem.W.plainGet K C f=true:=c.pg
noncomputable def NoAttr(K:PySem.W.Frag)(C:Addr)(f:Str):Prop:=PySem.W.findIn K (.ref C) f=some none
theorem NoAttr.taker{K:PySem.W.Frag}{C:Addr}{f:Str}(n:NoAttr K C f):PySem.W.takerIn K C f=some none:=by
 unfold PySem.W.takerIn
 rw[show PySem.W.findIn K (.ref C) f=some none from n]
 rfl
structure jb(K:PySem.W.Frag)(C:Addr)(m:Str)(f:Addr):Prop where
 at_:PySem.W.findIn K (.ref C) m=some (some (.ref f))
 fn:PySem.W.isFn K (.ref f)=true
 kp:PySem.W.keepIn K (.ref f)=true
section
variable{X:Cx}{pins:List (Addr×Obj)}{σ:St}{H:Hp}{s:ai}{a C dx:Addr}{fs:List (Str×V)}{f:Str}{v:V}{A:Around}{E:ae->ai->Prop}
theorem rf{b:Bool}{Q:ae->ai->Prop}(I:Inv X pins σ H s)(e:H a=some (.ins C dx fs))(c:Cls X.K C)(n:NoAttr X.K C f)(l:fs.lookup f=some v)
  (h:∀u s',Inv X pins σ H s'->RelV v u->Q u s'):wpAny (aQ X.prog X.w) A (getAttr (.ref a) f b) Q E s:=by
 obtain⟨mA,O,r,_,_,_⟩:=qa I.hok e
 obtain⟨u,hu,ru⟩:=RelO.some_of (v:=v) (o:=mA f) (by rw[<-l];exact r f)
 exact Gy I.kIn O (c.get f) c.hd n hu (AO ru) (h u _ (I.tok _) ru)
theorem re{m:Str}{g:Addr}{pl:Sem Bool}{Q:ae×List ae->ai->Prop}(I:Inv X pins σ H s)(e:H a=some (.ins C dx fs))(c:Cls X.K C)(k:jb X.K C m g)(l:fs.lookup m=none)
  (h:Q (.ref g,[.ref a]) s):wpAny (aQ X.prog X.w) A (qb (.ref a) m pl) Q E s:=by
 obtain⟨mA,O,r,_,_,_⟩:=qa I.hok e
 have hn:mA m=none:=RelO.none_of (by rw[<-l];exact r m)
 exact DJ I.kIn O (c.get m) k.at_ k.fn hn h
theorem qC{y:V}{u:ae}{Q:Unit->ai->Prop}(I:Inv X pins σ H s)(e:H a=some (.ins C dx fs))(c:Cls X.K C)(n:NoAttr X.K C f)(hl:fs.length<1000)(ry:RelV y u)
  (h:∀s',Inv X pins σ (upd H a (.ins C dx (jf f y fs))) s'->Q () s'):wpAny (aQ X.prog X.w) A (setAttr (.ref a) f u) Q E s:=by
 obtain⟨mA,O,r,wi,_,ho⟩:=qa I.hok e
 have hz:(fs.map (·.1)).length<=aO:=by rw[ak,jq];ac_nf
 refine EF I.kIn O c.sa c.po n.taker c.hd wi hz λh' O' sb=>h _ ?_
 have hd:∃o,h'.get? dx=some o:=let⟨o,_,_,e',_⟩:=O'.ns;⟨o,e'⟩
 refine I.write (x:=a) (e:=dx) (by rw[e];exact cE) (.inr ho) (λb q hb z=>(sb.2 b hb).trans z) hd ?_
 refine⟨by rw[bD O.ne];exact ho,?_,O.ne,O'.obj,_,O'.ns,λg=> ?_,λg hg=> ?_⟩
 ·have:=pq f y fs;ac_nf
 ·show RelO ((jf f y fs).lookup g) (if g=f then some u else mA g)
  rw[pj]
  by_cases q:g=f
  ·rw[if_pos q,if_pos q];exact ry
  ·rw[if_neg q,if_neg q];exact r g
 ·by_cases q:g=f
  ·rw[q];exact(oQ f y fs).1
  ·refine(oQ f y fs).2 g (wi g λz=>hg ?_)
   show(if g=f then some u else mA g)=none
   rw[if_neg q];exact z
theorem Inv.made(I:Inv X pins σ H s):Inv X pins σ (upd (upd H s.heap.objs.size (.own (s.heap.objs.size+1))) (s.heap.objs.size+1) (.ins C s.heap.objs.size []))
  {s with heap:=(s.heap.push PySem.W.emptyDict).push (PySem.W.instObj C s.heap.objs.size)}:=by
 have e1:(s.heap.push PySem.W.emptyDict).get? s.heap.objs.size=some PySem.W.emptyDict:=aK s.heap rfl
 have e2:((s.heap.push PySem.W.emptyDict).push (PySem.W.instObj C s.heap.objs.size)).get? (s.heap.objs.size+1)=some (PySem.W.instObj C s.heap.objs.size):=by
  have:=aK (s.heap.push PySem.W.emptyDict) (o:=PySem.W.instObj C s.heap.objs.size) rfl
  rwa [cS]at this
 have e3:(s.heap.push PySem.W.emptyDict).Ns s.heap.objs.size (λ_=>none):=⟨PySem.W.emptyDict,#[],_,e1,rfl,(λe he=>absurd he (by simp)),λ_=>rfl⟩
 have I1:=I.laid (a:=s.heap.objs.size) (o:= .own (s.heap.objs.size+1)) (h':=s.heap.push PySem.W.emptyDict) (t':=s.toks) (λb u q=>af _ q) (ao _) ⟨_,e1⟩
 refine I1.laid (a:=s.heap.objs.size+1) (o:= .ins C s.heap.objs.size []) (t':=s.toks) (λb u q=>af _ q) (Nat.le_of_eq (cS _ _)) ?_
 have ne:s.heap.objs.size≠s.heap.objs.size+1:=aN (fF _)
 refine⟨by rw[bD ne,cw],bt _,ne,e2,λ_=>none,(Heap.Ns1.of_empty e3).at λo q=>af _ q,λ_=>cE,λy hy=>absurd rfl hy⟩
theorem GR{prog:aJ}{w:aV}{env:Env}{e:Expr}{f:Str}{pos:Pos}{s:ai}{Q:ae->ai->Prop}(hb:cy e f env (eval e env)=eval e env)
  (h:wpAny (aQ prog w) A (eval e env) (λo s₁=>wpAny (aQ prog w) A (getAttr o f true) Q E s₁) E s):wpAny (aQ prog w) A (eval (.Attribute e f pos) env) Q E s:=
 Attribute_any_ h (by rw[arm_eval_Attribute,hb])
end
noncomputable def NO(K:PySem.W.Frag)(ta:TE)(f:Str):TE:=λσ H Q=>ta σ H λx H1=>∃a C dx fs v,x= .ref a/\H1 a=some (.ins C dx fs)/\Cls K C/\NoAttr K C f/\fs.lookup f=some v/\Q v H1
noncomputable def NU(K:PySem.W.Frag)(ta tv:TE)(f:Str):TS:=λD σ H=>tv σ H λy H1=>ta σ H1 λx H2=>∃a C dx fs,x= .ref a/\H2 a=some (.ins C dx fs)/\Cls K C/\NoAttr K C f/\fs.length<1000/\
 D.nx σ (upd H2 a (.ins C dx (jf f y fs)))
noncomputable def KI(X:Cx)(op:ko)(rd:V->V->Hp->VK->Prop):Prop:=
 ∀(pins:List (Addr×Obj)) (s:ai) (σ:St) (H:Hp) (x y:V) (u v:ae) (Q:VK),Inv X pins σ H s->RelV x u->RelV y v->rd x y H Q->wpAny (aQ X.prog X.w) X.A (inplaceOp op u v) (EP X pins σ Q) X.xe s
noncomputable def EI(K:PySem.W.Frag)(ta tv:TE)(rd:V->V->Hp->VK->Prop)(f:Str):TS:=λD σ H=>ta σ H λx H1=>∃a C dx fs v,x= .ref a/\H1 a=some (.ins C dx fs)/\Cls K C/\NoAttr K C f/\fs.lookup f=some v/\
 tv σ H1 λy H2=>rd v y H2 λz H3=>∃dx' fs',H3 a=some (.ins C dx' fs')/\fs'.length<1000/\D.nx σ (upd H3 a (.ins C dx' (jf f z fs')))
section
variable{X:Cx}{o e value:Expr}{f:Str}{pos pos' tpos:Pos}{ta tv:TE}
theorem IG(he:PE X e ta)(hb:cy e f X.env (eval e X.env)=eval e X.env):PE X (.Attribute e f pos) (NO X.K ta f):=by
 intro pins s σ H Q I h
 refine GR hb (eD (he pins s σ H _ I h) λu s1 hPl=> ?_)
 obtain⟨x,H1,I1,rx,a,C,dx,fs,v,ex,ea,c,n,l,q⟩:=hPl
 subst ex
 obtain rfl:u=aE a:=rx
 exact rf I1 ea c n l λu' s2 I2 ru=>⟨v,H1,I2,ru,q⟩
theorem Ip(ha:PE X o ta)(hv:PE X value tv)(hs:gQ value (some (.Attribute o f pos')) pos.line X.env=pure false):PS X (.Assign [.Attribute o f pos'] value pos) (NU X.K ta tv f):=by
 intro pins s σ H D I h
 refine plainObj_wpAny_Assign_Attribute (eD (hv pins s σ H _ I h) λu s1 ⟨y,H1,I1,ry,q⟩=>eD (ha pins s1 σ H1 _ I1 q) λov s2 ⟨x,H2,I2,rx,a,C,dx,fs,ex,ea,c,n,l,q2⟩=> ?_) hs
 subst ex
 obtain rfl:ov=aE a:=rx
 exact qC I2 ea c n l ry λs3 I3=>⟨σ,_,I3,q2⟩
theorem sX{op:ko}{rd:V->V->Hp->VK->Prop}(ha:PE X o ta)(hv:PE X value tv)(hop:KI X op rd):PS X (.AugAssign (.Attribute o f tpos) op value pos) (EI X.K ta tv rd f):=by
 intro pins s σ H D I h
 refine wpAny_AugAssign_AttributeAny (eD (ha pins s σ H _ I h) λov s1 hPl=> ?_)
 obtain⟨x,H1,I1,rx,a,C,dx,fs,v,ex,ea,c,n,l,q⟩:=hPl
 subst ex
 obtain rfl:ov=aE a:=rx
 refine rf I1 ea c n l λu s2 I2 ru=>eD (hv pins s2 σ H1 _ I2 q) λw3 s3 ⟨y,H2,I3,ry,q3⟩=>eD (hop pins s3 σ H2 v y u w3 _ I3 ru ry q3) λw4 s4 ⟨z,H3,I4,rz,dx',fs',ea',l',q4⟩=> ?_
 exact qC I4 ea' c n l' rz λs5 I5=>⟨σ,_,I5,q4⟩
noncomputable def N6:V->V->Hp->VK->Prop:=λx y H Q=>∃i j,x= .int i/\y= .int j/\Q (.int (i+j)) H
noncomputable def NW:V->V->Hp->VK->Prop:=λx y H Q=>∃i j,x= .int i/\y= .int j/\Q (.int (i-j)) H
theorem Kg:KI X .Add N6:=by
 rintro pins s σ H x y u v Q I rx ry ⟨i,j,rfl,rfl,q⟩
 obtain⟨t,rfl⟩:=(show∃t,u=dO i t from rx)
 obtain⟨t',rfl⟩:=(show∃t',v=dO j t' from ry)
 exact PyProof.Rows.iadd_int ⟨.int (i+j),H,I.tok _,⟨_,rfl⟩,q⟩
theorem Kf:KI X .Sub NW:=by
 rintro pins s σ H x y u v Q I rx ry ⟨i,j,rfl,rfl,q⟩
 obtain⟨t,rfl⟩:=(show∃t,u=dO i t from rx)
 obtain⟨t',rfl⟩:=(show∃t',v=dO j t' from ry)
 exact PyProof.Rows.isub_int ⟨.int (i-j),H,I.tok _,⟨_,rfl⟩,q⟩
end
section
variable{X:Cx}{pins:List (Addr×Obj)}{σ:St}{H:Hp}{s:ai}{A:Around}{E:ae->ai->Prop}{Q:ae->ai->Prop}{c:ae}{b:Bool}
inductive pP (K:PySem.W.Frag) (H:Hp):V->ae->Prop where
 |non:pP K H .non (.type "NoneType")
 |bl (x:Bool):pP K H (.bl x) (.type "bool")
 |int (i:Int):pP K H (.int i) (.type "int")
 |str (x:Str):pP K H (.str x) (.type "str")
 |flt (x:UInt64):pP K H (.flt x) (.type "float")
 |lst {a:Addr} {xs:List V} (e:H a=some (.lst xs)):pP K H (.ref a) (.type "list")
 |frz {a:Addr} {o:Obj} {xs:List V} (e:H a=some (.frz o (.lst xs))):pP K H (.ref a) (.type "list")
 |tup {a:Addr} {xs:List V} (e:H a=some (.tup xs)):pP K H (.ref a) (.type "tuple")
 |dK {a:Addr} {kvs:List (Key×V)} (e:H a=some (.dK kvs)):pP K H (.ref a) (.type "dict")
 |dT {a:Addr} {kvs:List (List Key×V)} (e:H a=some (.dT kvs)):pP K H (.ref a) (.type "dict")
 |ins {a C dx:Addr} {fs:List (Str×V)} (e:H a=some (.ins C dx fs)) (cl:Cls K C) (ha:PySem.W.findIn K (.ref C) "__class__" =some (some (.builtin "object.__class__")))
   (hn:PySem.W.specialIn K (.builtin "object.__class__") "__get__" =some (some (.builtin "getset_descriptor.__get__"))) (htk:PySem.W.takesIn K (.builtin "object.__class__")=some true)
   (hm:PySem.W.mroIn K C (.type "object")=some true):pP K H (.ref a) (.ref C)
theorem AK{x:V}{u t:ae}(I:Inv X pins σ H s)(rx:RelV x u)(ty:pP X.K H x t)(e:PySem.W.kitOne X.K t c=some b)(h:∀tk,Q (.bool b) {s with toks:=tk}):
  wpAny (aQ X.prog X.w) A (call (.builtin "isinstance") [u,c]) Q E s:=by
 cases ty with
 |non=>cases (show u=br from rx);exact PySem.W.kia_one PySem.W.kitx_none I.kIn cE e (λz=>nomatch z) h
 |bl y=>cases (show u=e8 y from rx);exact PySem.W.kia_one PySem.W.kitx_bool I.kIn cE e (λz=>nomatch z) h
 |int i=>obtain⟨t,q⟩:=(show∃t,u=dO i t from rx);cases q;exact PySem.W.kia_one PySem.W.kitx_int I.kIn cE e (λz=>nomatch z) h
 |str y=>obtain⟨t,q⟩:=(show∃t,u=jm y t from rx);cases q;exact PySem.W.kia_one PySem.W.kitx_str I.kIn cE e (λz=>nomatch z) h
 |flt y=>obtain⟨t,q⟩:=(show∃t,u=ae.float y t from rx);cases q;exact PySem.W.kia_one PySem.W.kitx_float I.kIn cE e (λz=>nomatch z) h
 | @lst a xs ea=>
  cases (show u=aE a from rx)
  obtain⟨_,_,n,_,h1⟩:=(show ObjOk X.prog X.w H s.heap a (.lst xs)from I.hok a _ ea)
  exact PySem.W.kia_one PySem.W.kitx_list I.kIn ⟨_,h1,rfl⟩ e (λz=>nomatch z) h
 | @frz a ob xs ea=>
  cases (show u=aE a from rx)
  obtain⟨_,_,_,n,_,h1⟩:=(show ObjOk X.prog X.w H s.heap a (.frz ob (.lst xs))from I.hok a _ ea)
  exact PySem.W.kia_one PySem.W.kitx_list I.kIn ⟨_,h1,rfl⟩ e (λz=>nomatch z) h
 | @tup a xs ea=>
  cases (show u=aE a from rx)
  obtain⟨_,_,_,p⟩:=(show ObjOk X.prog X.w H s.heap a (.tup xs)from I.hok a _ ea)
  obtain⟨o,h1,h2,_⟩:=p
  exact PySem.W.kia_one PySem.W.kitx_tuple I.kIn ⟨o,h1,h2⟩ e (λz=>nomatch z) h
 | @dK a kvs ea=>
  cases (show u=aE a from rx)
  obtain⟨_,_,vs,_,p⟩:=(show ObjOk X.prog X.w H s.heap a (.dK kvs)from I.hok a _ ea)
  obtain⟨o,es,ep,h1,h2,_⟩:=p
  exact PySem.W.kia_one PySem.W.kitx_dict I.kIn ⟨o,h1,h2.1⟩ e (λz=>nomatch z) h
 | @dT a kvs ea=>
  cases (show u=aE a from rx)
  obtain⟨_,_,xs,_,o,es,ep,h1,h2,_⟩:=(show ObjOk X.prog X.w H s.heap a (.dT kvs)from I.hok a _ ea)
  exact PySem.W.kia_one PySem.W.kitx_dict I.kIn ⟨o,h1,h2.1⟩ e (λz=>nomatch z) h
 | @ins a C dx fs ea cl ha hn htk hm=>
  cases (show u=aE a from rx)
  obtain⟨mA,O,_⟩:=qa I.hok ea
  obtain⟨od,J,_⟩:=O.look
  exact PySem.W.kia_one (PySem.W.kitx_own (cl.get _) cl.hd ha hn htk hm) I.kIn J e (λz=>nomatch z) h
end
structure Room(k:Nat)(A:Around):Prop where
 hd:A.handled=none
 dp:A.depth+3*k+5<recursionLimit
 un:A.units+16*k+200<iG
theorem Room.mono{j k:Nat}{A:Around}(r:Room k A)(h:j<=k):Room j A:=⟨r.hd,by have:=r.dp;ac_nf,by have:=r.un;ac_nf⟩
theorem Room.deeper{k:Nat}{A:Around}(r:Room (k+1) A)(env:Env):Room k (A.deeper env):=
 ⟨r.hd,by have:=r.dp;show A.depth+1+3*k+5<_;ac_nf,by have:=r.un;show A.units+3+16*k+200<_;ac_nf⟩
theorem xU{A:Around}{C:Addr}{us:List ae}{kw:List (Str×ae)}:(A.under (.builtin "type.__call__" ⟨.ref C::us,kw⟩)).depth=A.depth+1:=by
 first|rfl|simp[Around.under,Code.weight,Code.isCreation,Code.isGuard,Code.isCaller,Code.frames,Code.isFrame,guardIds]
theorem xT{A:Around}{C:Addr}{us:List ae}{kw:List (Str×ae)}:(A.under (.builtin "type.__call__" ⟨.ref C::us,kw⟩)).units=A.units+1:=by
 first|rfl|simp[Around.under,Code.cUnits,Code.frames,Code.isFrame]
theorem Room.make{k:Nat}{A:Around}(r:Room (k+1) A)(C:Addr)(us:List ae)(kw:List (Str×ae)):Room k (A.under (.builtin "type.__call__" ⟨.ref C::us,kw⟩)):=
 ⟨r.hd,by have:=r.dp;rw[xU];ac_nf,by have:=r.un;rw[xT];ac_nf⟩
theorem Room.depth{k:Nat}{A:Around}(r:Room k A):A.depth<recursionLimit:=by have:=r.dp;ac_nf
noncomputable def K6:TA:=λ_ H Q=>Q [] H
noncomputable def Lc(ta:TE)(tr:TA):TA:=λσ H Q=>ta σ H λx H1=>tr σ H1 λxs H2=>Q (x::xs) H2
section
variable{X:Cx}{e:Expr}{es:List Expr}{te:TE}{t:TA}{pos:Pos}
theorem IJ:PA X [] K6:=λ_ _ _ _ H Q I h=>pS ⟨[],H,I,.nil,h⟩
theorem Fm(ha:PE X e te)(hr:PA X es t)(hs:au (e::es) X.env=(false,eval e X.env)::au es X.env:=by rfl):PA X (e::es) (Lc te t):=by
 intro pos pins s σ H Q I h
 rw[hs]
 show wpAny _ _ (spliced ((false,eval e X.env)::bT pos (au es X.env))) _ _ s
 refine jC (eD (ha pins s σ H _ I h) λu s1 hPl=> ?_)
 obtain⟨x,H1,I1,r1,q1⟩:=hPl
 exact eD (hr pos pins s1 σ H1 _ I1 q1) λus s2 hPl=>by obtain⟨xs,H2,I2,r2,q2⟩:=hPl;exact⟨x::xs,H2,I2,.cons r1 r2,q2⟩
noncomputable def NE(t:TA):TE:=λσ H Q=>t σ H λxs H1=>xs.length<=aO/\∀p,H1 p=none->Q (.ref p) (upd H1 p (.tup xs))
noncomputable def NL(t:TA):TE:=λσ H Q=>t σ H λxs H1=>xs.length<=aO/\∀p,H1 p=none->Q (.ref p) (upd H1 p (.lst xs))
theorem IA{x1}(h:PA X es t):PE X (.Tuple es x1 pos) (NE t):=by
 intro pins s σ H Q I hq
 refine wpAny_Tuple_spliced (eD (h pos pins s σ H _ I hq) λus s1 ⟨xs,H1,I1,r,z,q⟩=>⟨by rw[<-r.length];exact z,?_⟩)
 have hf:H1 s1.heap.objs.size=none:=I1.hok.fresh (ao _)
 refine⟨.ref s1.heap.objs.size,upd H1 s1.heap.objs.size (.tup xs),I1.laid (t':=s1.toks) (λb u e=>af _ e) (ao _) ?_,rfl,q _ hf⟩
 exact⟨z,us,r,⟨_,aK _ rfl,rfl,_,rfl⟩⟩
theorem IF(h:PA X es t):PE X (.List es pos) (NL t):=by
 intro pins s σ H Q I hq
 refine wpAny_List_spliced (eD (h pos pins s σ H _ I hq) λus s1 ⟨xs,H1,I1,r,z,q⟩=>⟨by rw[<-r.length];exact z,?_⟩)
 have hf:H1 s1.heap.objs.size=none:=I1.hok.fresh (ao _)
 refine⟨.ref s1.heap.objs.size,upd H1 s1.heap.objs.size (.lst xs),I1.laid (t':=s1.toks) (λb u e=>af _ e) (ao _) ?_,rfl,q _ hf⟩
 exact⟨z,us,0,r,aK _ rfl⟩
end
noncomputable abbrev Sp:=List V->Hp->VK->XK->Prop
noncomputable abbrev A7:=List Env->Hp->ai->XK->ae->ai->Prop
structure Env0(P:aJ)(w:aV)(K:PySem.W.Frag)(mg:Str->Option ae)(base:Heap)(A:Around)(outer:List Env)(s:ai)(H:Hp):Prop where
 frames:A.frames=some outer
 mod:Mod K mg base
 bs:∀b o,base.get? b=some o->s.heap.get? b=some o/\H b=none
 bsz:base.objs.size<=s.heap.objs.size
 funs:s.heap.FunFrames base outer
 frf:∀b∈lq outer,H b=none
 hok:HOk P w H s.heap
 bare:ly s.gens
noncomputable def CE(outer:List Env)(P:aJ)(w:aV)(H:Hp)(s:ai)(Q:VK)(u:ae)(s':ai):Prop:=
 ∃v H',s'.os=s.os/\ly s'.gens/\Un (lq outer) [] H H' s.heap s'.heap/\HOk P w H' s'.heap/\RelV v u/\Q v H'
noncomputable def CR(CX:A7)(outer:List Env)(P:aJ)(w:aV)(H:Hp)(s:ai)(Q:VK)(E:XK)(r:Result)(s':ai):Prop:=
 match r with
 | .ok (.ret u)=>CE outer P w H s Q u s'
 | .ok _=>False
 | .error e=>CX outer H s E e s'
structure FnOk(P:aJ)(w:aV)(K:PySem.W.Frag)(mg:Str->Option ae)(base:Heap)(CX:A7)(k:Nat)(f:Addr)(fd:aW)(ps:List Str)(sp:Sp):Prop where
 len:∀vs H Q E,sp vs H Q E->vs.length=ps.length
 run:∀(A:Around) (outer:List Env) (s:ai) (H:Hp) (args:Args) (us:List ae) (vs:List V) (Q:VK) (E:XK),Room k A->Env0 P w K mg base A outer s H->BindsTo s fd args (ps.zip us)->Vals vs us->sp vs H Q E->
  codeAny (aQ P w) A (.call (.ref f) args) (CR CX outer P w H s Q E) s
theorem FnOk.mono{P:aJ}{w:aV}{K:PySem.W.Frag}{mg:Str->Option ae}{base:Heap}{CX:A7}{j k:Nat}{f:Addr}{fd:aW}{ps:List Str}{sp:Sp}(F:FnOk P w K mg base CX j f fd ps sp)(h:j<=k):
  FnOk P w K mg base CX k f fd ps sp:=⟨F.len,λA outer s H args us vs Q E hr=>F.run A outer s H args us vs Q E (hr.mono h)⟩
theorem Env0.make{P:aJ}{w:aV}{K:PySem.W.Frag}{mg:Str->Option ae}{base:Heap}{A:Around}{outer:List Env}{s:ai}{H:Hp}(e:Env0 P w K mg base A outer s H)(C:Addr)(us:List ae)(kw:List (Str×ae)):
  Env0 P w K mg base (A.under (.builtin "type.__call__" ⟨.ref C::us,kw⟩)) outer s H:=⟨by first|exact e.frames|(simpa [Around.under,Code.envs,Code.isFrame,pushEnvs]using e.frames),e.mod,e.bs,e.bsz,e.funs,e.frf,e.hok,e.bare⟩
section
variable{X:Cx}{pins:List (Addr×Obj)}{σ:St}{H:Hp}{s s':ai}
theorem Inv.env0(I:Inv X pins σ H s):Env0 X.prog X.w X.K X.mg X.base X.A X.stack s H:=
 ⟨I.ok.frames,I.ok.mod,I.bs,aR I.ok.bsz I.sz,I.stack,I.stkFree,I.hok,I.bare⟩
theorem Inv.after{Q:VK}{u:ae}(I:Inv X pins σ H s)(h:CE X.stack X.prog X.w H s Q u s'):EP X pins σ Q u s':=by
 obtain⟨v,H',os,bare,un,hok,r,q⟩:=h
 obtain⟨hh,g,d,t,os'⟩:=s'
 obtain rfl:os'=s.os:=os
 exact⟨v,H',I.call (h':=hh) (g':=g) (d':=d) (t':=t) (ch:=[]) un hok bare (λb z=>absurd z (by simp)),r,q⟩
end
noncomputable def GZ(sp:Sp)(dvs:List V)(E:XK)(t:TA):TE:=λσ H Q=>t σ H λvs H1=>sp (vs++dvs) H1 Q E
noncomputable def GY(C:Addr)(m:Str)(sp:Sp)(dvs:List V)(E:XK)(ta:TE)(t:TA):TE:=λσ H Q=>ta σ H λx H1=>∃a dx fs,x= .ref a/\H1 a=some (.ins C dx fs)/\fs.lookup m=none/\
 t σ H1 λvs H2=>sp (x::(vs++dvs)) H2 Q E
noncomputable def K7(C:Addr)(sp:Sp)(dvs:List V)(E:XK)(t:TA):TE:=λσ H Q=>t σ H λvs H1=>∀x dx,H1 x=none->H1 dx=none->dx≠x->
 sp (.ref x::(vs++dvs)) (upd (upd H1 dx (.own x)) x (.ins C dx [])) (λv H2=>v= .non/\Q (.ref x) H2) E
noncomputable def Binds(K:PySem.W.Frag)(fd:aW)(ps:List Str)(ds:List ae):Prop:=
 ∀(s:ai) (us:List ae),K.In s.heap->(us++ds).length=ps.length->BindsTo s fd ⟨us,[]⟩ (ps.zip (us++ds))
theorem Binds.all{K:PySem.W.Frag}{fd:aW}{ps:List Str}(h:∀us:List ae,us.length=ps.length->bindArgs fd ⟨us,[]⟩=pure (ps.zip us)):Binds K fd ps []:=λs us _ hl=>by
 rw[dS]at hl⊢
 exact .of_eq (h us hl)
noncomputable def jA(CX:A7)(X:Cx)(E:XK):Prop:=∀(pins:List (Addr×Obj)) (σ:St) (H:Hp) (s:ai) (e:ae) (s':ai),Inv X pins σ H s->CX X.stack H s E e s'->X.xe e s'
section
variable{X:Cx}{CX:A7}{k:Nat}{f C:Addr}{fd:aW}{ps:List Str}{sp:Sp}{dvs:List V}{ds:List ae}{E:XK}{x m:Str}{p pos apos:Pos}{e o:Expr}{es:List Expr}{ta:TE}{t:TA}
theorem xB{pins:List (Addr×Obj)}{σ:St}{H:Hp}{s:ai}{Q:VK}{us:List ae}{vs:List V}(F:FnOk X.prog X.w X.K X.mg X.base CX k f fd ps sp)(hr:Room k X.A)(hb:Binds X.K fd ps ds)(hd:Vals dvs ds)(hx:jA CX X E)
  (I:Inv X pins σ H s) (r:Vals vs us) (h:sp (vs++dvs) H Q E):wpAny (aQ X.prog X.w) X.A (call (.ref f) us) (EP X pins σ Q) X.xe s:=by
 have r2:Vals (vs++dvs) (us++ds):=r.append hd
 have hl:(us++ds).length=ps.length:=by rw[<-r2.length];exact F.len _ _ _ _ h
 refine wpAny_call (nM (F.run X.A X.stack s H ⟨us,[]⟩ (us++ds) (vs++dvs) Q E hr I.env0 (hb s us I.kIn hl) r2 h) λr s' hq=> ?_)
 cases r with
 |error e=>exact hx pins σ H s e s' I hq
 |ok fl=>
  cases fl with
  |ret u=>exact I.after hq
  |next=>exact bQ hq
  |brk=>exact bQ hq
  |cont=>exact bQ hq
theorem zj(F:FnOk X.prog X.w X.K X.mg X.base CX k f fd ps sp)(hr:Room k X.A)(hg:Gl X x)(hm:X.mg x=some (.ref f))(hk:PySem.W.keepIn X.K (.ref f)=true)(hb:Binds X.K fd ps ds)(hd:Vals dvs ds)(hx:jA CX X E)
  (ha:PA X (e::es) t) (hdb:(x==("__debug__" :Str))=false:=by decide) (he:au (e::es) X.env=(false,eval e X.env)::au es X.env:=by rfl) (hpl:(bT pos (au es X.env)).any (·.1)=false:=by rfl):
  PE X (.Call (.Name x p) (e::es) [] pos) (GZ sp dvs E t):=by
 intro pins s σ H Q I h
 refine fO (nr I hg hm ?_ hdb)
 refine PySem.W.callWith_K (h₀:=X.base) I.ok.mod.kin hk (eD (ha pos pins s σ H _ I h) λus s1 ⟨vs,H1,I1,r,q⟩=>⟨I1.kIn,?_⟩) he hpl
 exact xB F hr hb hd hx I1 r q
theorem Fc{pl:Sem Bool}(he:PE X o ta)(c:Cls X.K C)(hm:jb X.K C m f)(F:FnOk X.prog X.w X.K X.mg X.base CX k f fd ps sp)(hr:Room k X.A)(hb:Binds X.K fd ps ds)(hd:Vals dvs ds)(hx:jA CX X E)(ha:PA X (e::es) t)
  (hst:au (e::es) X.env=(false,eval e X.env)::au es X.env:=by rfl) (hpl:(bT pos (au es X.env)).any (·.1)=false:=by rfl)
  (ht:eval (.Call (.Attribute o m apos) (e::es) [] pos) X.env=(do
   let ov <-eval o X.env
   standAt apos.atName
   let(f,first) <-holding [ov] (qb ov m pl)
   callWith pos f first (bT pos (au (e::es) X.env)) (ic pos (eL [] X.env))):=by rfl):
  PE X (.Call (.Attribute o m apos) (e::es) [] pos) (GY C m sp dvs E ta t):=by
 intro pins s σ H Q I h
 refine PySem.W.methodCall_KW (pl:=pl) (eD (he pins s σ H _ I h) λu s1 hPl=> ?_) ht
 obtain⟨x,H1,I1,rx,a,dx,fs,ex,ea,l,q⟩:=hPl
 subst ex
 obtain rfl:u=aE a:=rx
 refine re I1 ea c hm l ?_
 refine PySem.W.callWith_K (first:=[.ref a]) (h₀:=X.base) I.ok.mod.kin hm.kp (eD (ha pos pins s1 σ H1 _ I1 q) λus s2 ⟨vs,H2,I2,r,q2⟩=>⟨I2.kIn,?_⟩) hst hpl
 exact xB (us:= .ref a::us) (vs:= .ref a::vs) F hr hb hd hx I2 (.cons rfl r) q2
theorem Cj{pl:Sem Bool}(he:PE X o ta)(c:Cls X.K C)(hm:jb X.K C m f)(F:FnOk X.prog X.w X.K X.mg X.base CX k f fd ps sp)(hr:Room k X.A)(hb:Binds X.K fd ps ds)(hd:Vals dvs ds)(hx:jA CX X E)
  (ht:eval (.Call (.Attribute o m apos) [] [] pos) X.env=(do
   let ov <-eval o X.env
   standAt apos.atName
   let(f,first) <-holding [ov] (qb ov m pl)
   callWith pos f first (bT pos (au [] X.env)) (ic pos (eL [] X.env))):=by rfl):
  PE X (.Call (.Attribute o m apos) [] [] pos) (GY C m sp dvs E ta K6):=by
 intro pins s σ H Q I h
 refine PySem.W.methodCall_KW (pl:=pl) (eD (he pins s σ H _ I h) λu s1 hPl=> ?_) ht
 obtain⟨x,H1,I1,rx,a,dx,fs,ex,ea,l,q⟩:=hPl
 subst ex
 obtain rfl:u=aE a:=rx
 refine re I1 ea c hm l ?_
 exact PySem.W.callWith_K0 (first:=[.ref a]) I1.kIn hm.kp (xB (us:=[.ref a]) (vs:=[.ref a]) F hr hb hd hx I1 (.cons rfl .nil) q)
structure Mk(K:PySem.W.Frag)(C f:Addr):Prop where
 makes:PySem.W.makesIn K C=true
 init:PySem.W.findIn K (.ref C) "__init__" =some (some (.ref f))
 fn:PySem.W.isFn K (.ref f)=true
 kp:PySem.W.keepIn K (.ref C)=true
theorem B4{pins:List (Addr×Obj)}{σ:St}{H:Hp}{s:ai}{Q:VK}{us:List ae}{vs:List V}(M:Mk X.K C f)(F:FnOk X.prog X.w X.K X.mg X.base CX k f fd ps sp)(hr:Room (k+1) X.A)(hb:Binds X.K fd ps ds)(hd:Vals dvs ds)
  (hx:jA CX X E) (I:Inv X pins σ H s) (r:Vals vs us)
  (h:∀x dx,H x=none->H dx=none->dx≠x->sp (.ref x::(vs++dvs)) (upd (upd H dx (.own x)) x (.ins C dx [])) (λv H2=>v= .non/\Q (.ref x) H2) E):
  wpAny (aQ X.prog X.w) X.A (call (.ref C) us) (EP X pins σ Q) X.xe s:=by
 have hq:=h (s.heap.objs.size+1) s.heap.objs.size (I.hok.fresh (gu _)) (I.hok.fresh (ao _)) (aN (fF _))
 have I2:=Inv.made (C:=C) I
 have r2:Vals (V.ref (s.heap.objs.size+1)::(vs++dvs)) (aE (s.heap.objs.size+1)::(us++ds)):= .cons rfl (r.append hd)
 have hl:(aE (s.heap.objs.size+1)::us++ds).length=ps.length:=by
  have e:=r2.length
  rw[F.len _ _ _ _ hq]at e
  exact e.symm
 refine wpAny_call (Dc (f:=f) I.kIn M.makes M.init (beq_iff_eq.mp M.fn) (nM (F.run _ X.stack _ _ ⟨aE (s.heap.objs.size+1)::us,[]⟩ (aE (s.heap.objs.size+1)::(us++ds)) _ _ E (hr.make C us [])
  (I2.env0.make C us []) (hb _ (aE (s.heap.objs.size+1)::us) I2.kIn hl) r2 hq) λr s' hq'=> ?_))
 cases r with
 |error e=>exact hx pins σ _ _ e s' I2 hq'
 |ok fl=>
  cases fl with
  |ret u=>
   obtain⟨v,H',I3,rv,ev,q3⟩:=I2.after hq'
   subst ev
   exact⟨rv,⟨V.ref (s.heap.objs.size+1),H',I3,rfl,q3⟩⟩
  |next=>exact bQ hq'
  |brk=>exact bQ hq'
  |cont=>exact bQ hq'
theorem Fd(M:Mk X.K C f)(F:FnOk X.prog X.w X.K X.mg X.base CX k f fd ps sp)(hr:Room (k+1) X.A)(hg:Gl X x)(hm:X.mg x=some (.ref C))(hb:Binds X.K fd ps ds)(hd:Vals dvs ds)(hx:jA CX X E)
  (ha:PA X (e::es) t) (hdb:(x==("__debug__" :Str))=false:=by decide) (he:au (e::es) X.env=(false,eval e X.env)::au es X.env:=by rfl) (hpl:(bT pos (au es X.env)).any (·.1)=false:=by rfl):
  PE X (.Call (.Name x p) (e::es) [] pos) (K7 C sp dvs E t):=by
 intro pins s σ H Q I h
 refine fO (nr I hg hm ?_ hdb)
 refine PySem.W.callWith_K (h₀:=X.base) I.ok.mod.kin M.kp (eD (ha pos pins s σ H _ I h) λus s1 ⟨vs,H1,I1,r,q⟩=>⟨I1.kIn,?_⟩) he hpl
 exact B4 M F hr hb hd hx I1 r q
end
section
end
structure bA(N P:List Str)(sc:er):Prop where
 kind:sc.kind= .function
 co:sc.isCoroutine=false
 gen:sc.isGenerator=false
 nd:N.Nodup
 pre:N.take P.length=P
 par:∀x∈P,sc.names.lookup x=some .local\/sc.names.lookup x=some .cell
 nofree:∀y∈sc.names,y.2≠ .free
theorem tL{kindOf:Str->Option eE}{x:Str}:∀{binds:List (Str×ae)} {m:Str->Option ae},(∀v,(x,v)∉binds)->bindL kindOf binds m x=m x
 |[],_,_=>rfl
 |(n,v)::r,m,h=>by
  unfold bindL
  rw[tL λw hw=>h w (cV _ hw)]
  split
  ·have:x≠n:=by rintro rfl;exact h v gY
   simp[this]
  ·rfl
theorem tN{kindOf:Str->Option eE}{x:Str}:∀{binds:List (Str×ae)} {m:Str->Option ae},(∀v,(x,v)∉binds)->bindC kindOf binds m x=m x
 |[],_,_=>rfl
 |(n,v)::r,m,h=>by
  unfold bindC
  rw[tN λw hw=>h w (cV _ hw)]
  split
  ·rfl
  ·have:x≠n:=by rintro rfl;exact h v gY
   simp[this]
theorem tM{kindOf:Str->Option eE}{x:Str}{v:ae}:∀{P:List Str} {vs:List ae} {i:Nat} {m:Str->Option ae},P.Nodup->P[i]? =some x->vs[i]? =some v->kindOf x=some .local->
  bindL kindOf (P.zip vs) m x=some v
 |[],_,_,_,_,h,_,_=>by simp at h
 |_::_,[],_,_,_,_,h,_=>by simp at h
 |p::P,w::vs,0,m,nd,h1,h2,hk=>by
  simp at h1 h2;subst h1;subst h2
  show bindL kindOf ((p,w)::P.zip vs) m p=_
  unfold bindL
  rw[tL λv hv=>(aZ.mp nd).1 (List.of_mem_zip hv).1,if_pos hk]
  simp
 |p::P,w::vs,i+1,m,nd,h1,h2,hk=>by
  show bindL kindOf ((p,w)::P.zip vs) m x=_
  unfold bindL
  exact tM (i:=i) (aZ.mp nd).2 (by simpa using h1) (by simpa using h2) hk
theorem tO{kindOf:Str->Option eE}{x:Str}{v:ae}:∀{P:List Str} {vs:List ae} {i:Nat} {m:Str->Option ae},P.Nodup->P[i]? =some x->vs[i]? =some v->kindOf x≠some .local->
  bindC kindOf (P.zip vs) m x=some v
 |[],_,_,_,_,h,_,_=>by simp at h
 |_::_,[],_,_,_,_,h,_=>by simp at h
 |p::P,w::vs,0,m,nd,h1,h2,hk=>by
  simp at h1 h2;subst h1;subst h2
  show bindC kindOf ((p,w)::P.zip vs) m p=_
  unfold bindC
  rw[tN λv hv=>(aZ.mp nd).1 (List.of_mem_zip hv).1,if_neg hk]
  simp
 |p::P,w::vs,i+1,m,nd,h1,h2,hk=>by
  show bindC kindOf ((p,w)::P.zip vs) m x=_
  unfold bindC
  exact tO (i:=i) (aZ.mp nd).2 (by simpa using h1) (by simpa using h2) hk
noncomputable def start(N:List Str)(vs:List V):St:=vs.map some++bI (N.length-vs.length) none
noncomputable def gZ(CX:A7)(P:aJ)(w:aV)(K:PySem.W.Frag)(mg:Str->Option ae)(base:Heap)(N:List Str)(qual:Str)(scope:er)(f:Addr)(cd:ae)(A:Around)(outer:List Env)(s:ai)(H:Hp)(E:XK):Cx where
 prog:=P
 w:=w
 K:=K
 mg:=mg
 base:=base
 A:=A.deeper (envOfC qual scope s.heap.objs.size f cd)
 N:=N
 s₀:=s
 H₀:=H
 env:=envOfC qual scope s.heap.objs.size f cd
 outer:=outer
 stack:=envOfC qual scope s.heap.objs.size f cd::outer
 ex:=[]
 calm:=true
 fn:=λ_=>true
 pn:=[]
 xe:=λe s'=>wpAny (aQ P w) (A.deeper (envOfC qual scope s.heap.objs.size f cd)) (leaving (envOfC qual scope s.heap.objs.size f cd) e) (λ_ s''=>CX outer H s E e s'') (λe' s''=>CX outer H s E e' s'') s'
theorem wH{sc:er}{n:Nat}{x:Str}(h:sc.names.lookup x=some .cell):∃c,(cellsFrom n sc.names []).lookup x=some c:=by
 have q:=PySem.W.cellsFrom_some sc.names n [] (.inl h)
 exact jU.mp q
theorem AM{CX:A7}{P:aJ}{w:aV}{K:PySem.W.Frag}{mg:Str->Option ae}{base:Heap}{N ps:List Str}{qual:Str}{scope:er}{f:Addr}{cd:ae}{A:Around}{outer:List Env}{s s1:ai}{H:Hp}{E:XK}{us:List ae}{vs:List V}
  (S:bA N ps scope) (hd:A.handled=none) (e0:Env0 P w K mg base A outer s H) (hl:vs.length=ps.length) (r:Vals vs us)
  (x:InCallC s s.heap.objs.size (bindL (envOfC qual scope s.heap.objs.size f cd).kindOf (ps.zip us) λ_=>none) (cellsFrom (s.heap.objs.size+1) scope.names []) (bindC (envOfC qual scope s.heap.objs.size f cd).kindOf (ps.zip us) λ_=>none) s1):
  Inv (gZ CX P w K mg base N qual scope f cd A outer s H E) [] (start N vs) H s1:=by
 have hpl:ps.length<=N.length:=by have:=congrArg iV S.pre;rw[bv]at this;ac_nf
 obtain⟨h1,tk,rfl,hk⟩:=x.done
 have noA:∀b:Addr,b∉(gZ CX P w K mg base N qual scope f cd A outer s H E).ex:=λb z=>absurd (show b∈([]:List Addr)from z) (by simp)
 refine⟨⟨e0.mod,S.kind,rfl,rfl,ao _,λy z c h1 h2=> ?_,λy hy=> ?_,λy c _ h=> ?_,λ_=>hd,Around.frames_deeper e0.frames,.inr ⟨rfl,rfl⟩,λb z=>absurd z (noA b),e0.bs,e0.bsz,λb _ _=>noA b,λb z=>absurd z (noA b),e0.funs,e0.frf⟩,
  rfl,e0.bare,Un.kept hk,⟨_,x.toInCall.ns,λi y v h1 h2 h3=> ?_⟩,λy c h=>⟨_,x.cell y c h⟩,e0.hok.fresh (ao _),λy c h=> ?_,λp hp=>absurd (show p∈([]:List (Addr×Obj))from hp) (by simp),e0.hok.kept hk,?_⟩
 ·exact name_of_addr x.apart (PySem.mem_of_lookup h1) (PySem.mem_of_lookup h2)
 ·have hy:scope.names.lookup y=some .cell\/scope.names.lookup y=some .free:=hy
  rcases hy with hy|hy
  ·exact wH hy
  ·exact absurd rfl (S.nofree _ (PySem.mem_of_lookup hy))
 ·exact iE (x.above y c (PySem.mem_of_lookup h))
 ·have hi:i<vs.length:=by
   unfold start at h2
   by_cases hi:i<vs.length
   ·exact hi
   ·rw[bS (by simpa using hi)]at h2
    rw[kx]at h2
    split at h2<;>cases h2
  have ha:vs[i]? =some v:=by
   unfold start at h2
   rw[bW (by simpa using hi),aC]at h2
   cases e:vs[i]? with
   |none=>rw[e]at h2;cases h2
   |some a=>rw[e]at h2;cases h2;rfl
  obtain⟨u,hu,rv⟩:=r.get ha
  have hp:ps[i]? =some y:=by
   rw[<-S.pre,List.getElem?_take_of_lt (by ac_nf)];exact h1
  have ndP:ps.Nodup:=by rw[<-S.pre];exact S.nd.sublist (List.take_sublist _ _)
  refine⟨u,rv,?_⟩
  rcases S.par y (av hp)with k|k
  ·exact .inl ⟨k,tM ndP hp hu k⟩
  ·obtain⟨c,e⟩:=wH (n:=s.heap.objs.size+1) k
   refine .inr ⟨.inl k,c,e,?_⟩
   have q:=x.cell y c e
   rw[tO ndP hp hu (by show scope.names.lookup y≠_;rw[k];decide)]at q
   exact q
 ·exact e0.hok.fresh (iE (x.above y c (PySem.mem_of_lookup h)))
 ·unfold start
  show _=N.length
  rw[aP,ak,List.length_replicate]
  ac_nf
theorem Hu{CX:A7}{P:aJ}{w:aV}{K:PySem.W.Frag}{mg:Str->Option ae}{base:Heap}{k:Nat}{f:Addr}{name qual:Str}{params:Arguments}{body:List Stmt}{scope:er}{dV kV doc pm cdv ct oc:ae}{an od:Option Addr}
  {osl:Array (Option ae)} {N ps:List Str} {sp:Sp} (lk:K.lookup f=some ⟨oc,od,.func (PySem.W.fnOf name qual params body scope dV kV doc pm an cdv ct),osl⟩) (hcd:PySem.W.codeIn K cdv qual=true) (S:bA N ps scope)
  (len:∀vs H Q E,sp vs H Q E->vs.length=ps.length)
  (hbody:∀(A:Around) (outer:List Env) (s:ai) (H:Hp) (vs:List V) (Q:VK) (E:XK),Room k (A.deeper (envOfC qual scope s.heap.objs.size f cdv))->sp vs H Q E->
   ∃t,PSs (gZ CX P w K mg base N qual scope f cdv A outer s H E) body t/\t {nx:=λ_ H'=>Q .non H',rt:=Q} (start N vs) H):
  FnOk P w K mg base CX (k+1) f (PySem.W.fnOf name qual params body scope dV kV doc pm an cdv ct) ps sp:=by
 refine⟨len,λA outer s H args us vs Q E hr e0 hb r hsp=> ?_⟩
 have hl:=len _ _ _ _ hsp
 have KX:K.In s.heap:=e0.mod.kin.keeps λb o e=>(e0.bs b o e).1
 have lim:s.heap.NoLimit:=e0.mod.nolimit.keeps λb o e=>(e0.bs b o e).1
 have hkind:∀y∈ps.zip us,scope.names.lookup y.1=some .local\/(scope.names.lookup y.1=some .cell/\((cellsFrom (s.heap.objs.size+1) scope.names []).lookup y.1).isSome=true):=λ⟨n,v⟩ hy=>by
  rcases S.par n (List.of_mem_zip hy).1 with q|q
  ·exact .inl q
  ·exact .inr ⟨q,PySem.W.cellsFrom_some _ _ _ (.inl q)⟩
 refine codeAny_call_function hr.depth (KX _ _ lk) rfl S.co S.gen rfl (PySem.W.codeRec_of KX hcd) (hb _ _ _ _ ?_)
 refine wpAny_newFunctionEnv_cells S.kind hkind λenv he s1 x=> ?_
 subst he
 refine⟨lim.keeps x.toInCall.keep,codeAny_func ?_⟩
 obtain⟨t,ht,hq⟩:=hbody A outer s H vs Q E (hr.deeper _) hsp
 have I:Inv (gZ CX P w K mg base N qual scope f cdv A outer s H E) [] (start N vs) H s1:=AM S hr.hd e0 hl r x
 refine bj (ht [] s1 (start N vs) H _ I hq) (λfl s' hs=> ?_) λe s' hs=>hs
 have fin:∀{σ':St} {H':Hp} {v:V} {u:ae},Inv (gZ CX P w K mg base N qual scope f cdv A outer s H E) [] σ' H' s'->RelV v u->Q v H'->CE outer P w H s Q u s':=
  fun{σ' H' v u} J rv q=>⟨v,H',J.os,J.bare,J.base,J.hok,rv,q⟩
 cases fl with
 |ret u=>
  obtain⟨v,σ',H',J,rv,q⟩:=hs
  exact fin J rv q
 |next=>
  obtain⟨σ',H',J,q⟩:=hs
  exact fin (v:=V.non) (u:=br) J rfl q
 |brk=>
  obtain⟨_,_,_,q⟩:=hs
  exact bQ q
 |cont=>
  obtain⟨_,_,_,q⟩:=hs
  exact bQ q
section
variable{X:Cx}{x:Str}{p pos:Pos}{e:Expr}{es:List Expr}{t:TA}{id T:String}{r:List V->Hp->VK->Prop}
noncomputable def NP(r:List V->Hp->VK->Prop)(t:TA):TE:=λσ H Q=>t σ H λvs H1=>r vs H1 Q
theorem Cq(hc:iF X (.builtin id) r)(hg:Gl X x)(hm:X.mg x=none)(hv:cA x=some (.builtin id))(ha:PA X (e::es) t)(hn:x≠ "__name__" :=by decide)(hdb:(x==("__debug__" :Str))=false:=by decide)
  (he:au (e::es) X.env=(false,eval e X.env)::au es X.env:=by rfl) (hpl:(bT pos (au es X.env)).any (·.1)=false:=by rfl):PE X (.Call (.Name x p) (e::es) [] pos) (NP r t):=by
 intro pins s σ H Q I h
 refine fO (oP I hg hm hv ?_ hn hdb)
 exact PyProof.Rows.callWith_builtin1 (eD (ha pos pins s σ H _ I h) λus s1 ⟨vs,H1,I1,r1,q1⟩=>hc pins s1 σ H1 vs us Q I1 r1 q1) he hpl
theorem Ai(hc:iF X (.type T) r)(hg:Gl X x)(hm:X.mg x=none)(hv:cA x=some (.type T))(ha:PA X (e::es) t)(hn:x≠ "__name__" :=by decide)(hdb:(x==("__debug__" :Str))=false:=by decide)
  (he:au (e::es) X.env=(false,eval e X.env)::au es X.env:=by rfl) (hpl:(bT pos (au es X.env)).any (·.1)=false:=by rfl):PE X (.Call (.Name x p) (e::es) [] pos) (NP r t):=by
 intro pins s σ H Q I h
 refine fO (oP I hg hm hv ?_ hn hdb)
 exact fE (eD (ha pos pins s σ H _ I h) λus s1 ⟨vs,H1,I1,r1,q1⟩=>hc pins s1 σ H1 vs us Q I1 r1 q1) he hpl
end
end L2
namespace HT
open PySem PyProof.Rows
section
open PySem.SeqAt
open PySem.AutoSeq1 (wpAny_loadPart')
open PySem.MeetsSeq PySem.MeetsSeq2 PySem.MeetsSeq3
end
section
variable{prog:aJ}{w:aV}{A:Around}{E:ae->ai->Prop}{s:ai}
theorem cat_tup{t b:Addr}{vs ws:List ae}{Q:ae->ai->Prop}(ht:IsTup s.heap t vs.toArray)(hb:IsTup s.heap b ws.toArray)(hv:vs≠[])
  (h1:ws=[]->Q (.ref t) s) (h2:ws≠[]->Q (.ref s.heap.objs.size) {s with heap:=s.heap.push {cls:= .type "tuple",data:= .seq (vs++ws).toArray}})
  (hsz:vs.length+ws.length<=aO):wpAny (aQ prog w) A (dM .Add (.ref t) (.ref b)) Q E s:=by
 obtain⟨⟨cls,dd,data,sl⟩,ho,hc,n,hd⟩:=id ht
 obtain⟨⟨cls2,dd2,data2,Em⟩,ho2,hc2,n2,hd2⟩:=id hb
 simp only at hc hd hc2 hd2
 subst hc hd hc2 hd2
 have e:vs.toArray++ws.toArray=(vs++ws).toArray:=by simp
 by_cases hw:ws=[]
 ·exact concat_meets ⟨_,ho,rfl⟩ ⟨_,ho2,rfl⟩ noFill_tuple_add seq_tuple_add PySem.F.slot_tuple_add PySem.F.entry_tuple_add (PySem.F.args_tuple_add_2 _ _)
   (tuple_addW1 t b vs.toArray ws.toArray n n2 dd dd2 sl Em (by simpa using hv) (by simp[hw])) ⟨ho,ho2,h1 hw⟩
 ·refine concat_meets ⟨_,ho,rfl⟩ ⟨_,ho2,rfl⟩ noFill_tuple_add seq_tuple_add PySem.F.slot_tuple_add PySem.F.entry_tuple_add (PySem.F.args_tuple_add_2 _ _)
   (tuple_addW2 t b vs.toArray ws.toArray n n2 dd dd2 sl Em (by simpa using hv) (by simpa using hw) (by rw[ax,ax];exact hsz)) ⟨ho,ho2,?_⟩
  rw[e]
  exact h2 hw
noncomputable def sIx(n d:Nat):Option Int->Nat
 |none=>d
 |some v=>if v<0 then(v+(n:Int)).toNat else min v.toNat n
theorem sIx_none(n d:Nat):sIx n d none=d:=rfl
theorem Ia(n d:Nat)(hd:d<=n)(o:Option Int):sIx n d o<=n:=by
 cases o with
 |none=>exact hd
 |some v=>
  show(if v<0 then(v+(n:Int)).toNat else min v.toNat n)<=n
  by_cases hv:v<0
  ·rw[if_pos hv];ac_nf
  ·rw[if_neg hv];exact Nat.min_le_right _ _
theorem zJ(v:Int)(n d:Nat):(if v<0 then max (v+(n:Int)) 0 else min v (n:Int))=((sIx n d (some v):Nat):Int):=by
 show(if v<0 then max (v+(n:Int)) 0 else min v (n:Int))=(((if v<0 then(v+(n:Int)).toNat else min v.toNat n):Nat):Int)
 by_cases hv:v<0
 ·simp only[if_pos hv];ac_nf
 ·simp only[if_neg hv];ac_nf
theorem yo(lo hi:Option Int)(n:Nat):dY lo hi 1 (n:Int)=(((sIx n 0 lo:Nat):Int),((sIx n n hi:Nat):Int)):=by
 have h1:¬((1:Int)<0):=by ac_nf
 unfold dY
 simp only[h1,if_false]
 refine Prod.ext ?_ ?_
 ·cases lo with
  |none=>rfl
  |some v=>exact zJ v n 0
 ·cases hi with
  |none=>rfl
  |some v=>exact zJ v n n
theorem xF(i j:Nat):bZ (i:Int) (j:Int) 1=j-i:=by
 unfold bZ
 have h1:(1:Int)>0:=by ac_nf
 simp only[h1,if_true,Int.ediv_one]
 split<;>ac_nf
theorem iZ{v:ae}{o:Option Int}{Q:Option Int->ai->Prop}(p:IsPart v o)(h:Q o s):wpAny (aQ prog w) A (cu.Slice.slicePartIndex v) Q E s:=by
 cases p with
 |none=>exact slicePart_none h
 |int i t=>exact slicePart_int h
theorem sliceApplied_gen{sl:Addr}{vl vu:ae}{lo hi:Option Int}{n:Nat}{Q:Int×Int×Nat->ai->Prop}(hs:s.heap.IsSliceOf sl vl vu .none)(pl:IsPart vl lo)(pu:IsPart vu hi)
  (h:Q (((sIx n 0 lo:Nat):Int),1,sIx n n hi-sIx n 0 lo) s):wpAny (aQ prog w) A (fK (.ref sl) (pure (n:Int))) Q E s:=by
 obtain⟨os,hos,hcs,hds⟩:=id hs
 unfold fK pE
 refine aa (aa (bG hos hds (x:=vl) rfl (aa (bG hos hds (x:=vu) rfl (aa (bG hos hds (x:= .none) rfl (aq ?_)))))))
 refine aa (slicePart_none ?_)
 show wpAny _ _ (if((1:Int)==0)=true then _ else _) _ _ s
 rw[if_neg (by decide)]
 refine aa (iZ pl (aa (iZ pu (aa (aq ?_)))))
 show wpAny _ _ (match dY lo hi 1 (n:Int)with|(lo,hi)=>pure (lo,(1:Int),bZ lo hi 1)) _ _ s
 rw[yo lo hi n]
 show wpAny _ _ (pure (((sIx n 0 lo:Nat):Int),(1:Int),bZ ((sIx n 0 lo:Nat):Int) ((sIx n n hi:Nat):Int) 1)) _ _ s
 rw[xF]
 exact aq h
theorem Ci(xs:Array ae)(i k:Nat):((bJ k).filterMap fun(m:Nat)=>xs[((i:Int)+(m:Int)*1).toNat]?).toArray=((xs.toList.drop i).take k).toArray:=by
 have e:(fun(m:Nat)=>xs[((i:Int)+(m:Int)*1).toNat]?)=λm=>xs[i+m]? :=by
  funext m
  have:((i:Int)+(m:Int)*1).toNat=i+m:=by ac_nf
  rw[this]
 rw[e]
 have:=pick_run xs i k
 rw[List.filterMap_map]at this
 have e2:((λx=>xs[x]?)∘λx=>i+x)=λm=>xs[i+m]? :=rfl
 rw[e2]at this
 rw[this]
theorem getItem_tuple_cut{t sl:Addr}{items:Array ae}{vl vu:ae}{lo hi:Option Int}{Q:ae->ai->Prop}(ht:IsTup s.heap t items)(hs:s.heap.IsSliceOf sl vl vu .none)(pl:IsPart vl lo)(pu:IsPart vu hi)
  (hw:¬(sIx items.size 0 lo=0/\sIx items.size items.size hi=items.size))
  (h:Q (.ref s.heap.objs.size) {s with heap:=s.heap.push {cls:= .type "tuple",data:= .seq ((items.toList.drop (sIx items.size 0 lo)).take (sIx items.size items.size hi-sIx items.size 0 lo)).toArray}})
  (hsz:items.size<=aO):wpAny (aQ prog w) A (iO (.ref t) (.ref sl)) Q E s:=by
 have htake:sizeOk (.seq ((items.toList.drop (sIx items.size 0 lo)).take (sIx items.size items.size hi-sIx items.size 0 lo)).toArray):=by
  show((items.toList.drop (sIx items.size 0 lo)).take (sIx items.size items.size hi-sIx items.size 0 lo)).toArray.size<=aO
  rw[ax,bv,List.length_drop,bu]
  ac_nf
 have hj:sIx items.size items.size hi<=items.size:=Ia _ _ (ao _) hi
 obtain⟨os,hos,hcs,hds⟩:=id hs
 have hTs:s.TypeIs (.ref sl) "slice" :=⟨os,hos,hcs⟩
 unfold iO
 try with_reducible refine cJ ?_
 first|refine aa (aq ?_)|skip
 refine aa (ub ht.typeIs (by decide) ?_)
 refine aa (cF (name:=aF "__getitem__") ht.typeIs bw
  (cY bw ht.typeIs rA ?_ (sk _ _)))
 show wpAny _ _ (iN (.ref t)>>=_) _ _ s
 refine aa (tupleItemsOf_ ht ?_)
 refine aa (gP hTs ?_)
 rw[if_pos (by decide)]
 refine aa (sliceApplied_gen hs pl pu ?_)
 have hno:¬((((sIx items.size 0 lo:Nat):Int)==0&&(1:Int)==1&&(sIx items.size items.size hi-sIx items.size 0 lo)==items.size)=true):=by
  intro q
  rw[bp,bp]at q
  have q1:((sIx items.size 0 lo:Nat):Int)=0:=eq_of_beq q.1.1
  have q2:sIx items.size items.size hi-sIx items.size 0 lo=items.size:=eq_of_beq q.2
  exact hw ⟨by ac_nf,by ac_nf⟩
 show wpAny _ _ (if(((sIx items.size 0 lo:Nat):Int)==0&&(1:Int)==1&&(sIx items.size items.size hi-sIx items.size 0 lo)==items.size)=true then _ else _) _ _ s
 rw[if_neg hno,Ci]
 first
  |exact aa (m:=ck _) (bH (aq ⟨_,rfl,aq h⟩) htake)
  |exact aa (m:=ck _) (bH (aa (aq (aq ⟨_,rfl,aq h⟩))) htake)
  |exact aa (aa (m:=ck _) (bH (aq (aq ⟨_,rfl,aq h⟩)) htake))
  |exact aa (aa (m:=ck _) (bH (aq ⟨_,rfl,aq h⟩) htake))
end
end HT
namespace L2
open PySem PySem.Spec PyProof.Rows
noncomputable abbrev TO:=St->Hp->(Option Int->Hp->Prop)->Prop
noncomputable def PO(X:Cx)(e:Option Expr)(t:TO):Prop:=
 ∀(pins:List (Addr×Obj)) (s:ai) (σ:St) (H:Hp) (Q:Option Int->Hp->Prop),Inv X pins σ H s->t σ H Q->
  wpAny (aQ X.prog X.w) X.A (evalPart e X.env) (λu s'=>∃o H',Inv X pins σ H' s'/\IsPart u o/\Q o H') X.xe s
noncomputable def Ey:TO:=λ_ H Q=>Q none H
noncomputable def K1(t:TE):TO:=λσ H Q=>t σ H λx H1=>∃i,x= .int i/\Q (some i) H1
theorem yb{ns:List Int}:∀{us:List ae},Vals (ns.map V.int) us->IntsAre us ns:=by
 induction ns with
 |nil=>intro us r;rw[jo]at r;cases r;exact .nil
 |cons n ns ih=>
  intro us r
  rw[aw]at r
  cases r with
  |cons r1 r2=>
   obtain⟨t,e⟩:=r1
   subst e
   exact .cons n t (ih r2)
section
variable{X:Cx}{e:Expr}{te:TE}{lo hi:Option Expr}{tl th:TO}{pos p2:Pos}
theorem E4:PO X none Ey:=by
 intro pins s σ H Q I h
 rw[evalPart_none]
 exact aq ⟨none,H,I,.none,h⟩
theorem E3(h:PE X e te):PO X (some e) (K1 te):=by
 intro pins s σ H Q I hw
 rw[evalPart_some]
 refine eD (h pins s σ H _ I hw) λu s1 hPl=> ?_
 obtain⟨x,H1,I1,r1,q1⟩:=hPl
 obtain⟨i,rfl,q⟩:=q1
 obtain⟨t,rfl⟩:=r1
 exact⟨some i,H1,I1,.int i t,q⟩
noncomputable def KD(X:Cx)(r:V->Option Int->Option Int->Hp->VK->Prop):Prop:=
 ∀(pins:List (Addr×Obj)) (s:ai) (σ:St) (H:Hp) (x:V) (v vl vu:ae) (lo hi:Option Int) (sl:Addr) (Q:VK),Inv X pins σ H s->RelV x v->s.heap.IsSliceOf sl vl vu .none->IsPart vl lo->IsPart vu hi->r x lo hi H Q->
  ∃T id,typeLookup (.type T) "__getitem__" =pure (some (.builtin id))/\s.TypeIs v T/\wpAny (aQ X.prog X.w) X.A (iO v (.ref sl)) (EP X pins σ Q) X.xe s
noncomputable def tSl(r:V->Option Int->Option Int->Hp->VK->Prop)(te:TE)(tl th:TO):TE:=λσ H Q=>te σ H λx H1=>tl σ H1 λl H2=>th σ H2 λu H3=>r x l u H3 Q
theorem vW{r:V->Option Int->Option Int->Hp->VK->Prop}(hr:KD X r)(he:PE X e te)(hl:PO X lo tl)(hu:PO X hi th):PE X (.Subscript e (.Slice lo hi none p2) pos) (tSl r te tl th):=by
 intro pins s σ H Q I h
 refine Subscript_ (eD (he pins s σ H _ I h) λv s1 hPl=> ?_)
 obtain⟨x,H1,I1,r1,q1⟩:=hPl
 refine wpAny_Slice (eD (hl pins s1 σ H1 _ I1 q1) λvl s2 ⟨l,H2,I2,pl,q2⟩=>eD (hu pins s2 σ H2 _ I2 q2) λvu s3 ⟨u,H3,I3,pu,q3⟩=> ?_)
 rw[evalPart_none]
 refine aq ?_
 have I4:Inv X pins σ H3 {s3 with heap:=s3.heap.push {cls:= .type "slice",data:= .fields #[vl,vu,.none]}}:=I3.kept (t':=s3.toks) λb ob q=>af _ q
 obtain⟨T,id,hT,ht,hg⟩:=hr pins {s3 with heap:=s3.heap.push {cls:= .type "slice",data:= .fields #[vl,vu,.none]}} σ H3 x v vl vu l u s3.heap.objs.size Q I4 r1 (ky ..) pl pu q3
 show wpAny (aQ X.prog X.w) X.A (subscriptTail e (.Slice lo hi none p2) v (.ref s3.heap.objs.size)) (EP X pins σ Q) X.xe {s3 with heap:=s3.heap.push {cls:= .type "slice",data:= .fields #[vl,vu,.none]}}
 exact tail_any (ops:=[.ref s3.heap.objs.size,v]) ht hT hg (by with_unfolding_all rfl)
noncomputable def uY(xs:List V)(lo hi:Option Int):List V:=(xs.drop (HT.sIx xs.length 0 lo)).take (HT.sIx xs.length xs.length hi-HT.sIx xs.length 0 lo)
theorem pB(xs:List V)(lo hi:Option Int):(uY xs lo hi).length<=xs.length:=by
 unfold uY
 rw[bv,List.length_drop]
 ac_nf
noncomputable def NY(K:PySem.W.Frag):V->Option Int->Option Int->Hp->VK->Prop:=λx lo hi H Q=>∃a xs,x= .ref a/\SqT K H a xs/\
 ¬(HT.sIx xs.length 0 lo=0/\HT.sIx xs.length xs.length hi=xs.length)/\∀p,H p=none->Q (.ref p) (upd H p (.tup (uY xs lo hi)))
theorem HS:KD X (NY X.K):=by
 intro pins s σ H x v vl vu lo hi sl Q I rx hs pl pu h
 obtain⟨a,xs,rfl,hx,hw,q⟩:=h
 cases rx
 obtain⟨its,r,ht,hz⟩:=I.tuple hx
 have hlen:its.toArray.size=xs.length:=by rw[ax];exact r.length.symm
 refine⟨"tuple",_,bw.lookup,ht.typeIs,?_⟩
 refine HT.getItem_tuple_cut ht hs pl pu (by rw[hlen];exact hw) ?_ (by rw[hlen];exact hz)
 rw[hlen]
 refine⟨.ref s.heap.objs.size,_,I.laid (t':=s.toks) (o:= .tup (uY xs lo hi)) (λb ob q=>af _ q) (ao _) ?_,rfl,q _ (I.hok.fresh (ao _))⟩
 exact⟨aR (pB xs lo hi) hz,_,(r.drop (HT.sIx xs.length 0 lo)).take (HT.sIx xs.length xs.length hi-HT.sIx xs.length 0 lo),IsTup.new _ _⟩
noncomputable def Ll(K:PySem.W.Frag):R2:=λx y H Q=>∃a b xs ys,x= .ref a/\y= .ref b/\SqT K H a xs/\SqT K H b ys/\xs≠[]/\xs.length+ys.length<=aO/\
 (ys=[]->Q (.ref a) H)/\(ys≠[]->∀p,H p=none->Q (.ref p) (upd H p (.tup (xs++ys))))
theorem Vals.nil_iff{xs:List V}{us:List ae}(r:Vals xs us):us=[]↔xs=[]:=by
 cases r with
 |nil=>simp
 |cons _ _=>simp
theorem Fn:iJ X (dM .Add) (Ll X.K):=by
 intro pins s σ H x y v u Q I rx ry h
 obtain⟨a,b,xs,ys,rfl,rfl,ha,hb,hx,hz,q1,q2⟩:=h
 cases rx
 cases ry
 obtain⟨its,r1,p1,_⟩:=I.tuple ha
 obtain⟨its2,r2,p2,_⟩:=I.tuple hb
 refine HT.cat_tup p1 p2 (λz=>hx (r1.nil_iff.mp z)) (λz=>⟨.ref a,H,I,rfl,q1 (r2.nil_iff.mp z)⟩) (λz=> ?_) (by rw[<-r1.length,<-r2.length];exact hz)
 refine⟨.ref s.heap.objs.size,_,I.laid (t':=s.toks) (o:= .tup (xs++ys)) (λb ob q=>af _ q) (ao _) ?_,rfl,q2 (λw=>z (r2.nil_iff.mpr w)) _ (I.hok.fresh (ao _))⟩
 exact⟨by rw[aP];exact hz,_,r1.append r2,IsTup.new _ _⟩
end
noncomputable def AI(n:Nat)(i:Int):Option Nat:=if 0<=i then(if i<n then some i.toNat else none)else if-(n:Int)<=i then some (i+n).toNat else none
noncomputable def qh{α:Type}(xs:List α)(i:Int):Option α:=(AI xs.length i).bind λj=>xs[j]?
theorem zy{n:Nat}{i:Int}{j:Nat}(h:AI n i=some j):seqIndex? i n=some j/\j<n/\-(n:Int)<=i/\i<n:=by
 unfold AI at h
 by_cases h0:0<=i
 ·rw[if_pos h0]at h
  by_cases h1:i<n
  ·rw[if_pos h1]at h
   have e:i.toNat=j:=bf h
   exact⟨by rw[seqIndex_of h0 h1,e],by ac_nf,by ac_nf,h1⟩
  ·rw[if_neg h1]at h;cases h
 ·rw[if_neg h0]at h
  by_cases h1: -(n:Int)<=i
  ·rw[if_pos h1]at h
   have e:(i+n).toNat=j:=bf h
   exact⟨by rw[seqIndex_neg (by ac_nf) h1,e],by ac_nf,h1,by ac_nf⟩
  ·rw[if_neg h1]at h;cases h
theorem qf{α:Type}{xs:List α}{i:Int}{v:α}(h:qh xs i=some v):∃j,seqIndex? i xs.length=some j/\xs[j]? =some v/\j<xs.length/\-(xs.length:Int)<=i/\i<xs.length:=by
 unfold qh at h
 cases e:AI xs.length i with
 |none=>rw[e]at h;cases h
 |some j=>
  rw[e]at h
  obtain⟨h1,h2,h3,h4⟩:=zy e
  exact⟨j,h1,h,h2,h3,h4⟩
theorem bF{α:Type}{xs:List α}{j:Nat}{v:α}(h:xs[j]? =some v):qh xs (j:Int)=some v:=by
 have hj:j<xs.length:=(am.mp h).1
 have e:AI xs.length (j:Int)=some j:=by
  unfold AI
  rw[if_pos (by ac_nf),if_pos (by ac_nf)];simp
 unfold qh;rw[e];exact h
noncomputable def vj(b:Expr):Prop:=∀o i,subscripted b false o i=operate [o,i] (iO o i)
noncomputable def KR(X:Cx)(r:R2):Prop:=
 ∀(value slice:Expr) (pins:List (Addr×Obj)) (s:ai) (σ:St) (H:Hp) (x y:V) (v u:ae) (Q:VK),Inv X pins σ H s->RelV x v->RelV y u->r x y H Q->
  subscripted slice false v u=operate [v,u] (iO v u)->wpAny (aQ X.prog X.w) X.A (subscriptTail value slice v u) (EP X pins σ Q) X.xe s
noncomputable def Ej(X:Cx)(id:String)(r:V->List V->Hp->VK->Prop):Prop:=
 ∀(pins:List (Addr×Obj)) (s:ai) (σ:St) (H:Hp) (x:V) (xs:List V) (v:ae) (us:List ae) (Q:VK),Inv X pins σ H s->RelV x v->Vals xs us->r x xs H Q->
  wpAny (aQ X.prog X.w) X.A (call (.builtin id) (v::us)) (EP X pins σ Q) X.xe s
section
variable{X:Cx}{a b:Expr}{ta tb:TE}{pos:Pos}
theorem Lu{r:R2}(hr:KR X r)(ha:PE X a ta)(hb:PE X b tb)(hs:vj b):PE X (.Subscript a b pos) (K4 r ta tb):=by
 intro pins s σ H Q I h
 exact Subscript_ (Kz ha hb I h λv u s2 x y H2 I2 rx ry q=>hr a b pins s2 σ H2 x y v u Q I2 rx ry q (hs _ _))
noncomputable def N5(K:PySem.W.Frag):R2:=λx y H Q=>∃p xs i v,x= .ref p/\y= .int i/\SqL K H p xs/\qh xs i=some v/\Q v H
noncomputable def N3(K:PySem.W.Frag):R2:=λx y H Q=>∃p xs i v,x= .ref p/\y= .int i/\SqT K H p xs/\qh xs i=some v/\Q v H
noncomputable def N4:R2:=λx y H Q=>∃z i c,x= .str z/\y= .int i/\z.length<=aO/\qh z.cps.toList i=some c/\Q (.str ⟨#[c]⟩) H
theorem Gn:KR X (N5 X.K):=by
 intro value slice pins s σ H x y v u Q I rx ry h hs
 obtain⟨p,xs,i,z,rfl,rfl,hq,he,q⟩:=h
 cases rx
 obtain⟨t,rfl⟩:=ry
 obtain⟨its,r,pl,hz⟩:=I.list hq
 obtain⟨j,h1,h2,h3,h4,h5⟩:=qf he
 obtain⟨w,ew,rw'⟩:=r.get h2
 have hl:=r.length
 have hn:=ma
 have fin:EP X pins σ Q w s:=⟨z,H,I,rw',q⟩
 by_cases h0:0<=i
 ·have hj:i.toNat=j:=by
   rw[seqIndex_of h0 h5]at h1
   exact bf h1
  exact item_listR pl.isList h0 (by ac_nf) (by rw[hj];simpa using ew) fin hs
 ·have hj:(i+(its.toArray.size:Int)).toNat=j:=by
   rw[seqIndex_neg (by ac_nf) h4]at h1
   rw[ax,<-hl]
   exact bf h1
  exact subscriptTail_builtinR (x:=w) pl.isList.typeIs ur.lookup
   (wpAny_getItem_list_neg (Q:=λr s'=>r=w/\EP X pins σ Q r s') pl.isList (by ac_nf) (by rw[ax]<;>ac_nf) (by ac_nf) (by rw[hj];simpa using ew) ⟨rfl,fin⟩) hs
theorem J0:KR X (N3 X.K):=by
 intro value slice pins s σ H x y v u Q I rx ry h hs
 obtain⟨p,xs,i,z,rfl,rfl,hq,he,q⟩:=h
 cases rx
 obtain⟨t,rfl⟩:=ry
 obtain⟨its,r,pl,hz⟩:=I.tuple hq
 obtain⟨j,h1,h2,h3,h4,h5⟩:=qf he
 obtain⟨w,ew,rw'⟩:=r.get h2
 have hl:=r.length
 have hn:=ma
 have fin:EP X pins σ Q w s:=⟨z,H,I,rw',q⟩
 exact subscriptTail_builtinR (x:=w) pl.typeIs slot_tuple_getitem.lookup
  (getItem_tuple (j:=j) (Q:=λr s'=>r=w/\EP X pins σ Q r s') pl (by ac_nf) (by ac_nf) (by rw[ax,<-hl];exact h1) (by simpa using ew) ⟨rfl,fin⟩) hs
theorem J6:KR X N4:=by
 intro value slice pins s σ H x y v u Q I rx ry h hs
 obtain⟨z,i,c,rfl,rfl,hz,he,q⟩:=h
 obtain⟨t,rfl⟩:=rx
 obtain⟨t',rfl⟩:=ry
 obtain⟨j,h1,h2,h3,h4,h5⟩:=qf he
 have hl:z.cps.toList.length=z.length:=by simp[Str.length]
 rw[hl]at h1 h4 h5
 have hn:=ma
 exact tail_any (typeIs_str s z t) slot_str_getitem.lookup (getItem_str (c:=c) (by
  have e1:decide (i< -(2^63:Int))=false:=decide_eq_false (by ac_nf)
  have e2:decide (i≥2^63)=false:=decide_eq_false (by ac_nf)
  rw[e1,e2,Bool.or_false]) (by rw[h1];simpa using h2) ⟨.str ⟨#[c]⟩,H,I.tok _,⟨_,rfl⟩,q⟩) hs
theorem xR(its:List ae)(n j:Nat)(u:ae):c9 (·.setIfInBounds j u) {cls:= .type "list",data:= .seq its.toArray n}={cls:= .type "list",data:= .seq (its.set j u).toArray n}:=by
 simp[c9]
theorem Inv.lst{pins:List (Addr×Obj)}{σ:St}{H:Hp}{s:ai}{p:Addr}{xs:List V}(I:Inv X pins σ H s)(h:H p=some (.lst xs)):
  ∃(its:List ae) (n:Nat),Vals xs its/\s.heap.get? p=some {cls:= .type "list",data:= .seq its.toArray n}/\xs.length<=aO:=by
 obtain⟨z,its,n,r,e⟩:=I.hok p _ h
 exact⟨its,n,r,e,z⟩
theorem Inv.lstUpd{pins:List (Addr×Obj)}{σ:St}{H:Hp}{s:ai}{p:Addr}{xs ys:List V}{its its':List ae}{n n':Nat}{f:Obj->Obj}(I:Inv X pins σ H s)(h:H p=some (.lst xs))
  (ho:s.heap.get? p=some {cls:= .type "list",data:= .seq its.toArray n}) (hf:f {cls:= .type "list",data:= .seq its.toArray n}={cls:= .type "list",data:= .seq its'.toArray n'}) (r:Vals ys its') (hz:ys.length<=aO) (t:Nat):
  Inv X pins σ (upd H p (.lst ys)) {s with heap:=s.heap.update p f,toks:=t}:=by
 have e:(s.heap.update p f).get? p=some {cls:= .type "list",data:= .seq its'.toArray n'}:=by
  rw[dG f ho (by rw[hf]<;>rfl),hf]
 refine I.write (x:=p) (e:=p) (by rw[h];trivial) (.inl rfl) (λb u hb q=>(bK _ _ (aG hb)).trans q) ⟨_,e⟩ ?_
 exact⟨hz,its',n',r,e⟩
noncomputable def Lj:V->V->V->Hp->(Hp->Prop)->Prop:=λo i v H Q=>∃p xs k j,o= .ref p/\i= .int k/\H p=some (.lst xs)/\AI xs.length k=some j/\Q (upd H p (.lst (xs.set j v)))
theorem BL:PSet X Lj:=by
 intro pins s σ H o i v ov iv u Q I ro ri rv h
 obtain⟨p,xs,k,j,rfl,rfl,hp,hj,q⟩:=h
 cases ro
 obtain⟨t,rfl⟩:=ri
 obtain⟨its,n,r,ho,hz⟩:=I.lst hp
 obtain⟨h1,h2,h3,h4⟩:=zy hj
 have hl:=r.length
 have hn:=ma
 have I':Inv X pins σ (upd H p (.lst (xs.set j v))) {s with heap:=s.heap.update p (c9 (·.setIfInBounds j u))}:=
  I.lstUpd hp ho (xR its n j u) (r.set rv j) (by rw[List.length_set];exact hz) s.toks
 by_cases h0:0<=k
 ·have hk:k.toNat=j:=by
   rw[seqIndex_of h0 h4]at h1
   exact bf h1
  exact PySem.W.ki_setAt ho h0 (by ac_nf) (by rw[ax,<-hl];exact h4) (by rw[hk];exact⟨_,I',q⟩)
 ·have hk:(k+(its.toArray.size:Int)).toNat=j:=by
   rw[seqIndex_neg (by ac_nf) h3]at h1
   rw[ax,<-hl]
   exact bf h1
  exact PySem.W.ki_setBack ho (by ac_nf) (by rw[ax,<-hl];exact h3) (by ac_nf) (by rw[hk];exact⟨_,I',q⟩)
theorem ut(lo hi:Option Int)(n:Nat):(jp lo hi none n).1=((HT.sIx n 0 lo:Nat):Int)/\(jp lo hi none n).2.1=((HT.sIx n n hi:Nat):Int)/\(jp lo hi none n).2.2=1:=by
 refine⟨?_,?_,rfl⟩
 ·cases lo with
  |none=>simp[jp,HT.sIx]
  |some i=>
   simp only[jp,HT.sIx,Option.getD_none,show(1:Int)>0 by decide,if_true]
   by_cases h:i<0
   ·simp only[h,if_true]<;>ac_nf
   ·simp only[h,if_false]<;>ac_nf
 ·cases hi with
  |none=>simp[jp,HT.sIx]
  |some i=>
   simp only[jp,HT.sIx,Option.getD_none,show(1:Int)>0 by decide,if_true]
   by_cases h:i<0
   ·simp only[h,if_true]<;>ac_nf
   ·simp only[h,if_false]<;>ac_nf
theorem rW(its:List ae)(lo hi:Option Int):slicePick its.toArray lo hi none=((its.drop (HT.sIx its.length 0 lo)).take (HT.sIx its.length its.length hi-HT.sIx its.length 0 lo)).toArray:=by
 obtain⟨h1,h2,h3⟩:=ut lo hi its.toArray.size
 unfold slicePick
 rw[h1,h2,h3]
 simp only[sliceRange_one,pick_run,ax]<;>rfl
noncomputable def N0(K:PySem.W.Frag):V->Option Int->Option Int->Hp->VK->Prop:=λx lo hi H Q=>∃a xs,x= .ref a/\SqL K H a xs/\∀p,H p=none->Q (.ref p) (upd H p (.lst (uY xs lo hi)))
theorem ED:KD X (N0 X.K):=by
 intro pins s σ H x v vl vu lo hi sl Q I rx hs pl pu h
 obtain⟨a,xs,rfl,hx,q⟩:=h
 cases rx
 obtain⟨its,r,ht,hz⟩:=I.list hx
 have hlen:=r.length
 refine⟨"list",_,ur.lookup,ht.isList.typeIs,?_⟩
 refine Bl ht.isList hs pl pu .none (by simp) ?_ (by rw[ax]<;>ac_nf)
 rw[rW,<-hlen]
 refine⟨.ref s.heap.objs.size,_,I.laid (t':=s.toks) (o:= .lst (uY xs lo hi)) (λb ob q=>af _ q) (ao _) ?_,rfl,q _ (I.hok.fresh (ao _))⟩
 exact⟨aR (pB xs lo hi) hz,_,0,(r.drop (HT.sIx xs.length 0 lo)).take (HT.sIx xs.length xs.length hi-HT.sIx xs.length 0 lo),aK _ rfl⟩
noncomputable def lP:V->Bool
 | .non=>true
 | .bl _=>true
 | .int _=>true
 | .str _=>true
 |_=>false
noncomputable def GD:V->V->Bool
 | .non,.non=>true
 | .bl a,.bl b=>a==b
 | .bl a,.int b=>(if a then 1 else 0)==b
 | .int a,.bl b=>a==(if b then 1 else 0)
 | .int a,.int b=>a==b
 | .str a,.str b=>a==b
 |_,_=>false
theorem Kp{A:Around}{s:ai}{y x:V}{u v:ae}(ry:RelV y u)(rx:RelV x v)(fy:lP y=true)(fx:lP x=true):SeqAt.EqAt A s u v (GD y x):=by
 cases y with
 |non=>
  cases ry
  cases x with
  |non=>cases rx;exact SeqAt.EqAt.same _
  |bl b=>cases rx;exact SeqAt.EqAt.none_bool b
  |int b=>obtain⟨t,rfl⟩:=rx;exact SeqAt.EqAt.none_int b t
  |str b=>obtain⟨t,rfl⟩:=rx;exact SeqAt.EqAt.none_str b t
  |_=>exact absurd (show false=true from fx) bz
 |bl a=>
  cases ry
  cases x with
  |non=>cases rx;exact SeqAt.EqAt.bool_none a
  |bl b=>cases rx;exact SeqAt.EqAt.bool_bool a b
  |int b=>obtain⟨t,rfl⟩:=rx;exact SeqAt.EqAt.bool_int a b t
  |str b=>obtain⟨t,rfl⟩:=rx;exact SeqAt.EqAt.bool_str a b t
  |_=>exact absurd (show false=true from fx) bz
 |int a=>
  obtain⟨t',rfl⟩:=ry
  cases x with
  |non=>cases rx;exact SeqAt.EqAt.int_none a t'
  |bl b=>cases rx;exact SeqAt.EqAt.int_bool a t' b
  |int b=>obtain⟨t,rfl⟩:=rx;exact SeqAt.EqAt.int_int a t' b t
  |str b=>obtain⟨t,rfl⟩:=rx;exact lW a t' b t
  |_=>exact absurd (show false=true from fx) bz
 |str a=>
  obtain⟨t',rfl⟩:=ry
  cases x with
  |non=>cases rx;exact SeqAt.EqAt.str_none a t'
  |bl b=>cases rx;exact SeqAt.EqAt.str_bool a t' b
  |int b=>obtain⟨t,rfl⟩:=rx;exact lV a t' b t
  |str b=>obtain⟨t,rfl⟩:=rx;exact SeqAt.EqAt.str_str a t' b t
  |_=>exact absurd (show false=true from fx) bz
 |_=>exact absurd (show false=true from fy) bz
noncomputable def GF(x:V)(u:ae):Bool:=match u with
 | .none=>GD .non x
 | .bool b=>GD (.bl b) x
 | .int i _=>GD (.int i) x
 | .str z _=>GD (.str z) x
 |_=>false
theorem DO{x y:V}{u:ae}(r:RelV y u)(f:lP y=true):GF x u=GD y x:=by
 cases y with
 |non=>cases r;rfl
 |bl b=>cases r;rfl
 |int i=>obtain⟨t,rfl⟩:=r;rfl
 |str z=>obtain⟨t,rfl⟩:=r;rfl
 |_=>exact absurd (show false=true from f) bz
theorem ve{x:V}:∀{xs:List V} {us:List ae},Vals xs us->xs.all lP=true->us.any (GF x)=xs.any λy=>GD y x
 |_,_,.nil,_=>rfl
 |y::xs,u::us,.cons r t,f=>by
  rw[kh,bp]at f
  rw[cR,cR,DO r f.1,ve t f.2]
theorem qS{A:Around}{s:ai}{x:V}{v:ae}(rx:RelV x v)(fx:lP x=true):∀{xs:List V} {us:List ae},Vals xs us->xs.all lP=true->∀u∈us,SeqAt.EqAt A s u v (GF x u)
 |_,_,.nil,_=>λu hu=>by cases hu
 |y::xs,u::us,.cons r t,f=>λu' hu=>by
  rw[kh,bp]at f
  rcases aI.mp hu with rfl|hu
  ·rw[DO r f.1];exact Kp r rx f.1 fx
  ·exact qS rx fx t f.2 u' hu
noncomputable def No(x:V)(xs:List V):Bool:=xs.any λy=>GD y x
noncomputable def rIn(K:PySem.W.Frag)(neg:Bool):R2:=λx y H Q=>∃p xs,y= .ref p/\(SqL K H p xs\/SqT K H p xs)/\lP x=true/\xs.all lP=true/\Q (.bl (if neg then !No x xs else No x xs)) H
theorem sZ:iJ X (bV .In) (rIn X.K false):=by
 intro pins s σ H x y v u Q I rx ry h
 obtain⟨p,xs,rfl,hq,fx,fs,q⟩:=h
 cases ry
 rcases hq with hq|hq
 ·obtain⟨its,r,pl,hz⟩:=I.list hq
  refine SeqAt.in_listAt (GF x) pl.isList (λw hw=>qS rx fx r fs w (by simpa using hw)) ⟨.bl _,H,I,rfl,?_⟩
  rw[show its.toArray.any (GF x)=its.any (GF x)by simp,ve r fs]
  exact q
 ·obtain⟨its,r,pl,hz⟩:=I.tuple hq
  refine SeqAt.in_tupleAt (GF x) pl (λw hw=>qS rx fx r fs w (by simpa using hw)) ⟨.bl _,H,I,rfl,?_⟩
  rw[show its.toArray.any (GF x)=its.any (GF x)by simp,ve r fs]
  exact q
theorem nP:iF X (.builtin "len") (λxs H Q=>∃p ys,xs=[.ref p]/\(SqL X.K H p ys\/SqT X.K H p ys)/\Q (.int ys.length) H):=by
 intro pins s σ H xs us Q I r h
 obtain⟨p,ys,rfl,hq,q⟩:=h
 obtain⟨u,rfl,rx⟩:=Bn r
 cases rx
 have hn:=ma
 rcases hq with hq|hq
 ·obtain⟨its,r',pl,hz⟩:=I.list hq
  have hlen:=r'.length
  exact Calls.call_len_list pl.isList (by simp only[ax]<;>ac_nf) ⟨.int ys.length,H,I.tok _,⟨s.toks+1,by rw[ax,hlen]⟩,q⟩
 ·obtain⟨its,r',pl,hz⟩:=I.tuple hq
  have hlen:=r'.length
  exact len_tuple pl (by simp only[ax]<;>ac_nf) ⟨.int ys.length,H,I.tok _,⟨s.toks+1,by rw[ax,hlen]⟩,q⟩
theorem vc:iF X (.builtin "len") (λxs H Q=>∃z,xs=[.str z]/\z.length<=aO/\Q (.int z.length) H):=by
 intro pins s σ H xs us Q I r h
 obtain⟨z,rfl,hz,q⟩:=h
 obtain⟨u,rfl,t,rfl⟩:=Bn r
 have hn:=ma
 exact len_str (by ac_nf) ⟨.int z.length,H,I.tok _,⟨_,rfl⟩,q⟩
theorem lU:iF X (.type "tuple") (λxs H Q=>∃p ys,xs=[.ref p]/\((SqL X.K H p ys/\∀l,H l=none->Q (.ref l) (upd H l (.tup ys)))\/(SqT X.K H p ys/\Q (.ref p) H))):=by
 intro pins s σ H xs us Q I r h
 obtain⟨p,ys,rfl,h⟩:=h
 obtain⟨u,rfl,rx⟩:=Bn r
 cases rx
 rcases h with⟨hq,q⟩|⟨hq,q⟩
 ·obtain⟨its,r',pl,hz⟩:=I.list hq
  have hlen:=r'.length
  refine call_tuple_list pl.isList (λh' kp=> ?_) (by simp only[ax]<;>ac_nf)
  have I1:Inv X pins σ H {s with heap:=h'}:=I.kept (t':=s.toks) kp
  have I2:Inv X pins σ (upd H h'.objs.size (.tup ys)) {s with heap:=h'.push {cls:= .type "tuple",data:= .seq its.toArray}}:=
   I1.laid (t':=s.toks) (λb o e=>af _ e) (ao _) (show ObjOk X.prog X.w _ _ _ (.tup ys)from⟨hz,its,r',IsTup.new _ _⟩)
  exact⟨.ref h'.objs.size,_,I2,rfl,q _ (I1.hok.fresh (ao _))⟩
 ·obtain⟨its,r',pl,hz⟩:=I.tuple hq
  exact call_tuple_same pl ⟨.ref p,H,I,rfl,q⟩
noncomputable def Nh(K:PySem.W.Frag)(T:String)(x:V)(H:Hp):Prop:=match x with
 | .str _=>T= "str"
 | .int _=>T= "int"
 | .ref p=>(T= "list" /\∃xs,SqL K H p xs)\/(T= "tuple" /\∃o,K.lookup p=some o/\o.cls= .type "tuple" /\o.dict=none)\/
   (T= "dict" /\((∃kvs,H p=some (.dK kvs))\/∃kvs,H p=some (.dT kvs)))\/(T= "set" /\∃S n,H p=some (.set S n))
 |_=>False
theorem Bq{pins:List (Addr×Obj)}{σ:St}{H:Hp}{s:ai}{T:String}{x:V}{v:ae}(I:Inv X pins σ H s)(r:RelV x v)(ty:Nh X.K T x H):
  s.TypeIs v T/\∀a,v= .ref a->∃ob,s.heap.get? a=some ob/\ob.dict=none:=by
 cases x with
 |str z=>
  obtain⟨t,rfl⟩:=r
  cases (show T= "str" from ty)
  exact⟨typeIs_str s z t,λ_ e=>nomatch e⟩
 |int i=>
  obtain⟨t,rfl⟩:=r
  cases (show T= "int" from ty)
  exact⟨typeIs_int s i t,λ_ e=>nomatch e⟩
 |ref p=>
  cases r
  rcases ty with⟨rfl,xs,hq⟩|⟨rfl,o,hk,hc,hd⟩|⟨rfl,hk⟩|⟨rfl,S,n,hk⟩
  ·obtain⟨its,_,pl,_⟩:=I.list hq
   refine⟨pl.isList.typeIs,λa e=> ?_⟩
   cases e
   obtain⟨o,n,e,c,hd,_⟩:=pl
   exact⟨o,e,hd⟩
  ·refine⟨⟨o,I.kIn p o hk,hc⟩,λa e=> ?_⟩
   cases e
   exact⟨o,I.kIn _ o hk,hd⟩
  ·have z:∃o,s.heap.get? p=some o/\o.ExactDict:=by
    rcases hk with⟨kvs,hk⟩|⟨kvs,hk⟩
    ·obtain⟨_,_,_,_,o,_,_,e,ex,_⟩:=I.hok p _ hk
     exact⟨o,e,ex⟩
    ·obtain⟨_,_,_,_,o,_,_,e,ex,_⟩:=I.hok p _ hk
     exact⟨o,e,ex⟩
   obtain⟨o,e,ex⟩:=z
   refine⟨⟨o,e,ex.1⟩,λa e2=> ?_⟩
   cases e2
   exact⟨o,e,ex.2.1⟩
  ·obtain⟨o,_,_,_,e,ex,_⟩:=I.hok p _ hk
   refine⟨⟨o,e,ex.1⟩,λa e2=> ?_⟩
   cases e2
   exact⟨o,e,ex.2.1⟩
 |_=>exact bQ ty
noncomputable def NQ(K:PySem.W.Frag)(T:String)(r:V->List V->Hp->VK->Prop)(to:TE):TE:=λσ H Q=>to σ H λx H1=>Nh K T x H1/\r x [] H1 Q
noncomputable def tBM(K:PySem.W.Frag)(T:String)(r:V->List V->Hp->VK->Prop)(to:TE)(t:TA):TE:=λσ H Q=>to σ H λx H1=>Nh K T x H1/\t σ H1 λxs H2=>r x xs H2 Q
variable{o e:Expr}{es:List Expr}{to:TE}{t:TA}{name:Str}{apos cpos:Pos}{T id:String}{r:V->List V->Hp->VK->Prop}
theorem IH(pa:PlainAttrs T)(slot:Slot T name id)(hty:typeOf (.builtin id)=pure (.type "method_descriptor"))(hm:Ej X id r)(ho:PE X o to)
  (hbase:cy o name X.env (eval o X.env)=eval o X.env:=by rfl) (hline:(apos.endLine==cpos.line)=true:=by rfl):PE X (.Call (.Attribute o name apos) [] [] cpos) (NQ X.K T r to):=by
 intro pins s σ H Q I h
 refine wpAny_Call_method0_late hbase hline (eD (ho pins s σ H _ I h) λv s1 hPl=> ?_)
 obtain⟨x,H1,I1,r1,ty,q1⟩:=hPl
 obtain⟨h1,h2⟩:=Bq I1 r1 ty
 exact⟨T,id,pa,slot,hty,h1,h2,ig rfl (PySem.evalArgs_none (hm pins s1 σ H1 x [] v [] Q I1 r1 .nil q1))⟩
theorem Hk(pa:PlainAttrs T)(slot:Slot T name id)(hty:typeOf (.builtin id)=pure (.type "method_descriptor"))(hm:Ej X id r)(ho:PE X o to)(ha:PA X (e::es) t)
  (hbase:cy o name X.env (eval o X.env)=eval o X.env:=by rfl)
  (hfew:((bT cpos (au (e::es) X.env)).all (λx=> !x.1)&&(ic cpos (eL [] X.env)).all (λx=>x.1.isSome)
   &&decide ((e::es).length+([]:List gA).length+(if([]:List gA).isEmpty then 0 else 1)<30))=true:=by rfl)
  (hline:(apos.endLine==cpos.line)=true:=by rfl) (hs:au (e::es) X.env=(false,eval e X.env)::au es X.env:=by rfl) (hplain:(bT cpos (au es X.env)).any (·.1)=false:=by rfl):
  PE X (.Call (.Attribute o name apos) (e::es) [] cpos) (tBM X.K T r to t):=by
 intro pins s σ H Q I h
 refine wpAny_Call_method_late hbase hfew hline rfl (eD (ho pins s σ H _ I h) λv s1 hPl=> ?_)
 obtain⟨x,H1,I1,r1,ty,q1⟩:=hPl
 obtain⟨h1,h2⟩:=Bq I1 r1 ty
 refine⟨T,id,pa,slot,hty,h1,h2,?_⟩
 have hA:=ha cpos pins s1 σ H1 _ I1 q1
 rw[hs]at hA⊢
 refine ig (by show(false||(bT cpos (au es X.env)).any (·.1))=false;rw[hplain]<;>rfl) (mv ?_)
 exact eD hA λus s2 hPl=>by obtain⟨vs,H2,I2,r2,q2⟩:=hPl;exact hm pins s2 σ H2 x vs v us Q I2 r1 r2 q2
/-xs.append(e),list.index on a module's tuple .. are Ej facts of 06m-/
end
noncomputable def Nw(X:Cx)(id:String)(r:V->List V->Hp->VK->Prop):Prop:=
 ∀(pins:List (Addr×Obj)) (s:ai) (σ:St) (H:Hp) (x:V) (xs:List V) (v:ae) (us:List ae) (Q:VK),Inv X pins σ H s->RelV x v->Vals xs us->r x xs H Q->
  wpAny (aQ X.prog X.w) X.A (call (.builtin id) (v::us)) (EP X pins σ Q) X.xe s
theorem Vals.one{x:V}{us:List ae}(h:Vals [x] us):∃u,us=[u]/\RelV x u:=by
 cases h with
 |cons r t=>cases t;exact⟨_,rfl,r⟩
theorem Vals.two{x y:V}{us:List ae}(h:Vals [x,y] us):∃u v,us=[u,v]/\RelV x u/\RelV y v:=by
 cases h with
 |cons r t=>cases t with
  |cons q t=>cases t;exact⟨_,_,rfl,r,q⟩
theorem Vals.zero:∀{us:List ae},Vals [] us->us=[]
 |_,.nil=>rfl
theorem Vals.dropLast{xs:List V}{us:List ae}(h:Vals xs us):Vals xs.dropLast us.dropLast:=by
 induction h with
 |nil=>exact .nil
 |cons r t ih=>
  cases t with
  |nil=>exact .nil
  |cons q t'=>exact .cons r ih
theorem Vals.reverse{xs:List V}{us:List ae}(h:Vals xs us):Vals xs.reverse us.reverse:=by
 induction h with
 |nil=>exact .nil
 |cons r t ih=>rw[io,io];exact Vals.append ih (.cons r .nil)
theorem Vals.rep{xs:List V}{us:List ae}(h:Vals xs us):∀k:Nat,Vals (bI k xs).flatten (bI k us).flatten
 |0=> .nil
 |k+1=>by
  rw[dA,dA,dP,dP]
  exact Vals.append h (Vals.rep h k)
theorem ye{α:Type}(l:List α):l.eraseIdx (l.length-1)=l.dropLast:=by
 induction l with
 |nil=>rfl
 |cons a r ih=>
  cases r with
  |nil=>rfl
  |cons b r=>
   have e:(a::b::r).length-1=((b::r).length-1)+1:=by
    have h1:(a::b::r).length=r.length+2:=rfl
    have h2:(b::r).length=r.length+1:=rfl
    ac_nf
   rw[e,List.eraseIdx_cons_succ,ih]
   all_goals rfl
theorem tE(its:List ae):∀(k:Nat) (acc:List ae),
  List.foldl (λx1 x2=>x1++x2) acc.toArray (bI k its.toArray)=(acc++(bI k its).flatten).toArray
 |0,acc=>by simp
 |k+1,acc=>by
  have e:acc.toArray++its.toArray=(acc++its).toArray:=by simp
  have e2:(acc++its)++(bI k its).flatten=acc++(bI (k+1) its).flatten:=by
   rw[dA,dP,eX]
  rw[<-e2,<-tE its k (acc++its),<-e,dA,List.foldl_cons]
section
variable{X:Cx}{pins:List (Addr×Obj)}{σ:St}{H:Hp}{s:ai}{l:Addr}{xs ys:List V}
theorem Inv.lset{its its':List ae}{n:Nat}{f:Array ae->Array ae}{t':Nat}(I:Inv X pins σ H s)(hH:H l=some (.lst xs))
  (e:s.heap.get? l=some {cls:= .type "list",data:= .seq its.toArray n}) (hf:f its.toArray=its'.toArray) (hv:Vals ys its') (hz:ys.length<=aO):
  Inv X pins σ (upd H l (.lst ys)) {s with heap:=s.heap.update l (c9 f),toks:=t'}:=by
 have q:=PySem.IsL.update e f
 rw[hf]at q
 refine I.write (x:=l) (e:=l) (by rw[hH];exact trivial) (.inl rfl) (λb' u hb hu=>(bK s.heap (c9 f) (aG hb)).trans hu) ⟨_,q⟩ ?_
 exact⟨hz,its',_,hv,q⟩
theorem Inv.lnew{its:List ae}{t':Nat}(I:Inv X pins σ H s)(hv:Vals ys its)(hz:ys.length<=aO):
  Inv X pins σ (upd H s.heap.objs.size (.lst ys)) {s with heap:=s.heap.push {cls:= .type "list",data:= .seq its.toArray},toks:=t'}:=
 I.laid (λ_ _ q=>af _ q) (ao _) ⟨hz,its,0,hv,aK _ rfl⟩
theorem Inv.fresh(I:Inv X pins σ H s):H s.heap.objs.size=none:=I.hok.fresh (ao _)
theorem Inv.lstM(I:Inv X pins σ H s)(hH:H l=some (.lst xs)):xs.length<=aO/\∃(its:List ae) (n:Nat),Vals xs its/\xs.length=its.length/\s.heap.get? l=some {cls:= .type "list",data:= .seq its.toArray n}:=by
 obtain⟨z,its,n,r,e⟩:=I.hok l _ hH
 exact⟨z,its,n,r,r.length,e⟩
theorem qO{n:Nat}(h:n<=aO):dC n=false:=by
 unfold dC
 exact decide_eq_false (by ac_nf)
end
section
variable{X:Cx}
noncomputable def EQ:V->List V->Hp->VK->Prop:=λx vs H Q=>∃l xs y,x= .ref l/\vs=[y]/\H l=some (.lst xs)/\xs.length<aO/\Q .non (upd H l (.lst (xs++[y])))
theorem oN:Nw X "list.append" EQ:=by
 intro pins s σ H x vs v us Q I rx rv h
 obtain⟨l,xs,y,rfl,rfl,hH,hz,q⟩:=h
 cases rx
 obtain⟨u,rfl,ru⟩:=rv.one
 obtain⟨z,its,n,r,hl,e⟩:=I.lstM hH
 refine nO F.slot_list_append ⟨_,e,rfl⟩ F.entry_list_append (F.args_list_append_2 _ _) (PySem.list_append l its.toArray n u (by rw[ax];ac_nf)) ⟨e,?_⟩
 refine⟨.non,_,I.lset (its':=its++[u]) hH e (by simp) (r.append (.cons ru .nil)) ?_,rfl,q⟩
 rw[aP,List.length_singleton]
 ac_nf
noncomputable def EO:V->List V->Hp->VK->Prop:=λx vs H Q=>∃l b xs zs,x= .ref l/\vs=[.ref b]/\H l=some (.lst xs)/\H b=some (.lst zs)/\xs.length+zs.length<=aO/\Q .non (upd H l (.lst (xs++zs)))
theorem As:Nw X "list.extend" EO:=by
 intro pins s σ H x vs v us Q I rx rv h
 obtain⟨l,b,xs,zs,rfl,rfl,hH,hB,hz,q⟩:=h
 cases rx
 obtain⟨u,rfl,ru⟩:=rv.one
 cases ru
 obtain⟨z,its,n,r,hl,e⟩:=I.lstM hH
 obtain⟨z2,its2,n2,r2,hl2,e2⟩:=I.lstM hB
 have hsz:its.toArray.size+its2.toArray.size<=aO:=by rw[ax,ax];ac_nf
 have hlong:¬(!its.toArray.isEmpty&&dC (its.toArray.size+its2.toArray.size))=true:=by
  rw[qO hsz,mC]
  exact bz
 refine nO F.slot_list_extend ⟨_,e,rfl⟩ F.entry_list_extend (F.args_list_extend_2 _ _)
  (AutoSeq1.list_extend_list_list_0 l its.toArray n b its2.toArray n2 hlong (by rw[ax];ac_nf) (by ac_nf)) ⟨e,e2,?_⟩
 refine⟨.non,_,I.lset (its':=its++its2) hH e (by simp) (r.append r2) ?_,rfl,q⟩
 rw[aP]
 ac_nf
noncomputable def N2:V->List V->Hp->VK->Prop:=λx vs H Q=>∃l xs y,x= .ref l/\vs=[]/\H l=some (.lst xs)/\xs[xs.length-1]? =some y/\Q y (upd H l (.lst xs.dropLast))
theorem Jd:Nw X "list.pop" N2:=by
 intro pins s σ H x vs v us Q I rx rv h
 obtain⟨l,xs,y,rfl,rfl,hH,hy,q⟩:=h
 cases rx
 have hus:=rv.zero
 subst hus
 obtain⟨z,its,n,r,hl,e⟩:=I.lstM hH
 obtain⟨u,hu,ru⟩:=r.get hy
 have hy':its.toArray[its.toArray.size-1]? =some u:=by
  show its.toArray[its.length-1]? =some u
  rw[<-lI,<-hl]
  exact hu
 refine nO F.slot_list_pop ⟨_,e,rfl⟩ F.entry_list_pop (F.args_list_pop_1 _) (MeetsSeq.list_pop_last l its.toArray n u hy' (by rw[ax];ac_nf)) ⟨e,?_⟩
 refine⟨y,_,I.lset (its':=its.dropLast) hH e ?_ r.dropLast ?_,ru,q⟩
 ·show its.toArray.eraseIdxIfInBounds (its.toArray.size-1)=its.dropLast.toArray
  rw[ax,List.eraseIdxIfInBounds_toArray,ye]
 ·rw[List.length_dropLast]
  ac_nf
noncomputable def N1:R2:=λx y H Q=>∃l k xs,x= .ref l/\y= .int k/\H l=some (.lst xs)/\-(2^63)<=k/\k<2^63/\xs.length*k.toNat<=aO/\
 ∀p,H p=none->Q (.ref p) (upd H p (.lst (bI k.toNat xs).flatten))
theorem FN{α:Type}(xs:List α)(k:Nat):(bI k xs).flatten.length=k*xs.length:=by
 induction k with
 |zero=>simp
 |succ k ih=>rw[dA,dP,aP,ih,Nat.succ_mul,Nat.add_comm]
theorem IL:iJ X (dM .Mult) N1:=by
 intro pins s σ H x y v u Q I rx ry h
 obtain⟨l,k,xs,rfl,rfl,hH,h1,h2,hz,q⟩:=h
 cases rx
 obtain⟨t,rfl⟩:=ry
 obtain⟨z,its,n,r,hl,e⟩:=I.lstM hH
 have hlen:its.toArray.size*k.toNat<=aO:=by rw[ax,<-hl];exact hz
 have hcap:¬its.toArray.size*k.toNat>(2^63-1)/8:=by
  have:(aO:Nat)<=(2^63-1)/8:=by decide
  ac_nf
 have hfit:¬(!cu.List.listFitsIndex k)=true:=by
  rw[fitsIndex_both h1 h2]
  exact bz
 have hlong:¬dC (its.toArray.size*k.toNat)=true:=by
  rw[qO hlen]
  exact bz
 have hnew:List.foldl (λx1 x2=>x1++x2) #[] (bI (if its.toArray.isEmpty=true then 0 else k.toNat) its.toArray)=(bI k.toNat its).flatten.toArray:=by
  have f0:∀m:Nat,List.foldl (λx1 x2=>x1++x2) #[] (bI m its.toArray)=(bI m its).flatten.toArray:=λm=>by
   have:=tE its m []
   rw[List.nil_append]at this
   exact this
  rw[f0]
  cases its with
  |nil=>simp
  |cons a r'=>rw[if_neg (by simp)]
 refine wpAny_binaryOp_repeat_ref (T:= "list") (U:= "int") (by decide) ⟨_,e,rfl⟩ (λs'=>typeIs_int s' k t) noFill_list_mul F.fills_int_mul F.slot_int_rmul repeat_list F.slot_int_index.lookup
  (nO F.slot_int_rmul (typeIs_int s k t) F.entry_int_rmul (F.args_int_rmul_2 _ _) (int___rmul___int_list k t l its.toArray n)
   ⟨e,rfl,⟨_,e,rfl⟩,nO F.slot_list_mul ⟨_,e,rfl⟩ F.entry_list_mul (F.args_list_mul_2 _ _) (AutoListH.list___mul___list_int_3 l its.toArray n k t hfit hcap hlong) ⟨e,?_⟩⟩)
 rw[hnew]
 exact⟨.ref _,_,I.lnew (t':=s.toks) (r.rep k.toNat) (by rw[FN,Nat.mul_comm];exact hz),rfl,q _ I.fresh⟩
end
section
end
section
end
end L2
namespace Att
open PySem PySem.W PySem.Calls PyProof.Rows
theorem pN{P:Params}{h:Heap}:∀(ns:List Int) (vs:List ae),WellAll P h vs (ns.map WData.int)->IntsAre vs ns:=by
 intro ns
 induction ns with
 |nil=>
  intro vs w
  rw[jo]at w
  cases w
  exact .nil
 |cons n ns ih=>
  intro vs w
  rw[aw]at w
  cases w with
  |cons a b=>
   cases a
   exact .cons _ _ (ih _ b)
theorem Ad{l:OpenLaw}{n:Nat}(hn:l.most=some n){P:Params}{h:Heap}{args:List WData}{vals:List ae}
  (hpre:l.row.toRowW.claim.pre args=true) (hwl:WellAll P h vals args):
  ∃a vs ns,vals=[aE a]/\args=[WData.list (ns.map WData.int)]/\h.get? a=some {cls:= .type "list",data:= .seq vs.toArray}/\IntsAre vs ns/\ns.length<=n:=by
 have hsh:WShape.hasAll [] args [.list .int]=true:=(pre_splitW hpre).1
 have hc:l.pre.holds [] {args:=args}=true:=(pre_splitW hpre).2
 obtain⟨d,r,rfl,h1,h2⟩:=hasAllW_cons hsh
 obtain rfl:=hasAllW_nil h2
 obtain⟨xs,rfl,h3⟩:=hasW_list h1
 obtain⟨ns,rfl⟩:=items_int h3
 have hlen:ns.length<=n:=by
  unfold OpenLaw.pre at hc
  have h4:(WTm.not (.lt (.lit (.int (n:Int))) (.len (.arg 0)))).holds [] {args:=[.list (ns.map .int)]}=true:=by
   have h4:=(holds_andW hc).1
   rw[hn]at h4
   exact h4
  have h5:=condW_of h4 (w_not (w_lt w_lit (w_len_list (w_arg rfl))))
  rw[ak]at h5
  refine Nat.le_of_not_lt λq=> ?_
  have q':(n:Int)<((ns.length:Nat):Int):=by ac_nf
  first
   |(rw[decide_eq_true q']at h5;exact absurd h5 (by decide))
   |(simp at h5;ac_nf)
 cases hwl with
 |cons w1 w2=>
  cases w2
  cases w1 with
  |list ho hall=>exact⟨_,_,ns,rfl,rfl,ho,pN ns _ hall,hlen⟩
theorem Af(l:OpenLaw)(args:List WData):l.row.toRowW.claim.post args (.bool true) args=true:=
 postW_of (r:=l.row.toRowW) (X:=(true==true))
  (show WShape.has [] (.bool true) .bool=true by first|rfl|decide|simp[WShape.has,WShape.arms,WShape.armsAll])
  (show(WTm.eq .res (.lit (.bool true))).value [] {args:=args,res:=some (.bool true),after:=args}=some (.bool (true==true))from w_eq_bool (w_res rfl) w_lit) rfl
theorem attach_call{l:OpenLaw}{n:Nat}{q:aJ}{loose:List Str}{XP:(Str->Option ae)->Heap->Prop}{YP:aV->Heap->Prop}{d:DefRec}
  (hn:l.most=some n) (hdf:d.params.defaults=[])
  (call:∀(w:aV) (s₀ s₁:ai) (mg mb:Str->Option ae) (fa:Addr) (o:Obj) (pm cd doc:ae) (a:Addr) (vs:List ae) (ns:List Int),
   Ground q loose [] XP w s₀ mg mb s₁.heap->YP w s₁.heap->
   s₁.heap.get? fa=some o->o.data= .func (docDef d.name d.params d.body d.scope pm cd doc)->s₁.heap.CodeRec cd d.name->mg d.name=some (.ref fa)->
   s₁.heap.get? a=some {cls:= .type "list",data:= .seq vs.toArray}->IntsAre vs ns->ns.length<=n->s₁.gens= #[]->
   codeAny (aQ l.prog w) callerA (.call (.ref fa) ⟨[.ref a],[]⟩) (λr s'=>r= .ok (.ret (.bool true))/\OldK s₁.heap s'.heap/\s'.os=s₁.os/\ly s'.gens) s₁):
  WalkO q loose XP YP l.row.toRowW d [] (λf vs=>PySem.call f vs):=by
 intro w s₀ s₁ mg mb G Y fa o pm cd doc dV kV ho hd hcd hD hmg hg args vals as hpre hlay hrd hwl hlo
 obtain rfl:dV= .none:=Dflts.none hD hdf
 obtain rfl:kV= .none:=Dflts.noKw hD
 obtain⟨a,vs,ns,rfl,rfl,hobj,hints,hlen⟩:=Ad hn hpre hwl
 refine enter_call (nM (call w s₀ s₁ mg mb fa o pm cd doc a vs ns G Y ho (fd_plain hd) hcd hmg hobj hints hlen hg) λr s' hq=> ?_)
 obtain⟨rfl,h2,h3,h4⟩:=hq
 exact⟨.inl ⟨.bool true,.bool true,[],rfl,λ_=>rfl,.bool true,Af l _,λ_=>⟨List.Pairwise.nil,λ_ hm=>(nomatch hm)⟩⟩,h2,h3,h4⟩
section
end
end Att
namespace L2
open PySem PySem.Spec PyProof.Rows
theorem sC:∀{vs:List ae} {ns:List Int},IntsAre vs ns->Vals (ns.map V.int) vs
 |_,_,.nil=> .nil
 |_,_,.cons n t h=> .cons ⟨t,rfl⟩ (sC h)
noncomputable def GT(H:Hp):Prop:=∀b,H b=none\/∃o xs,H b=some (.frz o (.lst xs))
theorem Di{P:aJ}{w:aV}{K:PySem.W.Frag}{mg mb:Str->Option ae}{CX:A7}{k:Nat}{fa a:Addr}{fd:aW}{x:Str}{sp:Sp}{s₁:ai}{vs:List ae}{ns:List Int}
  (KX:K.In s₁.heap) (hns:s₁.heap.Ns bO mg) (hb:s₁.heap.Ns builtinsNs mb) (hbb:∀x:Str,x≠ "__name__" ->mb x=cA x) (hlim:s₁.heap.NoLimit) (hg:s₁.gens= #[])
  (ha:s₁.heap.get? a=some {cls:= .type "list",data:= .seq vs.toArray}) (hi:IntsAre vs ns) (hl:ns.length<=aO) (hr:Room k callerA)
  (F:∀base:Heap,K.In base->base.Ns bO mg->FnOk P w K mg base CX k fa fd [x] sp) (hbind:∀(s:ai) (u:ae),BindsTo s fd ⟨[u],[]⟩ [(x,u)])
  (hsp:∀H:Hp,GT H->SqL K H a (ns.map V.int)->sp [.ref a] H (λv _=>v= .bl true) λ_ _ _=>False)
  (hCX:∀H e s',CX [] H s₁ (λ_ _ _=>False) e s'->False):
  codeAny (aQ P w) callerA (.call (.ref fa) ⟨[.ref a],[]⟩) (λr s'=>r= .ok (.ret (.bool true))/\OldK s₁.heap s'.heap/\s'.os=s₁.os/\ly s'.gens) s₁:=by
 have rv:=sC hi
 have lenV:=hi.length
 -- from an abstract heap in which nothing but the script may be tracked
 have core:∀H:Hp,GT H->SqL K H a (ns.map V.int)->HOk P w H s₁.heap->(∀b,H b≠none->b=a)->(H a≠none->K.lookup a=none)->
   codeAny (aQ P w) callerA (.call (.ref fa) ⟨[.ref a],[]⟩) (λr s'=>r= .ok (.ret (.bool true))/\OldK s₁.heap s'.heap/\s'.os=s₁.os/\ly s'.gens) s₁:=by
  intro H hO hS hok hA hK
  have base_of:∀{b:Addr} {o:Obj},s₁.heap.get? b=some o->H b=none->(uN s₁.heap H).get? b=some o:=λe n=>DH e n
  have noA:∀{b:Addr} {o:Obj} {es:Array DictEntry} {ep:Nat},s₁.heap.get? b=some o->o.data= .dict es ep->H b=none:=fun{b o es ep} e d=>by
   cases q:H b with
   |none=>rfl
   |some u=>
    have e':b=a:=hA b (by rw[q];simp)
    subst e'
    rw[ha]at e;cases e
    have d':eZ vs.toArray _=Data.dict es ep:=d
    cases d'
  have nsK:∀{b:Addr} {m:Str->Option ae},s₁.heap.Ns b m->(uN s₁.heap H).Ns b m:=fun{b m} ⟨o,es,ep,e,d,r⟩=>⟨o,es,ep,base_of e (noA e d),d,r⟩
  have hKb:K.In (uN s₁.heap H):=λb o e=>base_of (KX b o e) (by
   cases q:H b with
   |none=>rfl
   |some u=>
    have e':b=a:=hA b (by rw[q];simp)
    subst e'
    rw[hK (by rw[q];simp)]at e;cases e)
  have hM:Mod K mg (uN s₁.heap H):=⟨hKb,nsK hns,⟨mb,nsK hb,hbb⟩,let⟨mc,h1,h2⟩:=hlim;⟨mc,nsK h1,h2⟩⟩
  have e0:Env0 P w K mg (uN s₁.heap H) callerA [] s₁ H:=⟨rfl,hM,λb o e=>FC e,Nat.le_of_eq (AN _ _),trivial,λb hb=>absurd (show b∈([]:List Addr)from hb) (by simp),hok,.of_eq hg⟩
  refine nM ((F _ hKb (nsK hns)).run callerA [] s₁ H ⟨[.ref a],[]⟩ [.ref a] [.ref a] _ _ hr e0 (hbind s₁ (.ref a)) (.cons rfl .nil) (hsp H hO hS)) λr s' h=> ?_
  cases r with
  |error e=>exact(hCX H e s' h).elim
  |ok fl=>
   cases fl with
   |next=>exact bQ h
   |brk=>exact bQ h
   |cont=>exact bQ h
   |ret u=>
    obtain⟨v,H',os,bare,un,hok',r',q⟩:=h
    have q':v= .bl true:=q
    subst q'
    obtain rfl:u=e8 true:=r'
    refine⟨rfl,OldK.of_keep λb o e=> ?_,os,bare⟩
    cases q:H b with
    |none=>exact un.keep b o e q (by intro z;exact absurd (show b∈([]:List Addr)from z) (by simp)) (by simp)
    |some u=>
     rcases hO b with z|⟨ob,xs,z⟩
     ·rw[q]at z;cases z
     ·have z2:=un.frzs b ob _ z
      obtain⟨e1,_⟩:=hok b _ z
      obtain⟨e2,_⟩:=hok' b _ z2
      rw[e]at e1;cases e1
      exact e2
 cases hk:K.lookup a with
 |some o=>
  -- the script is one of the module's own objects
  have e:=KX a o hk
  rw[ha]at e
  cases e
  refine core (λ_=>none) (λ_=> .inl rfl) (.inr ⟨_,vs.toArray,_,hk,rfl,rfl,rfl,by rw[ax,lenV];exact hl,by simpa using rv⟩) (λb u z=>by have z':(none:Option HO)=some u:=z;cases z') (λb z=>absurd rfl z) λz=>absurd rfl z
 |none=>
  refine core (λb=>if b=a then some (.frz {cls:= .type "list",data:= .seq vs.toArray} (.lst (ns.map V.int)))else none) (λb=> ?_) (.inl (.inr ⟨{cls:= .type "list",data:= .seq vs.toArray},if_pos rfl⟩)) (λb u z=> ?_) (λb z=> ?_) λ_=>hk
  ·by_cases hb:b=a
   ·exact .inr ⟨_,_,if_pos hb⟩
   ·exact .inl (if_neg hb)
  ·by_cases hb:b=a
   ·have z':=(if_pos hb).symm.trans z
    cases z'
    subst hb
    exact⟨ha,by rw[ak];exact hl,vs,_,rv,ha⟩
   ·have z':=(if_neg hb).symm.trans z
    cases z'
  ·by_cases hb:b=a
   ·exact hb
   ·exact absurd (if_neg hb) z
theorem walk_of{l:PySem.W.OpenLaw}{n k:Nat}{q:aJ}{loose:List Str}{XP:(Str->Option ae)->Heap->Prop}{YP:aV->Heap->Prop}{d:DefRec}{K:Params->PySem.W.Frag}{CX:aV->A7}{sp:aV->Sp}{x:Str}
  (hn:l.most=some n) (hn2:n<=aO) (hdf:d.params.defaults=[]) (hr:Room k callerA)
  (hY:∀(w:aV) (h:Heap),YP w h->(K w.params).In h)
  (F:∀(w:aV) (mg:Str->Option ae) (fa:Addr) (h:Heap),(K w.params).In h->h.Ns bO mg->mg d.name=some (.ref fa)->
   ∃fd:aW,(∀(s:ai) (u:ae),BindsTo s fd ⟨[u],[]⟩ [(x,u)])/\
    ∀base:Heap,(K w.params).In base->base.Ns bO mg->FnOk l.prog w (K w.params) mg base (CX w) k fa fd [x] (sp w))
  (hsp:∀(w:aV) (H:Hp) (a:Addr) (ns:List Int),ns.length<=n->GT H->SqL (K w.params) H a (ns.map V.int)->sp w [.ref a] H (λv _=>v= .bl true) λ_ _ _=>False)
  (hCX:∀(w:aV) (H:Hp) (s:ai) (e:ae) (s':ai),CX w [] H s (λ_ _ _=>False) e s'->False):
  PySem.W.WalkO q loose XP YP l.row.toRowW d [] (λf vs=>PySem.call f vs):=by
 refine Att.attach_call hn hdf λw s₀ s₁ mg mb fa o pm cd doc a vs ns G Y ho hd hcd hmg hobj hints hlen hg=> ?_
 have KX:=hY w _ Y
 obtain⟨fd,hb,hF⟩:=F w mg fa _ KX G.T.g hmg
 exact Di KX G.T.g G.T.b G.T.builtins G.T.nolimit hg hobj hints (aR hlen hn2) hr hF hb (λH hO hS=>hsp w H a ns hlen hO hS) λH e s'=>hCX w H s₁ e s'
end L2
/-THE LAST THEOREM (shape;LID,My.*are yours):
  My.Adr:a structure of the addresses that your layer names (classes,functions);My.Txt K t:a structure (Prop) of the equations over K;
  My.txt_mk:{K} {implicit addresses ..} (e1:nsIn K bO "law" =some (some (.ref f))) (e2:K.lookup f=some ⟨oc,od,.func (fnOf "law" "law" params body scope dV kV doc pm an cdv ct),sl⟩) (e3:codeIn K cdv "law" =true) .. :∃t,My.Txt K t
set_option maxRecDepth 100000 in
theorem PySem.Challenge.cw_LID_holds : PySem.Challenge.rw_LID.Holds := by
 w_on;o_law;k_head;(case hw=>w_witness2)
 k_fill
 refine L2.walk_of (l:=PySem.Challenge.rw_LID) (n:=63) (k:=40) (x:= "script") (CX:=λw=> ..) (sp:=λ_=>My.sp_law) rfl (by decide) rfl ⟨rfl,by decide,by decide⟩ (λw h Y=>PySem.W.kIn_of Y) ?F ?S ?C
 case F=>
  intro w mg fa h KX G hmg
  have T:∃t,My.Txt (L2.KOf KX) t:=by
   dsimp only [L2.KOf]                          -- K must stand as «<heap const> w.params» for k_is
   refine' My.txt_mk ?e1 ?e2 ?e3 ..
   (case e1 => PySem.W.k_is)                    -- in the order: a name -> its address -> its object -> its parts
   (case e2=>PySem.W.k_is)
   ..
  obtain⟨t,T⟩:=T
  have e0:=hmg.symm.trans (PySem.W.mg_of KX G T.law)
  cases e0                                       -- fa is the law's own address
  exact ⟨_, λs u => .of_eq rfl, λbase kb nb => My.law_fn T kb nb⟩     -- if «.of_eq rfl» comes too early: refine' ⟨_, ?b, λbase kb nb => My.law_fn T kb nb⟩; exact λs u => .of_eq rfl
 case S=>exact λw H a ns hl hO hS=> ..
 case C=>exact ..
(the tactic k_is has no namespace:write k_is)-/
namespace L2
open PySem PySem.Spec PyProof.Rows
noncomputable def eJ(s:Stmt)(j:Nat):Stmt:=match s with
 | .ClassDef _ _ _ body _ _ _ _ _ _ _=>body.getD j (.Pass ⟨0,0,0,0⟩)
 |_=> .Pass ⟨0,0,0,0⟩
noncomputable def lw(s:Stmt):Arguments:=match s with
 | .FunctionDef _ a _ _ _ _ _ _ _ _=>a
 |_=>{posonlyargs:=[],args:=[],vararg:=none,kwonlyargs:=[],kw_defaults:=[],kwarg:=none,defaults:=[]}
noncomputable def il(s:Stmt):List Stmt:=match s with
 | .FunctionDef _ _ b _ _ _ _ _ _ _=>b
 |_=>[]
noncomputable def aL(s:Stmt):er:=match s with
 | .FunctionDef _ _ _ _ _ _ sc _ _ _=>sc
 |_=>{kind:= .function,names:=[],isGenerator:=false,isCoroutine:=false}
noncomputable abbrev GU:A7:=λ_ _ _ _ _ _=>False
noncomputable abbrev E0:XK:=λ_ _ _=>False
theorem zk{X:Cx}:jA GU X E0:=λ_ _ _ _ _ _ _ h=>h.elim
structure Fun(K:PySem.W.Frag)(x qual:Str)(st:Stmt)(f:Addr)(fd:aW):Prop where
 ex:∃(oc:ae) (od:Option Addr) (kV doc pm:ae) (an:Option Addr) (cdv ct:ae) (osl:Array (Option ae)),
  fd=PySem.W.fnOf x qual (lw st) (il st) (aL st) .none kV doc pm an cdv ct/\K.lookup f=some ⟨oc,od,.func fd,osl⟩/\PySem.W.codeIn K cdv qual=true
 kp:PySem.W.keepIn K (.ref f)=true
section
variable{P:aJ}{w:aV}{K:PySem.W.Frag}{mg:Str->Option ae}{base:Heap}
theorem Fun.ok{x qual:Str}{st:Stmt}{f:Addr}{fd:aW}{N ps:List Str}{k:Nat}{sp:Sp}(F:Fun K x qual st f fd)(S:bA N ps (aL st))(len:∀vs H Q E,sp vs H Q E->vs.length=ps.length)
  (hbody:∀(cdv:ae) (A:Around) (outer:List Env) (s:ai) (H:Hp) (vs:List V) (Q:VK) (E:XK),Room k (A.deeper (envOfC qual (aL st) s.heap.objs.size f cdv))->sp vs H Q E->
   ∃t,PSs (gZ GU P w K mg base N qual (aL st) f cdv A outer s H E).nox (il st) t/\t {nx:=λ_ H'=>Q .non H',rt:=Q} (start N vs) H):FnOk P w K mg base GU (k+1) f fd ps sp:=by
 obtain⟨oc,od,kV,doc,pm,an,cdv,ct,osl,rfl,lk,hcd⟩:=F.ex
 refine Hu lk hcd S len λA outer s H vs Q E hr hsp=> ?_
 obtain⟨t,h,q⟩:=hbody cdv A outer s H vs Q E hr hsp
 exact⟨t,h.nox,q⟩
theorem Fun.binds{x qual:Str}{st:Stmt}{f:Addr}{fd:aW}{ps:List Str}(F:Fun K x qual st f fd)
  (h:∀(kV doc pm:ae) (an:Option Addr) (cdv ct:ae) (us:List ae),us.length=ps.length->bindArgs (PySem.W.fnOf x qual (lw st) (il st) (aL st) .none kV doc pm an cdv ct) ⟨us,[]⟩=pure (ps.zip us)):Binds K fd ps []:=by
 obtain⟨oc,od,kV,doc,pm,an,cdv,ct,osl,rfl,lk,hcd⟩:=F.ex
 exact .all (h kV doc pm an cdv ct)
theorem DL{x qual:Str}{st:Stmt}{f:Addr}{oc:ae}{od an:Option Addr}{osl:Array (Option ae)}{kV doc pm cdv ct:ae}(l:K.lookup f=some ⟨oc,od,.func (PySem.W.fnOf x qual (lw st) (il st) (aL st) .none kV doc pm an cdv ct),osl⟩)
  (c:PySem.W.codeIn K cdv qual=true) (k:PySem.W.keepIn K (.ref f)=true):Fun K x qual st f (PySem.W.fnOf x qual (lw st) (il st) (aL st) .none kV doc pm an cdv ct):=⟨⟨oc,od,kV,doc,pm,an,cdv,ct,osl,rfl,l,c⟩,k⟩
end
section
end
theorem se{A B:Prop}(h:B):if false=true then A else B:=by
 rw[if_neg bz]
 exact h
theorem sd{A B:Prop}(h:A):if true=true then A else B:=by
 rw[if_pos rfl]
 exact h
theorem nK{prog:aJ}{w:aV}{A:Around}{R:Result->ai->Prop}{s:ai}{elt target iter:Expr}{ifs:List Expr}{scope:er}{pos:Pos}{it acc:ae}{env:Env}{N:ae->ai->Prop}
  (hN:N=notedBy (aQ prog w) A env λe s'=>R (.error e) s') (J:Nat->ai->Prop)
  (turn:∀n s,J n s->wpAny (aQ prog w) A (pyNext it) (λr s₁=>match r with
   |none=>R (.ok .next) s₁
   |some v=>wpAny (aQ prog w) A (jL target it v) (λ_ s₀=>wpAny (aQ prog w) A (assign target env v) (λ_ s₂=>
     wpAny (aQ prog w) A (forIn ifs true λc r=>if r=true then do let ok <-isTrue c env (eval c env);pure (gB ok)else pure (gB r)) (λok s₃=>
      if ok=true then wpAny (aQ prog w) A (eval elt env) (λx s₄=>
       wpAny (aQ prog w) A (call (.builtin "list.append") [acc,x]) (λ_ s₅=>∃m,m<n/\J m s₅) N s₄) N s₃
      else∃m,m<n/\J m s₃) N s₂) N s₀) N s₁) N s)
  (n:Nat) (h:J n s):
  codeAny (aQ prog w) A (.compLoop (.ListComp elt [⟨target,iter,ifs,0⟩] scope pos) 0 it acc env) R s:=by
 refine codeAny_loop rfl J (λn s hI=> ?_) n h
 show wpAny _ A ((compTurn (.ListComp elt [⟨target,iter,ifs,0⟩] scope pos) 0 it acc env).onRaise (λx=>do noteFrame x env;theTreesLotGoes x)) _ _ s
 refine wpAny_noted ?_
 rw[compTurn_list]
 subst hN
 refine aa (wpAny_standAt (aa (bj (turn n s hI) (λr s₁ h₁=> ?_) λ_ _ h'=>h')))
 cases r with
 |none=>exact aq h₁
 |some v=>
  refine aa (bj h₁ (λ_ s₀ h₀=> ?_) λ_ _ h'=>h')
  refine aa (bj h₀ (λ_ s₂ h₂=>aa (bj h₂ (λok s₃ h₃=> ?_) λ_ _ h'=>h')) λ_ _ h'=>h')
  cases ok with
  |false=>exact aq ⟨rfl,h₃⟩
  |true=>
   exact aa (aa (bj h₃ (λx s₄ h₄=>aa (bj h₄ (λ_ s₅ h₅=>aq (aq ⟨rfl,h₅⟩)) λ_ _ h'=>h')) λ_ _ h'=>h'))
noncomputable def lF(cells:List (Str×Addr)):List (Str×eE)->List (Str×Addr)->List (Str×Addr)
 |[],acc=>acc
 |(n,k)::r,acc=>lF cells r (if k= .free then(n,(cells.lookup n).getD 0)::acc else acc)
theorem mn{env:Env}:∀(names:List (Str×eE)) (acc:List (Str×Addr)),(∀y∈names,y.2= .free->∃c,env.cells.lookup y.1=some c)->
  (forIn names acc (fun(y:Str×eE) (cs:List (Str×Addr))=>if(y.2== .free)=true then(do let c <-cellOf env y.1;pure (gB ((y.1,c)::cs)))else pure (gB cs)):Sem (List (Str×Addr)))=pure (lF env.cells names acc)
 |[],acc,_=>rfl
 |(n,k)::r,acc,h=>by
  rw[lH]
  have hr:∀y∈r,y.2= .free->∃c,env.cells.lookup y.1=some c:=λy hy=>h y (cV _ hy)
  by_cases hk:k= .free
  ·subst hk
   obtain⟨c,hc⟩:=h (n,.free) gY rfl
   have e:cellOf env n=pure c:=by unfold cellOf;rw[hc]
   simp only[beq_self_eq_true,if_true,e,pure_bind]
   rw[mn r _ hr]
   show _=pure (lF env.cells r _)
   rw[if_pos rfl,hc]
   rfl
  ·have hb:(k==jG)=false:=by simpa using hk
   simp only[hb,pF,if_false,pure_bind]
   rw[mn r _ hr]
   show _=pure (lF env.cells r _)
   rw[if_neg hk]
theorem jz{scope:er}{env:Env}(h:∀y∈scope.names,y.2= .free->∃c,env.cells.lookup y.1=some c):closureFor scope env=pure (lF env.cells scope.names []):=by
 have q:=mn scope.names [] h
 unfold closureFor
 simp only[bind_pure]
 exact q
theorem wG{cells:List (Str×Addr)}:∀(names:List (Str×eE)) (acc:List (Str×Addr)) (y:Str) (c:Addr),(∀z∈names,z.2= .free->∃c,cells.lookup z.1=some c)->(∀c,acc.lookup y=some c->cells.lookup y=some c)->(lF cells names acc).lookup y=some c->cells.lookup y=some c
 |[],acc,y,c,_,ha,h=>ha c h
 |(n,k)::r,acc,y,c,hn,ha,h=>by
  refine wG r _ y c (λz hz=>hn z (cV _ hz)) (λc' hc'=> ?_) h
  by_cases hk:k= .free
  ·rw[if_pos hk]at hc'
   obtain⟨c0,e0⟩:=hn (n,k) gY hk
   rw[fA]at hc'
   cases hx:y==n with
   |true=>
    have hy:y=n:=by simpa using hx
    subst hy
    rw[hx]at hc'
    have e0':cells.lookup y=some c0:=e0
    simp only[e0',Option.getD_some]at hc'
    rw[e0',hc']
   |false=>rw[hx]at hc';exact ha c' hc'
  ·rw[if_neg hk]at hc'
   exact ha c' hc'
theorem tK{cells:List (Str×Addr)}:∀(names:List (Str×eE)) (acc:List (Str×Addr)) (y:Str),(∃c,acc.lookup y=some c)->∃c,(lF cells names acc).lookup y=some c
 |[],acc,y,h=>h
 |(n,k)::r,acc,y,h=>by
  refine tK r _ y ?_
  by_cases hk:k= .free
  ·rw[if_pos hk,fA]
   cases hx:y==n with
   |true=>exact⟨_,rfl⟩
   |false=>exact h
  ·rw[if_neg hk];exact h
theorem rH{cells:List (Str×Addr)}:∀(names:List (Str×eE)) (acc:List (Str×Addr)) (y:Str),(y,jG)∈names->∃c,(lF cells names acc).lookup y=some c
 |[],acc,y,h=>by simp at h
 |(n,k)::r,acc,y,h=>by
  rcases aI.mp h with e|e
  ·have e1:n=y:=(Prod.mk.inj e).1.symm
   have e2:k= .free:=(Prod.mk.inj e).2.symm
   subst e1;subst e2
   refine tK r _ n ?_
   rw[if_pos rfl,fA]
   simp
  ·exact rH r _ y e
structure ie(sc:er)(N:List Str)(scope:er)(M:List Str)(ix:List (Option Nat))(j:Nat)(x:Str):Prop where
 kind:scope.kind= .function
 names:∀y∈scope.names,y.2= .local->scope.names.lookup y.1=some .local
 nocell:∀y∈scope.names,y.2≠ .cell
 nd:M.Nodup
 tgt:M[j]? =some x
 loc:scope.names.lookup x=some .local
 own:ix[j]? =some none
 len:ix.length=M.length
 free:∀y∈scope.names,y.2= .free->sc.names.lookup y.1=some .cell\/sc.names.lookup y.1=some .free
 capt:∀(k:Nat) (y:Str) (i:Nat),M[k]? =some y->ix[k]? =some (some i)->N[i]? =some y/\(sc.names.lookup y=some .cell\/sc.names.lookup y=some .free)/\scope.names.lookup y=some .free
noncomputable def kY(ix:List (Option Nat))(σ:St):St:=ix.map λo=>match o with
 |some i=>(σ[i]?).getD none
 |none=>none
noncomputable def cb(X:Cx)(M:List Str)(scope:er)(C:Addr)(s:ai)(H:Hp)(fp:List Addr):Cx where
 prog:=X.prog
 w:=X.w
 K:=X.K
 mg:=X.mg
 base:=X.base
 A:=X.A
 N:=M
 s₀:=s
 H₀:=H
 env:=compEnvC scope (lF X.env.cells scope.names []) C X.env
 outer:=X.stack
 stack:=X.stack
 ex:=fp
 fn:=λ_=>false
 calm:=X.calm
 pn:=[]
 xe:=λ_ _=>False
noncomputable def PF(X:Cx)(ifs:List Expr)(t:TT):Prop:=
 ∀(pins:List (Addr×Obj)) (s:ai) (σ:St) (H:Hp) (Q:Bool->Hp->Prop),Inv X pins σ H s->t σ H Q->
  wpAny (aQ X.prog X.w) X.A (forIn ifs true λc r=>if r=true then do let ok <-isTrue c X.env (eval c X.env);pure (gB ok)else pure (gB r)) (TP X pins σ Q) X.xe s
noncomputable def NC:TT:=λ_ H Q=>Q true H
theorem Iy{X:Cx}:PF X [] NC:=λ_ _ _ H _ I h=>wpAny_tests_nil ⟨H,I,h⟩
theorem Ix{X:Cx}{c:Expr}{t:TT}(h:PT X c t):PF X [c] t:=λpins s σ H Q I q=>wpAny_tests_one (h pins s σ H Q I q)
noncomputable def wR(env:Env)(p:Str×eE):Str×eE:=if(p.2==jG&&env.scope.kind== .function&&env.kindOf p.1==some .cell)then(p.1,eE.cell)else(p.1,p.2)
theorem xC(scope:er)(env:Env):(relabel scope env).names=scope.names.map (wR env):=rfl
theorem EL(env:Env)(p:Str×eE):(wR env p).1=p.1:=by unfold wR;split<;>rfl
theorem l7{env:Env}:∀(names:List (Str×eE)) (x:Str),(names.map (wR env)).lookup x=((names.lookup x).map λk=>(wR env (x,k)).2)
 |[],x=>rfl
 |(n,k)::r,x=>by
  have ih:=l7 (env:=env) r x
  have e1:=EL env (n,k)
  rw[aw]
  rw[show wR env (n,k)=((wR env (n,k)).1,(wR env (n,k)).2)from rfl,e1,fA,fA]
  cases hx:x==n with
  |true=>
   have:x=n:=by simpa using hx
   subst this
   rfl
  |false=>exact ih
theorem B5{env:Env}{x:Str}{k:eE}(h:(wR env (x,k)).2= .cell\/(wR env (x,k)).2= .free)(hk:k≠ .cell):k= .free:=by
 unfold wR at h
 split at h
 ·rename_i hc
  have:=(A8.mp (A8.mp hc).1).1
  simpa using this
 ·rcases h with h|h
  ·exact absurd h hk
  ·exact h
theorem vT{env:Env}{x:Str}:(wR env (x,.free)).2= .cell\/(wR env (x,.free)).2= .free:=by
 unfold wR
 split
 ·exact .inl rfl
 ·exact .inr rfl
theorem qU{env:Env}{names:List (Str×eE)}{x:Str}(h:(names.map (wR env)).lookup x=some .cell\/(names.map (wR env)).lookup x=some .free)(hc:∀y∈names,y.2≠ .cell):(x,jG)∈names:=by
 rw[l7]at h
 cases q:names.lookup x with
 |none=>rw[q]at h;simp at h
 |some k=>
  rw[q]at h
  have hm:=PySem.mem_of_lookup q
  have hk:k≠ .cell:=hc _ hm
  have e:k= .free:=B5 (env:=env) (x:=x) (by rcases h with h|h;exact .inl (bf h);exact .inr (bf h)) hk
  rw[e]at hm
  exact hm
theorem u0{ix:List (Option Nat)}{j:Nat}(h:ix[j]? =some none)(σ:St):(kY ix σ)[j]? =some none:=by
 unfold kY
 rw[aC,h]
 rfl
noncomputable def El(J:It)(ix:List (Option Nat))(j:Nat)(σ:St)(tf:TT)(te:TE)(Q:VK)(H1:Hp)(acc:Addr):Prop:=∃W:Nat->Nat->Hp->Prop,(∃m,W 0 m (upd H1 acc (.lst [])))/\∀i m H',W i m H'->
 (J.stop i H'/\Q (.ref acc) H')\/(J.go i H'/\∀x H2,J.yld i H' x H2->tf ((kY ix σ).set j (some x)) H2 λb H3=>
  if b=true then te ((kY ix σ).set j (some x)) H3 λy H4=>∃ys,H4 acc=some (.lst ys)/\ys.length<aO/\∃m',m'<m/\W (i+1) m' (upd H4 acc (.lst (ys++[y])))
  else∃m',m'<m/\W (i+1) m' H3)
noncomputable def BA(wi:TI)(ix:List (Option Nat))(j:Nat)(tf:TT)(te:TE):TE:=λσ H Q=>wi σ H λJ H1=>∀acc,H1 acc=none->El J ix j σ tf te Q H1 acc
section
variable{X:Cx}{scope:er}{M:List Str}{ix:List (Option Nat)}{j:Nat}{x:Str}
theorem mh{pins:List (Addr×Obj)}{σ:St}{H:Hp}{s:ai}{fp:List Addr}{h1:Heap}(S:ie X.env.scope X.N scope M ix j x)(I:Inv X pins σ H s)
  (hf:∀b∈fp,pR X pins H b) (hft:∀b∈fp,b<s.heap.objs.size) (old:∀b o,s.heap.get? b=some o->h1.get? b=some o)
  (hD:h1.get? s.heap.objs.size=some {cls:= .type "list",data:= .seq ([]:List ae).toArray 0}) (hns:h1.Ns (s.heap.objs.size+1) λ_=>none):
  Inv (cb X M scope (s.heap.objs.size+1) s H fp) [] (kY ix σ) (upd H s.heap.objs.size (.lst [])) {s with heap:=h1}:=by
 have frees:∀y∈scope.names,y.2= .free->∃c,X.env.cells.lookup y.1=some c:=λy hy e=>I.ok.has y.1 (S.free y hy e)
 have clin:∀y c,(lF X.env.cells scope.names []).lookup y=some c->X.env.cells.lookup y=some c:=λy c h=>wG scope.names [] y c frees (λc hc=>by simp at hc) h
 have hfr:H s.heap.objs.size=none:=I.hok.fresh (ao _)
 have hclt:∀y c,(lF X.env.cells scope.names []).lookup y=some c->c<s.heap.objs.size:=λy c h=>by
  obtain⟨v,q⟩:=I.cell y c (clin y c h)
  exact q.lt
 refine⟨⟨I.ok.mod,S.kind,I.ok.glob,I.ok.blt,gu _,λy z c e1 e2=>I.ok.inj y z c (clin y c e1) (clin z c e2),λy hy=> ?_,λy c e _=>absurd (show false=true from e) (by simp),I.ok.hd,I.ok.frames,.inl rfl,
   λb hb=>⟨aN (dj (hft b hb)),λy c e=>(hf b hb).2.2.2.2.1 y c (clin y c e)⟩,I.bs,aR I.ok.bsz I.sz,λb o e hb=> ?_,λb hb z=> ?_,I.stack,I.stkFree⟩,
  rfl,I.bare,Un.laid old (ao _) hfr,⟨λ_=>none,hns,λk y v e1 e2 e3=> ?_⟩,λy c e=> ?_,?_,λy c e=> ?_,λp hp=>absurd (show p∈([]:List (Addr×Obj))from hp) (by simp),?_,?_⟩
 ·exact rH scope.names [] y (qU (env:=X.env) hy S.nocell)
 ·rcases(hf b hb).2.2.2.1 with z|z
  ·exact I.ok.noex b o e z
  ·exact absurd (a9 (aB e) (aR I.ok.bsz z)) (c7 _)
 ·exact(aI.mp (I.stkSub b z)).elim (hf b hb).2.1 (hf b hb).2.2.1
 · -- a captured name
  have hix:∃i,ix[k]? =some (some i)/\σ[i]? =some (some v):=by
   unfold kY at e2
   rw[aC]at e2
   cases q:ix[k]? with
   |none=>rw[q]at e2;cases e2
   |some o=>
    cases o with
    |none=>rw[q]at e2;cases e2
    |some i=>
     rw[q]at e2
     refine⟨i,rfl,?_⟩
     have e2':some ((σ[i]?).getD none)=some (some v):=e2
     have e3':=bf e2'
     cases q2:σ[i]? with
     |none=>rw[q2]at e3';cases e3'
     |some z=>rw[q2]at e3';exact congrArg some e3'
  obtain⟨i,hi,hv⟩:=hix
  obtain⟨c1,c2,c3⟩:=S.capt k y i e1 hi
  obtain⟨m,hn,hl⟩:=I.loc
  obtain⟨u,r,l⟩:=hl i y v c1 hv (.inr c2)
  refine⟨u,r,?_⟩
  rcases l with⟨l,_⟩|⟨_,c,hc,hcell⟩
  ·exfalso
   have l':X.env.scope.names.lookup y=some .local:=l
   rcases c2 with c2|c2<;>(rw[l']at c2;cases c2)
  ·have hmem:(y,jG)∈scope.names:=PySem.mem_of_lookup c3
   obtain⟨c',hc'⟩:=rH (cells:=X.env.cells) scope.names [] y hmem
   have ecc:c'=c:=bf ((clin y c' hc').symm.trans hc)
   subst ecc
   have hk:(relabel scope X.env).names.lookup y=some .cell\/(relabel scope X.env).names.lookup y=some .free:=by
    rw[xC,l7,c3]
    rcases vT (env:=X.env) (x:=y)with z|z
    ·exact .inl (congrArg some z)
    ·exact .inr (congrArg some z)
   obtain⟨oc,ho,hd⟩:=hcell
   exact .inr ⟨hk,c',hc',oc,old c' oc ho,hd⟩
 ·obtain⟨v,oc,ho,hd⟩:=I.cell y c (clin y c e)
  exact⟨v,oc,old c oc ho,hd⟩
 ·show upd H s.heap.objs.size (.lst []) (s.heap.objs.size+1)=none
  rw[bD (Nat.succ_ne_self _)]
  exact I.hok.fresh (gu _)
 ·show upd H s.heap.objs.size (.lst []) c=none
  rw[bD (aN (hclt y c e))]
  exact I.freeC y c (clin y c e)
 ·exact I.hok.laid old (ao _) ⟨bt _,[],0,.nil,hD⟩
 ·show(kY ix σ).length=M.length
  unfold kY
  rw[ak,S.len]
theorem rF{pins:List (Addr×Obj)}{σ σ':St}{H H':Hp}{s s':ai}{fp:List Addr}{C:Addr}(I:Inv X pins σ H s)(hC:s.heap.objs.size<=C)(hf:∀b∈fp,pR X pins H b)
  (I':Inv (cb X M scope C s H fp) [] σ' H' s') {h':Heap} (hb:eA C s'.heap h'):Inv X pins σ H' {s' with heap:=h'}:=by
 have ne:∀b o,s.heap.get? b=some o->b≠C:=λb o e=>aN (a9 (aB e) hC)
 have k:∀b o,b≠C->s'.heap.get? b=some o->h'.get? b=some o:=λb o hn e=>hb.extBut b o hn e
 have u:Un (lq X.stack) fp H H' s.heap s'.heap:=I'.base
 have hHC:H' C=none:=I'.free
 have u2:Un (lq X.stack) fp H H' s.heap h':=by
  refine⟨λb o e n h1 h2=>k b o (ne b o e) (u.keep b o e n h1 h2),λb o e n h1 h2=> ?_,λb o e n h1=>u.free b o e n h1,λb o e h1=> ?_,u.tups,u.frzs,u.tbls⟩
  ·obtain⟨sl,q⟩:=u.slot b o e n h1 h2
   exact⟨sl,k b _ (ne b o e) q⟩
  ·obtain⟨o',q⟩:=u.there b o e h1
   exact⟨o',k b o' (ne b o e) q⟩
 have hok:HOk X.prog X.w H' h':=λb o e=>(I'.hok b o e).stay (λc v hc q=>k c v (λz=>by
  subst z
  rcases hc with z|z
  ·rw[<-z,hHC]at e;cases e
  ·rw[hHC]at z;cases z) q) (λ_ q=>q) λ_ _ q=>q
 exact I.call' (s':={s' with heap:=h'}) I'.os u2 hok I'.bare λb hb=>⟨(hf b hb).2.2.2.1,(hf b hb).2.1,(hf b hb).2.2.2.2.1,(hf b hb).2.2.2.2.2⟩
theorem BK{c:St}{j:Nat}{v:V}(h:c[j]? =some none):∀(i:Nat) (z:V),c[i]? =some (some z)->(c.set j (some v))[i]? =some (some z):=λi z e=>by
 by_cases hij:j=i
 ·subst hij;rw[h]at e;cases e
 ·rw[cq hij];exact e
theorem rG{elt iter:Expr}{px:Pos}{ifs:List Expr}{pos:Pos}{tf:TT}{te:TE}{pins:List (Addr×Obj)}{σ:St}{H:Hp}{s:ai}{fp:List Addr}{it:Addr}{tn:Nat->Heap->Prop}{J:It}{h1:Heap}{tk:Nat}{Q:VK}{R:Result->ai->Prop}
  (S:ie X.env.scope X.N scope M ix j x) (hc:X.calm=true) (I:Inv X pins σ H s)
  (hF:PF (cb X M scope (s.heap.objs.size+1) s H fp) ifs tf) (hE:PE (cb X M scope (s.heap.objs.size+1) s H fp) elt te)
  (T:sr X.prog X.w X.K (.Name x px) J fp it tn) (st:tn 0 s.heap) (hf:∀b∈fp,pR X pins H b)
  (I0:Inv (cb X M scope (s.heap.objs.size+1) s H fp) [] (kY ix σ) (upd H s.heap.objs.size (.lst [])) {s with heap:=h1,toks:=tk}) (old:∀b o,s.heap.get? b=some o->h1.get? b=some o)
  (q:El J ix j σ tf te Q H s.heap.objs.size)
  (hR:∀H' s',Inv (cb X M scope (s.heap.objs.size+1) s H fp) [] (kY ix σ) H' s'->Q (.ref s.heap.objs.size) H'->R (.ok .next) s'):
  codeAny (aQ X.prog X.w) X.A (.compLoop (.ListComp elt [⟨.Name x px,iter,ifs,0⟩] scope pos) 0 (.ref it) (.ref s.heap.objs.size) (compEnvC scope (lF X.env.cells scope.names []) (s.heap.objs.size+1) X.env)) R {s with heap:=h1,toks:=tk}:=by
 obtain⟨W,⟨m0,w0⟩,turn⟩:=q
 have hD:s.heap.objs.size∉fp:=λz=>by
  obtain⟨o,e,_⟩:=T.obj 0 s.heap st _ z
  exact absurd (aB e) (c7 _)
 have hlt:∀b∈fp,b<s.heap.objs.size:=λb hb=>by
  obtain⟨o,e,_⟩:=T.obj 0 s.heap st b hb
  exact aB e
 have stat:∀{H':Hp},(∀b∈fp,H' b=none)->∀b∈fp,pR (cb X M scope (s.heap.objs.size+1) s H fp) [] H' b:=λhn b hb=>
  ⟨hn b hb,aN (dj (hlt b hb)),I0.ok.exfs b hb,.inl hb,(I0.ok.exf b hb).2,λp hp=>absurd (show p∈([]:List (Addr×Obj))from hp) (by simp)⟩
 have own:=u0 S.own σ
 refine nK rfl (λn s'=>∃i H',Inv (cb X M scope (s.heap.objs.size+1) s H fp) [] (kY ix σ) H' s'/\tn i s'.heap/\(∀b∈fp,H' b=none)/\W i n H') ?_ m0
  ⟨0,_,I0,T.keep 0 _ _ st λb _ o e=>old b o e,λb hb=>by rw[bD (aN (hlt b hb))];exact(hf b hb).1,w0⟩
 rintro n s3 ⟨i,H3,I3,st3,fr3,w3⟩
 rcases turn i n H3 w3 with⟨stop,qn⟩|⟨go,step⟩
 ·refine bj (T.done (cb X M scope (s.heap.objs.size+1) s H fp) rfl rfl rfl hc i [] s3 (kY ix σ) H3 (λ_ _=>False) I3 (stat fr3) st3 stop) (λr s4 hPl=> ?_) (λ_ _ z=>z.elim)
  obtain⟨hr,I4⟩:=hPl
  subst hr
  exact hR H3 s4 I4 qn
 ·refine bj (T.item (cb X M scope (s.heap.objs.size+1) s H fp) rfl rfl rfl hc i [] s3 (kY ix σ) H3 (λ_ _=>False) I3 (stat fr3) st3 go) (λr s4 hPl=> ?_) (λ_ _ z=>z.elim)
  obtain⟨u,hr,h4⟩:=hPl
  subst hr
  refine bj h4 (λ_ s5 hPl=> ?_) (λ_ _ z=>z.elim)
  obtain⟨y,H5,I5,r5,y5,st5,fr5⟩:=hPl
  have I5':=I5.pinned (stat fr5) (T.obj _ _ st5)
  have pg:PG (cb X M scope (s.heap.objs.size+1) s H fp) (.Name x px) (rh j):=
   ik S.nd S.tgt (.inl (by show(relabel scope X.env).names.lookup x=some .local;exact fq S.loc)) (.inr (by show(relabel scope X.env).names.lookup x=some .local;exact fq S.loc))
  refine bj (pg _ s5 (kY ix σ) H5 y u (λσ2 H2=>σ2=(kY ix σ).set j (some y)/\H2=H5) I5' r5 ⟨rfl,rfl⟩) (λ_ s6 hPl=> ?_) (λ_ _ z=>z.elim)
  obtain⟨σ6,H6,I6,e6,eh6⟩:=hPl
  subst e6;subst eh6
  have again:∀{H7:Hp} {s7:ai},Inv (cb X M scope (s.heap.objs.size+1) s H fp) ([]++oI fp s5.heap) ((kY ix σ).set j (some y)) H7 s7->(∃m',m'<n/\W (i+1) m' H7)->
    ∃m,m<n/\∃i H',Inv (cb X M scope (s.heap.objs.size+1) s H fp) [] (kY ix σ) H' s7/\tn i s7.heap/\(∀b∈fp,H' b=none)/\W i m H':=fun{H7 s7} I7 ⟨m',hm,w7⟩=>by
   have Iw:Inv (cb X M scope (s.heap.objs.size+1) s H fp) [] (kY ix σ) H7 s7:=(Inv.unpinned (pins:=[]) I7).weak (by simp) (BK own)
   refine⟨m',hm,i+1,H7,Iw,T.keep _ _ _ st5 λb hb o e=>(I7.pin (b,o) (aY _ (aY _ (ia hb e)))).1,λb hb=> ?_,w7⟩
   obtain⟨o,e,d⟩:=T.obj _ _ st5 b hb
   exact(I7.pin (b,o) (aY _ (aY _ (ia hb e)))).2.1
  refine bj (hF _ s6 _ _ _ I6 (step y _ y5)) (λb s7 hPl=> ?_) (λ_ _ z=>z.elim)
  obtain⟨H7,I7,q7⟩:=hPl
  cases b with
  |false=>
   simp only[pF,if_false]at q7⊢
   exact again I7 q7
  |true=>
   simp only[if_true]at q7⊢
   refine bj (hE _ s7 _ H7 _ I7 q7) (λv s8 hPl=> ?_) (λ_ _ z=>z.elim)
   obtain⟨z,H8,I8,r8,ys,hy,hz,q8⟩:=hPl
   refine bj (oN (X:=cb X M scope (s.heap.objs.size+1) s H fp) _ s8 _ H8 (.ref s.heap.objs.size) [z] (.ref s.heap.objs.size) [v] (λ_ H'=>H'=upd H8 s.heap.objs.size (.lst (ys++[z]))) I8 rfl (.cons r8 .nil) ⟨s.heap.objs.size,ys,z,rfl,rfl,hy,hz,rfl⟩) (λw s9 hPl=> ?_) (λ_ _ z=>z.elim)
   obtain⟨_,H9,I9,_,e9⟩:=hPl
   subst e9
   exact again I9 q8
theorem Fi{elt iter:Expr}{px:Pos}{ifs:List Expr}{pos:Pos}{wi:TI}{tf:TT}{te:TE}(S:ie X.env.scope X.N scope M ix j x)(hc:X.calm=true)(hi:PI X (.Name x px) iter wi)
  (hb:∀C s H fp,PF (cb X M scope C s H fp) ifs tf/\PE (cb X M scope C s H fp) elt te) (hs:∀x,en iter X.env x=pure x:=by intro _;rfl):
  PE X (.ListComp elt [⟨.Name x px,iter,ifs,0⟩] scope pos) (BA wi ix j tf te):=by
 intro pins s σ H Q I h
 rw[eval_ListComp]
 refine lA (use:=none) rfl hs (jz λy hy e=>I.ok.has y.1 (S.free y hy e)) S.kind S.names (bj (hi pins s σ H _ I h) (λxv s₁ h₁=>bj h₁ (λit s₂ h₂=> ?_) λ_ _ e=>e) λ_ _ e=>e)
 obtain⟨it,fp,tn,J,H2,rfl,I2,T,st2,f2,q⟩:=h₂
 refine bH (pI S.nocell (by intro y hy;simp at hy) (λh₁ hns₁ hsb₁=> ?_) S.kind)
 dsimp only at hns₁ hsb₁⊢
 have hC:(s₂.heap.push {cls:= .type "list",dict:=none,data:= .seq ([]:List ae).toArray}).objs.size=s₂.heap.objs.size+1:=cS ..
 rw[hC]at hns₁ hsb₁⊢
 have below:∀b,b<s₂.heap.objs.size->b≠s₂.heap.objs.size+1:=λb hb=>aN (dj hb)
 have old:∀b o,s₂.heap.get? b=some o->h₁.get? b=some o:=λb o e=>hsb₁.extBut b o (below b (aB e)) (af _ (af _ e))
 have hD:h₁.get? s₂.heap.objs.size=some {cls:= .type "list",data:= .seq ([]:List ae).toArray 0}:=hsb₁.extBut _ _ (aN (fF _)) (af _ (aK _ rfl))
 have ns:h₁.Ns (s₂.heap.objs.size+1) λ_=>none:=hns₁
 have hft:∀b∈fp,b<s₂.heap.objs.size:=λb hb=>by
  obtain⟨o,e,_⟩:=T.obj 0 s₂.heap st2 b hb
  exact aB e
 have I0:=(mh (h1:=h₁) S I2 f2 hft old hD ns).tok s₂.toks
 have hfr:H2 s₂.heap.objs.size=none:=I2.hok.fresh (ao _)
 have loop:codeAny (aQ X.prog X.w) X.A (.compLoop (.ListComp elt [⟨.Name x px,iter,ifs,0⟩] scope pos) 0 (.ref it) (.ref s₂.heap.objs.size) (compEnvC scope (lF X.env.cells scope.names []) (s₂.heap.objs.size+1) X.env))
   (compPost (aQ X.prog X.w) X.A X.xe none (EP X pins σ Q) (.ref s₂.heap.objs.size) (s₂.heap.objs.size+1)) {s₂ with heap:=h₁,toks:=s₂.toks}:=by
  refine rG (Q:=Q) S hc I2 (hb _ _ _ _).1 (hb _ _ _ _).2 T st2 f2 I0 old (q _ hfr) λH' s' I' qq=> ?_
  obtain⟨m,hn,_⟩:=I'.loc
  exact⟨m,hn,λh' hb'=>⟨.ref s₂.heap.objs.size,H',rF I2 (gu _) f2 I' hb',rfl,qq⟩⟩
 exact nN loop (T.self _ 0 _ _ _ (T.keep 0 _ _ st2 λb _ o e=>old b o e) loop)
end
section
variable{X:Cx}
noncomputable def Ny(z:Str):It:=⟨λi _=>i<z.cps.size,λi H x H'=>H'=H/\∃c,z.cps[i]? =some c/\x= .str ⟨#[c]⟩,λi _=>z.cps.size<=i⟩
theorem vt{P:aJ}{w:aV}{K:PySem.W.Frag}{x:Str}{px:Pos}(it:Addr)(z:Str)(t:Tok)(ty:String)(hty:ty= "str_ascii_iterator" \/ty= "str_iterator"):
  sr P w K (.Name x px) (Ny z) [it] it (λi h=>h.IsStrIter it ty z t i/\i<=z.cps.size) where
 mem:=by simp
 obj:=λi h st b hb=>by
  have e:b=it:=by simpa using hb
  subst e
  obtain⟨⟨o,e,c,d⟩,_⟩:=st
  exact⟨o,e,λv z=>by rw[d]at z;cases z⟩
 keep:=λi h h' st k=>by
  obtain⟨⟨o,e,c,d⟩,z⟩:=st
  exact⟨⟨o,k it (by simp) o e,c,d⟩,z⟩
 item:=by
  intro X hP hw hK hc i pins s σ H E I hf st hg
  subst hP hw hK
  obtain⟨f0,f1,f2,f3,f4,f5⟩:=hf it (by simp)
  have hi:i<z.cps.size:=hg
  have fin:∀h':Heap,h'.IsStrIter it ty z t (i+1)->eA it s.heap h'->∃u,some (jm ⟨#[z.cps[i]]⟩ s.toks)=some u/\
    wpAny (aQ X.prog X.w) X.A (jL (.Name x px) (.ref it) u) (λ_ s2=>∃x H',Inv X pins σ H' s2/\RelV x u/\(Ny z).yld i H x H'/\(s2.heap.IsStrIter it ty z t (i+1)/\i+1<=z.cps.size)/\∀b∈[it],H' b=none) E {s with heap:=h',toks:=s.toks+1}:=λh' st' sb=>by
   have I1:Inv X pins σ H {s with heap:=h',toks:=s.toks+1}:=I.turned (λb o hb e=>sb.extBut b o hb e) f0 f1 f3 f4 f5
   exact⟨_,rfl,aq ⟨.str ⟨#[z.cps[i]]⟩,H,I1,⟨_,rfl⟩,⟨rfl,_,by simp[hi],rfl⟩,⟨st',hi⟩,λb hb=>(hf b hb).1⟩⟩
  rcases hty with rfl|rfl
  ·exact wpAny_pyNext_ascii_item st.1 (c:=z.cps[i]) (by simp[hi]) fin
  ·exact wpAny_pyNext_wide_item st.1 (c:=z.cps[i]) (by simp[hi]) fin
 done:=by
  intro X hP hw hK hc i pins s σ H E I hf st hg
  subst hP hw hK
  obtain⟨f0,f1,f2,f3,f4,f5⟩:=hf it (by simp)
  have hi:z.cps.size<=i:=hg
  rcases hty with rfl|rfl
  ·exact wpAny_pyNext_ascii_end (I.ok.hd hc) st.1 (by simpa using hi) λh' eb=>⟨rfl,I.turned (t':=s.toks) (λb o hb e=>eb b o hb e) f0 f1 f3 f4 f5⟩
  ·exact wpAny_pyNext_wide_end (I.ok.hd hc) st.1 (by simpa using hi) λh' eb=>⟨rfl,I.turned (t':=s.toks) (λb o hb e=>eb b o hb e) f0 f1 f3 f4 f5⟩
 self:=λ_ _ _ _ _ st h=>by
  rcases hty with rfl|rfl
  ·exact wpAny_pyIter_striter_ascii st.1 h
  ·exact wpAny_pyIter_striter_wide st.1 h
noncomputable def NZ:V->Option Int->Option Int->Hp->VK->Prop:=λx lo hi H Q=>∃z,x= .str z/\z.length<=aO/\Q (.str (Txt.slice z lo hi)) H
theorem HU:KD X NZ:=by
 intro pins s σ H x v vl vu lo hi sl Q I rx hs pl pu h
 obtain⟨z,rfl,hz,q⟩:=h
 obtain⟨t,rfl⟩:=rx
 obtain⟨l,el1,el2⟩:∃l:Option (Int×Tok),vl=partValue l/\l.map (·.1)=lo:=by
  cases pl with
  |none=>exact⟨none,rfl,rfl⟩
  |int i u=>exact⟨some (i,u),rfl,rfl⟩
 obtain⟨u,eu1,eu2⟩:∃u:Option (Int×Tok),vu=partValue u/\u.map (·.1)=hi:=by
  cases pu with
  |none=>exact⟨none,rfl,rfl⟩
  |int i u=>exact⟨some (i,u),rfl,rfl⟩
 subst el1 eu1 el2 eu2
 refine⟨"str",_,F.slot_str_getitem.lookup,typeIs_str _ _ _,?_⟩
 refine wpAny_getItem_str_slice (l:=l) (u:=u) (st:=none) hs rfl ?_
 exact post_val_or_str ⟨aR (Txt.slice_le z _ _) hz,λt' k=>⟨.str (Txt.slice z (l.map (·.1)) (u.map (·.1))),H,I.tok k,⟨_,rfl⟩,q⟩⟩
theorem qz:∀{ys:List Str} {us:List ae},Vals (ys.map V.str) us->StrsAre us ys
 |[],us,h=>by
  cases us with
  |nil=>exact .nil
  |cons _ _=>cases h
 |y::ys,us,h=>by
  cases us with
  |nil=>cases h
  |cons u us=>
   cases h with
   |cons r t=>
    obtain⟨k,rfl⟩:=(show∃k,u=jm y k from r)
    exact .cons y k (qz t)
noncomputable def Lk(K:PySem.W.Frag):V->List V->Hp->VK->Prop:=λx vs H Q=>∃z p ys,x= .str z/\vs=[.ref p]/\SqL K H p (ys.map V.str)/\(ys.map (·.length)).sum+ys.length*z.length<=16777216/\Q (.str (i8 z ys)) H
theorem FH:Ej X "str.join" (Lk X.K):=by
 intro pins s σ H x xs v us Q I rx rs h
 obtain⟨z,p,ys,rfl,rfl,hq,hz,q⟩:=h
 obtain⟨t,rfl⟩:=rx
 obtain⟨u,rfl,ru⟩:=rs.one
 cases ru
 obtain⟨its,r,pl,_⟩:=I.list hq
 exact join_list pl.isList (by simpa using qz r) hz λt' k=>⟨.str (i8 z ys),H,I.tok k,⟨_,rfl⟩,q⟩
noncomputable def Lm(K:PySem.W.Frag):R2:=λx y H Q=>∃l b xs zs,x= .ref l/\y= .ref b/\SqL K H l xs/\SqL K H b zs/\xs.length+zs.length<=aO/\∀p,H p=none->Q (.ref p) (upd H p (.lst (xs++zs)))
theorem zm:iJ X (dM .Add) (Lm X.K):=by
 intro pins s σ H x y v u Q I rx ry h
 obtain⟨l,b,xs,zs,rfl,rfl,hH,hB,hz,q⟩:=h
 cases rx
 cases ry
 obtain⟨its,r,pl,_⟩:=I.list hH
 obtain⟨its2,r2,pl2,_⟩:=I.list hB
 have l1:=r.length
 have l2:=r2.length
 obtain⟨⟨cls,dd,data,sl⟩,n,ho,hc,hd0,hd⟩:=pl
 obtain⟨⟨cls2,dd2,data2,Em⟩,n2,ho2,hc2,hd02,hd2⟩:=pl2
 simp only at hc hd hc2 hd2
 subst hc hd hc2 hd2
 refine concat_meets ⟨_,ho,rfl⟩ ⟨_,ho2,rfl⟩ noFill_list_add seq_list_add PySem.F.slot_list_add PySem.F.entry_list_add (PySem.F.args_list_add_2 _ _)
  (list_addW l b its.toArray its2.toArray n n2 dd dd2 sl Em (by rw[ax,ax];ac_nf)) ⟨ho,ho2,?_⟩
 have ea:its.toArray++its2.toArray=(its++its2).toArray:=by simp
 rw[ea]
 exact⟨.ref _,_,I.lnew (t':=s.toks) (r.append r2) (by rw[aP];ac_nf),rfl,q _ I.fresh⟩
theorem Ak:iJ X (bV .LtE) (λx y H Q=>∃i j,x= .str i/\y= .str j/\Q (.bl (!(decide (j.cps.toList<i.cps.toList)))) H):=by
 intro pins s σ H x y v u Q I rx ry h
 obtain⟨i,j,rfl,rfl,q⟩:=h
 obtain⟨t,rfl⟩:=rx
 obtain⟨t',rfl⟩:=ry
 exact P.le_str (uQ I q rfl)
noncomputable def HC(i j:Int):Prop:=0<j/\j<=10^30
theorem Ct:iJ X (dM .FloorDiv) (rI HC λi j=> .int (i/j)):=Nk λi j _ _ _ _ _ hc q=>by
 have h0:j≠0:=by have:=hc.1;ac_nf
 refine floordiv_int h0 ?_ (.inl (PyProof.noPylong_of_log2 ?_))
 ·rw[Int.fdiv_eq_ediv_of_nonneg _ (Int.le_of_lt hc.1)];exact q
 ·have h1:j.natAbs≠0:=by ac_nf
  have h2:j.natAbs<2^100:=by
   have h3:=hc.2
   have h4:=hc.1
   have e:(10:Int)^30<2^100:=by decide
   have h5:((j.natAbs:Nat):Int)=j:=by ac_nf
   ac_nf
  have:=(Nat.log2_lt h1).mpr h2
  ac_nf
end
section
variable{P:aJ}{w:aV}{H:Hp}{h h':Heap}{a:Addr}{o:HO}
theorem ObjOk.stands(x:ObjOk P w H h a o):∃u,h.get? a=some u:=by
 cases o with
 |lst xs=>obtain⟨_,_,_,_,e⟩:=x;exact⟨_,e⟩
 |tup xs=>obtain⟨_,_,_,p⟩:=x;obtain⟨u,e,_⟩:=p;exact⟨u,e⟩
 |dK kvs=>obtain⟨_,_,_,_,u,_,_,e,_⟩:=x;exact⟨u,e⟩
 |dT kvs=>obtain⟨_,_,_,_,u,_,_,e,_⟩:=x;exact⟨u,e⟩
 |set S n=>obtain⟨u,_,_,_,e,_⟩:=x;exact⟨u,e⟩
 |ins C dx fs=>obtain⟨_,_,_,e,_⟩:=x;exact⟨_,e⟩
 |own y=>exact x
 |xd fs=>obtain⟨_,⟨u,_,_,e,_⟩,_⟩:=x;exact⟨u,e⟩
 |rng lo hi=>obtain⟨_,_,_,e⟩:=x;exact⟨_,e⟩
 |frz ob u=>obtain⟨e,_⟩:=x;exact⟨ob,e⟩
 |tbl ps=>exact⟨_,x⟩
 |met f y=>exact⟨_,x⟩
 |ext φ=>exact x.2.1
theorem HOk.none_of(x:HOk P w H h)(e:h.get? a=none):H a=none:=by
 cases q:H a with
 |none=>rfl
 |some u=>
  obtain⟨o,z⟩:=(x a u q).stands
  rw[e]at z;cases z
theorem HOk.laidN(x:HOk P w H h)(k:∀b u,h.get? b=some u->h'.get? b=some u)(hn:H a=none)(new:ObjOk P w (upd H a o) h' a o):HOk P w (upd H a o) h':=λb u e=>by
 by_cases hb:b=a
 ·subst hb;rw[cw]at e;cases e;exact new
 ·rw[bD hb]at e
  exact(x b u e).stay (λc v _ q=>k c v q) (λc q=>by rw[bD (cr q hn)];exact q) λc xs q=>by rw[bD (cr q hn)];exact q
theorem Un.laidN{fs ex:List Addr}(k:∀b u,h.get? b=some u->h'.get? b=some u)(hp:h.get? a=none)(hn:H a=none):Un fs ex H (upd H a o) h h' where
 keep:=λb u q _ _ _=>k b u q
 slot:=λb u q _ _ _=>⟨u.slots,k b u q⟩
 free:=λb u q n _=>by rw[bD (λz=>by subst z;rw[hp]at q;cases q)];exact n
 there:=λb u q _=>⟨u,k b u q⟩
 tups:=λb xs q=>by rw[bD (cr q hn)];exact q
 frzs:=λb u xs q=>by rw[bD (cr q hn)];exact q
 tbls:=λb ps q=>⟨#[],by rw[bD (cr q hn),q];simp⟩
end
section
variable{X:Cx}
noncomputable def XAt(e C:Addr)(h:Heap):Prop:=∃ob,h.get? e=some ob/\ob.cls= .ref C
noncomputable def wz(e C:Addr):HO:= .ext (XAt e C)
theorem XAt.stay{e C:Addr}:∀h1 h2:Heap,XAt e C h1->(∀o,h1.get? e=some o->h2.get? e=some o)->XAt e C h2:=λ_ _ ⟨ob,h1,h2⟩ k=>⟨ob,k ob h1,h2⟩
noncomputable abbrev A6:List ae:=[.type "ValueError",.type "Exception",.type "BaseException",.type "object"]
theorem oY{K:PySem.W.Frag}{h:Heap}{C:Addr}{bmB:List ae}{newId:String}(XK:K.In h)(q:PySem.W.excIn K C bmB newId=true):
  ∃bm ns nm qn bs hd sn sub ab col dd k0 k1 k2 k3 k5,∃mN:Str->Option ae,h.get? C=some (excClassObj nm qn C ns bs bm hd sn sub ab col dd k0 k1 k2 k3 k5 newId)/\h.Ns ns mN/\mN "__init__" =none/\OwnTail h bmB bm:=by
 unfold PySem.W.excIn at q
 split at q
 ·rename_i dd cd sl ho
  split at q
  ·rename_i C' bm k0 k1 k2 k3 n k5 hm hs
   simp only[bp,beq_iff_eq,Bool.not_eq_true']at q
   obtain⟨⟨⟨⟨⟨e1,e2⟩,hdel⟩,ht⟩,hok⟩,hni⟩:=q
   subst e1 e2
   obtain⟨nm,bs,mro,ns,qn,hd,sn,sub,ab,col,del⟩:=cd
   dsimp only at hm hdel hok hni
   subst hm hdel
   have hsl:sl= #[k0,k1,k2,k3,some (.builtin n),k5]:=by
    obtain⟨l⟩:=sl
    have hs':l=[k0,k1,k2,k3,some (.builtin n),k5]:=hs
    rw[hs']
   subst hsl
   exact⟨bm,ns,nm,qn,bs,hd,sn,sub,ab,col,dd,k0,k1,k2,k3,k5,_,XK _ _ ho,.of_isNs (PySem.W.isNs_of_in XK hok),PySem.W.nsMap_none_of_in XK hok hni,PySem.W.tail_of_in XK ht⟩
  ·cases q
 ·cases q
theorem qi{M:Model}{e C:Addr}{h:Heap}(p:XAt e C h):PySem.W.Looks M h (typeOf (.ref e)) (.ref C):=by
 obtain⟨ob,h1,h2⟩:=p
 exact h2▸(PySem.W.Looks.ld h1).andThen .now
open Builtin Builtin.ObjectAttr Builtin.Getset_descriptor in
theorem GN{K:PySem.W.Frag}{prog:aJ}{w:aV}{A:Around}{R:Result->ai->Prop}{s:ai}{e C:Addr}{tp:ae}(XK:K.In s.heap)(p:XAt e C s.heap)(hm:PySem.W.mroIn K C (.type "object")=some true)
  (z:R (.ok (.ret (.ref C))) s):codeAny (aQ prog w) A (.call (.builtin "getset_descriptor.__get__") ⟨[.builtin "object.__class__",.ref e,tp],[]⟩) R s:=by
 obtain⟨h0,g0,d0,t0,o0⟩:=s
 have T0:=qi (M:=aQ prog w) p
 have T1:=PySem.W.looks_mroIn (M:=aQ prog w) XK hm
 refine codeAny_call_builtin PySem.W.KF.slot_gs.plain PySem.W.KF.entry_gs (PySem.W.KF.slot_gs.check _ _ _ _ _ _ _ _ PySem.W.KF.type_class (PySem.W.KF.args_gs _ _ _) ?_)
 unfold cu.«getset_descriptor.__get__»
 unfold descrGet
 rw[PySem.W.dga_obj]
 refine aa (aq ?_)
 unfold descrGetter;unfold descrCheckInstance
 unfold descrNameAndClass;unfold isInstance
 simp only[PySem.W.KF.owner_class]
 repeat lk
 refine⟨Code.quiet_builtin _ (by decide+kernel),codeAny_builtin PySem.W.KF.entry_class ?_⟩
 unfold cu.«object.__class__»;unfold shownTypeOf
 repeat lk
 exact z
theorem AR{K:PySem.W.Frag}{prog:aJ}{w:aV}{A:Around}{E:ae->ai->Prop}{Q:Option ae->ai->Prop}{s:ai}{e C:Addr}
  (pg:PySem.W.findIn K (.ref C) "__getattribute__" =some (some (.builtin "BaseException.__getattribute__"))) (pt:PySem.W.findIn K (.ref C) "__getattr__" =some none)
  (hf:∀M:Model,PySem.W.Looks M s.heap (cu.ObjectAttr.find (.ref e) (.ref C) "__class__") (.bind (.builtin "getset_descriptor.__get__") (.builtin "object.__class__")))
  (hm:PySem.W.mroIn K C (.type "object")=some true) (hb:PySem.W.mroIn K C (.type "BaseException")=some true)
  (XK:K.In s.heap) (p:XAt e C s.heap) (k:Q (some (.ref C)) {s with toks:=s.toks+1}):wpAny (aQ prog w) A (getAttr? (.ref e) "__class__") Q E s:=by
 obtain⟨h,g,d,t,os⟩:=s
 have L0:=qi (M:=aQ prog w) p
 have L1:=PySem.W.looks_findIn (M:=aQ prog w) XK pg
 have L2:=PySem.W.looks_findIn (M:=aQ prog w) XK pt
 have L3:=hf (aQ prog w)
 have L4:=PySem.W.looks_mroIn (M:=aQ prog w) XK hb
 have hx2:(kc "BaseException.__getattribute__" ==kc "object.__getattribute__")=false:=by decide+kernel
 have f3:=F.excAttr_ValueError.ga.bind (.ref e)
 unfold getAttr? getAttrBy? getAttrBy
 refine aa (wpAny_mkText (aa (lB (cJ (aa (L0.at (aa (L1.at ?_))))))))
 show wpAny _ _ (if(onTheHeap (.ref C)&&kc "BaseException.__getattribute__" ==kc "object.__getattribute__")=true then _ else _) _ _ _
 rw[hx2,mC,if_neg bz]
 unfold getAttrByItsOwn
 refine aa ?_
 show wpAny _ _ (typeLookup (.ref C) "__getattr__") _ _ _
 refine L2.at ?_
 refine aa (lB (cJ ?_))
 show wpAny _ _ (boundAndCalled _ _ _) _ _ _
 unfold boundAndCalled
 rw[f3]
 refine aa (aq ?_)
 refine wpAny_call (codeAny_call_builtin F.excAttr_ValueError.ga.plain F.entry_bexc_ga ?_)
 have hk:builtinKind "BaseException.__getattribute__" =some .slot:=by decide+kernel
 have hsplit:splitId "BaseException.__getattribute__" =some ("BaseException", "__getattribute__"):=by decide+kernel
 have ha:=F.args_bexc_ga (.ref e) (.str "__class__" t)
 simp only[checkBuiltinCall,hk,hsplit]
 refine aa ?_
 unfold isInstance
 refine aa (L0.at (L4.at ?_))
 rw[if_neg (by decide)]
 refine wpAny_of_eq ha ?_
 show wpAny _ _ (cu.«object.__getattribute__» ⟨[.ref e,.str "__class__" t],[]⟩) _ _ _
 unfold cu.«object.__getattribute__»
 refine aa (wpAny_of_eq (a:=(aE e,[jm "__class__" t])) rfl ?_)
 refine aa (aq ?_)
 refine aa (L0.at (aa (L3.at ?_)))
 show wpAny _ _ (holding [kc "object.__class__"] (call (.builtin "getset_descriptor.__get__") [.builtin "object.__class__",.ref e,.ref C])>>=ret) _ _ _
 refine aa (cJ (wpAny_call (GN XK p hm ?_)))
 exact aq (PySem.W.handed_on rfl (aq k))
structure sA(K:PySem.W.Frag)(C:Addr):Prop where
 pg:PySem.W.findIn K (.ref C) "__getattribute__" =some (some (.builtin "BaseException.__getattribute__"))
 pt:PySem.W.findIn K (.ref C) "__getattr__" =some none
 hb:PySem.W.mroIn K C (.type "BaseException")=some true
 ci:(PySem.W.clsIn K C).isSome=true
 ha:PySem.W.findIn K (.ref C) "__class__" =some (some (.builtin "object.__class__"))
 hn:PySem.W.specialIn K (.builtin "object.__class__") "__get__" =some (some (.builtin "getset_descriptor.__get__"))
 htk:PySem.W.takesIn K (.builtin "object.__class__")=some true
 hm:PySem.W.mroIn K C (.type "object")=some true
theorem wg{K:PySem.W.Frag}{e C:Addr}(Z:sA K C):PySem.W.KitX K (.ref e) (.ref C) (XAt e C) where
 ty:=λ_ _ _ p=>qi p
 it:=λ_ _ XK _=>by
  obtain⟨cd,hc⟩:=jU.mp Z.ci
  unfold PySem.W.clsIn at hc
  split at hc
  ·rename_i ho
   intro A' Q' E' s' k q
   unfold isType loadHead
   exact aa (wpAny_loadPart (k _ _ (XK _ _ ho)) (aq q))
  ·cases hc
 ne:=λh tp dd its n sl XK htp=>by
  obtain⟨cd,hc⟩:=jU.mp Z.ci
  refine Bool.eq_false_iff.mpr λq=> ?_
  have ee:C=tp:=aE.inj (beq_iff_eq.mp q)
  subst ee
  unfold PySem.W.clsIn at hc
  split at hc
  ·rename_i ho
   have z:=(XK _ _ ho).symm.trans htp
   cases z
  ·cases hc
 ca:=fun{prog w A E Q s} XK p k=>AR Z.pg Z.pt (λM=>(PySem.W.looks_findIn XK Z.ha).andThen ((PySem.W.looks_specialIn XK Z.hn).andThen ((show PySem.W.Looks M s.heap (cu.ObjectAttr.dataDescriptor? (some (.builtin "object.__class__")) (some (.builtin "getset_descriptor.__get__"))) (some (_,_))from(PySem.W.looks_takesIn XK Z.htk).andThen .now).andThen (PySem.W.Looks.tag .now)))) Z.hm Z.hb XK p k
noncomputable def KW:V->Option ae
 | .ref a=>some (.ref a)
 | .ty n=>some (.type n)
 |_=>none
theorem nQ:iF X (.builtin "isinstance") (λxs H Q=>∃e C c cv b,xs=[.ref e,c]/\H e=some (wz e C)/\sA X.K C/\KW c=some cv/\PySem.W.kitOne X.K (.ref C) cv=some b/\Q (.bl b) H):=by
 intro pins s σ H xs us Q I rs h
 obtain⟨e,C,c,cv,b,rfl,he,Z,hv,hk,q⟩:=h
 obtain⟨u,v,rfl,ru,rv⟩:=rs.two
 cases ru
 have ev:v=cv:=by
  cases c<;>first
   |(cases hv;exact rv)
   |(exact absurd hv (by simp[KW]))
 subst ev
 have p:XAt e C s.heap:=(I.hok e _ he).1
 exact PySem.W.kia_one (wg Z) I.kIn p hk (λz=>nomatch z) λtk=>⟨.bl b,H,I.tok tk,rfl,q⟩
end
noncomputable def dJ(sc:er)(N:List Str)(scope:er)(M:List Str)(ix:List (Option Nat))(j:Nat)(x:Str):Bool:=
 scope.kind== .function
 &&scope.names.all (λy=>if y.2== .local then scope.names.lookup y.1==some .local else true)
 &&scope.names.all (λy=>y.2 != .cell)
 &&decide M.Nodup
 &&M[j]? ==some x
 &&scope.names.lookup x==some .local
 &&ix[j]? ==some none
 &&ix.length==M.length
 &&scope.names.all (λy=>if y.2== .free then(sc.names.lookup y.1==some .cell||sc.names.lookup y.1==some .free)else true)
 &&(bJ M.length).all (λk=>match M[k]?,ix[k]? with
  |some y,some (some i)=>N[i]? ==some y&&(sc.names.lookup y==some .cell||sc.names.lookup y==some .free)&&scope.names.lookup y==some .free
  |_,_=>true)
theorem DW{sc:er}{N:List Str}{scope:er}{M:List Str}{ix:List (Option Nat)}{j:Nat}{x:Str}(h:dJ sc N scope M ix j x=true):ie sc N scope M ix j x:=by
 unfold dJ at h
 simp only[bp]at h
 obtain⟨⟨⟨⟨⟨⟨⟨⟨⟨h1,h2⟩,h3⟩,h4⟩,h5⟩,h6⟩,h7⟩,h8⟩,h9⟩,h10⟩:=h
 refine⟨beq_iff_eq.mp h1,λy hy e=> ?_,λy hy e=> ?_,of_decide_eq_true h4,beq_iff_eq.mp h5,beq_iff_eq.mp h6,beq_iff_eq.mp h7,beq_iff_eq.mp h8,λy hy e=> ?_,λk y i e1 e2=> ?_⟩
 ·have q:=aS.mp h2 y hy
  rw[e]at q
  exact beq_iff_eq.mp q
 ·have q:=aS.mp h3 y hy
  rw[e]at q
  cases q
 ·have q:=aS.mp h9 y hy
  rw[e]at q
  rcases Bool.or_eq_true_iff.mp q with z|z
  ·exact .inl (beq_iff_eq.mp z)
  ·exact .inr (beq_iff_eq.mp z)
 ·have hk:k<M.length:=(am.mp e1).1
  have q:=aS.mp h10 k (cQ.mpr hk)
  rw[e1,e2]at q
  simp only[bp,Bool.or_eq_true]at q
  obtain⟨⟨q1,q2⟩,q3⟩:=q
  refine⟨beq_iff_eq.mp q1,?_,beq_iff_eq.mp q3⟩
  rcases q2 with z|z
  ·exact .inl (beq_iff_eq.mp z)
  ·exact .inr (beq_iff_eq.mp z)
section
end
section
variable{X:Cx}{scope:er}{M:List Str}{ix:List (Option Nat)}{j:Nat}{x:Str}
theorem EY{elt iter:Expr}{px py pos spos:Pos}{ifs:List Expr}{wi:TI}{tf:TT}{te:TE}{i:Nat}{y:Str}(hN:X.N.Nodup)(hi:X.N[i]? =some y)(hy:X.env.scope.names.lookup y=some .local)
  (S:ie X.env.scope X.N scope M ix j x) (hc:X.calm=true) (hit:PI X (.Name x px) iter wi)
  (hb:∀C s H fp,PF (cb X M scope C s H fp) ifs tf/\PE (cb X M scope C s H fp) elt te)
  (hsw:gQ (.ListComp elt [⟨.Name x px,iter,ifs,0⟩] scope pos) (some (.Name y py)) spos.line X.env=pure true:=by rfl) (hs:∀x,en iter X.env x=pure x:=by intro _;rfl):
  PS X (.Assign [.Name y py] (.ListComp elt [⟨.Name x px,iter,ifs,0⟩] scope pos) spos) (HN (BA wi ix j tf te) (rh i)):=by
 intro pins s σ H D I h
 rw[exec_Assign_Name_used _ _ _ _ hsw]
 refine aa (wpAny_standAt (aa ?_))
 show wpAny _ X.A (do let _ <-comprehension (.ListComp elt [⟨.Name x px,iter,ifs,0⟩] scope pos) scope X.env _ (newList []) false (eval iter X.env) (some (assign (.Name y py) X.env))) _ _ s
 refine aa (bj (lA (use:=some (assign (.Name y py) X.env)) (Q:=λ_ s'=>SP X pins D .next s') rfl hs (jz λy hy e=>I.ok.has y.1 (S.free y hy e)) S.kind S.names
  (bj (hit pins s σ H _ I h) (λxv s₁ h₁=>bj h₁ (λit s₂ h₂=> ?_) λ_ _ e=>e) λ_ _ e=>e)) (λ_ s' hq=>aq (aq hq)) λ_ _ e=>e)
 obtain⟨it,fp,tn,J,H2,rfl,I2,T,st2,f2,q⟩:=h₂
 refine bH (pI S.nocell (by intro y hy;simp at hy) (λh₁ hns₁ hsb₁=> ?_) S.kind)
 dsimp only at hns₁ hsb₁⊢
 have hC:(s₂.heap.push {cls:= .type "list",dict:=none,data:= .seq ([]:List ae).toArray}).objs.size=s₂.heap.objs.size+1:=cS ..
 rw[hC]at hns₁ hsb₁⊢
 have below:∀b,b<s₂.heap.objs.size->b≠s₂.heap.objs.size+1:=λb hb=>aN (dj hb)
 have old:∀b o,s₂.heap.get? b=some o->h₁.get? b=some o:=λb o e=>hsb₁.extBut b o (below b (aB e)) (af _ (af _ e))
 have hD:h₁.get? s₂.heap.objs.size=some {cls:= .type "list",data:= .seq ([]:List ae).toArray 0}:=hsb₁.extBut _ _ (aN (fF _)) (af _ (aK _ rfl))
 have hft:∀b∈fp,b<s₂.heap.objs.size:=λb hb=>by
  obtain⟨o,e,_⟩:=T.obj 0 s₂.heap st2 b hb
  exact aB e
 have I0:=(mh (h1:=h₁) S I2 f2 hft old hD hns₁).tok s₂.toks
 have hfr:H2 s₂.heap.objs.size=none:=I2.hok.fresh (ao _)
 have loop:codeAny (aQ X.prog X.w) X.A (.compLoop (.ListComp elt [⟨.Name x px,iter,ifs,0⟩] scope pos) 0 (.ref it) (.ref s₂.heap.objs.size) (compEnvC scope (lF X.env.cells scope.names []) (s₂.heap.objs.size+1) X.env))
   (compPost (aQ X.prog X.w) X.A X.xe (some (assign (.Name y py) X.env)) (λ_ s'=>SP X pins D .next s') (.ref s₂.heap.objs.size) (s₂.heap.objs.size+1)) {s₂ with heap:=h₁,toks:=s₂.toks}:=by
  refine rG (Q:=λv H'=>rh i v σ H' D.nx) S hc I2 (hb _ _ _ _).1 (hb _ _ _ _).2 T st2 f2 I0 old (q _ hfr) λH' s' I' qq=> ?_
  show wpAny _ X.A (assign (.Name y py) X.env (.ref s₂.heap.objs.size)) _ _ s'
  have J1:Inv X pins σ H' s':=rF (h':=s'.heap) I2 (gu _) f2 I' (.refl ..)
  obtain⟨m,hn,_⟩:=I'.loc
  obtain⟨oC,es,ep,hoC,hd,hrest⟩:=id hn
  have nL:s₂.heap.objs.size+1≠X.env.locals:=iC (dj I2.lt)
  have nF:s₂.heap.objs.size+1∉X.fs:=I2.nofs (gu _)
  have hHC:H' (s₂.heap.objs.size+1)=none:=I'.free
  have J2:Inv X (pins++[(s₂.heap.objs.size+1,oC)]) σ H' s':=J1.pins_of λp hp=>(bo.mp hp).elim (λz=>J1.pin p (aY _ z)) λz=>by
   have e:p=(s₂.heap.objs.size+1,oC):=aA.mp z
   subst e
   exact⟨hoC,hHC,nL,nF,λv z=>by rw[hd]at z;cases z⟩
  refine wpAny_assign_Name (kD (v:= .ref s₂.heap.objs.size) J2 hN hi (.inl hy) rfl (λs'' J3=> ?_) (.inr hy))
  have hoC2:s''.heap.get? (s₂.heap.objs.size+1)=some oC:=(J3.pin (s₂.heap.objs.size+1,oC) (aY _ (aY _ (aA.mpr rfl)))).1
  refine⟨m,⟨oC,es,ep,hoC2,hd,hrest⟩,λh' hb'=> ?_⟩
  have J4:Inv X pins (σ.set i (some (.ref s₂.heap.objs.size))) H' s'':=J3.unpinned
  refine⟨_,H',J4.turned (t':=s''.toks) (it:=s₂.heap.objs.size+1) (λb o hne e=>hb'.extBut b o hne e) hHC nL (.inr (aR I2.sz (gu _))) (λz c e1 e2=> ?_) (λp hp e2=> ?_),qq⟩
  ·obtain⟨v,qc⟩:=I2.cell z c e1
   have:=qc.lt
   rw[e2]at this
   exact absurd (Nat.lt_of_succ_lt this) (c7 _)
  ·have:=aB (I2.pin p hp).1
   rw[e2]at this
   exact absurd (Nat.lt_of_succ_lt this) (c7 _)
 exact nN loop (T.self _ 0 _ _ _ (T.keep 0 _ _ st2 λb _ o e=>old b o e) loop)
end
end L2
namespace HT
open PySem PyProof.Rows
section
variable{prog:aJ}{w:aV}{A:Around}{E:ae->ai->Prop}{s:ai}
theorem yn(n:Nat):dY none none (-1) (n:Int)=((n:Int)-1,-1):=rfl
theorem xE(n:Nat):bZ ((n:Int)-1) (-1) (-1)=n:=by
 unfold bZ
 rw[if_neg (by decide)]
 by_cases h:((n:Int)-1> -1)
 ·rw[if_pos h,show(-(-1:Int))=1 from rfl,Int.ediv_one]
  ac_nf
 ·rw[if_neg h]
  ac_nf
theorem oA{sl:Addr}{t:Tok}{n:Nat}{Q:Int×Int×Nat->ai->Prop}(hs:s.heap.IsSliceOf sl .none .none (.int (-1) t))(h:Q ((n:Int)-1,-1,n) s):
  wpAny (aQ prog w) A (fK (.ref sl) (pure (n:Int))) Q E s:=by
 obtain⟨os,hos,hcs,hds⟩:=id hs
 unfold fK pE
 refine aa (aa (bG hos hds (x:= .none) rfl (aa (bG hos hds (x:= .none) rfl (aa (bG hos hds (x:= .int (-1) t) rfl (aq ?_)))))))
 refine aa (iZ (.int (-1) t) ?_)
 show wpAny _ _ (if((-1:Int)==0)=true then _ else _) _ _ s
 rw[if_neg (by decide)]
 refine aa (iZ .none (aa (iZ .none (aa (aq ?_)))))
 show wpAny _ _ (match dY none none (-1) (n:Int)with|(lo,hi)=>pure (lo,(-1:Int),bZ lo hi (-1))) _ _ s
 rw[yn n]
 show wpAny _ _ (pure ((n:Int)-1,(-1:Int),bZ ((n:Int)-1) (-1) (-1))) _ _ s
 rw[xE]
 exact aq h
theorem pick_rev(xs:Array ae):((bJ xs.size).filterMap fun(m:Nat)=>xs[(((xs.size:Nat):Int)-1+(m:Int)*(-1)).toNat]?).toArray=xs.toList.reverse.toArray:=by
 congr 1
 have e:∀k,k<=xs.size->((bJ k).filterMap fun(m:Nat)=>xs[(((xs.size:Nat):Int)-1+(m:Int)*(-1)).toNat]?)=xs.toList.reverse.take k:=by
  intro k
  induction k with
  |zero=>intro _;rfl
  |succ k ih=>
   intro hk
   have hlt:xs.size-1-k<xs.size:=by ac_nf
   have e1:(((xs.size:Nat):Int)-1+(k:Int)*(-1)).toNat=xs.size-1-k:=by ac_nf
   rw[List.range_succ,List.filterMap_append,ih (by ac_nf),bB]
   congr 1
   have hl:k<xs.toList.reverse.length:=by simp;ac_nf
   have g:xs.toList.reverse[k]? =some xs[xs.size-1-k]:=by
    rw[List.getElem?_reverse (by simpa using(show k<xs.size by ac_nf))]
    simp[hlt]
   rw[g]
   have gg:xs[(((xs.size:Nat):Int)-1+(k:Int)*(-1)).toNat]? =some xs[xs.size-1-k]:=by rw[e1];simp[hlt]
   rw[gM,gg]
   rfl
 have:=e xs.size (ao _)
 rw[this,im (by simp)]
theorem getItem_tuple_rev{t sl:Addr}{items:Array ae}{k:Tok}{Q:ae->ai->Prop}(ht:IsTup s.heap t items)(hs:s.heap.IsSliceOf sl .none .none (.int (-1) k))
  (h:Q (.ref s.heap.objs.size) {s with heap:=s.heap.push {cls:= .type "tuple",data:= .seq items.toList.reverse.toArray}})
  (hsz:items.size<=aO):wpAny (aQ prog w) A (iO (.ref t) (.ref sl)) Q E s:=by
 have hsize:sizeOk (.seq items.toList.reverse.toArray):=by
  show items.toList.reverse.toArray.size<=aO
  rw[ax,dW,bu]
  exact hsz
 obtain⟨os,hos,hcs,hds⟩:=id hs
 have hTs:s.TypeIs (.ref sl) "slice" :=⟨os,hos,hcs⟩
 unfold iO
 try with_reducible refine cJ ?_
 first|refine aa (aq ?_)|skip
 refine aa (ub ht.typeIs (by decide) ?_)
 refine aa (cF (name:=aF "__getitem__") ht.typeIs bw
  (cY bw ht.typeIs rA ?_ (sk _ _)))
 show wpAny _ _ (iN (.ref t)>>=_) _ _ s
 refine aa (tupleItemsOf_ ht ?_)
 refine aa (gP hTs ?_)
 rw[if_pos (by decide)]
 refine aa (oA hs ?_)
 show wpAny _ _ (if((((items.size:Nat):Int)-1)==0&&(-1:Int)==1&&items.size==items.size)=true then _ else _) _ _ s
 rw[if_neg (by intro q;rw[bp,bp]at q;exact absurd q.1.2 (by decide)),pick_rev]
 first
  |exact aa (m:=ck _) (bH (aq ⟨_,rfl,aq h⟩) hsize)
  |exact aa (m:=ck _) (bH (aa (aq (aq ⟨_,rfl,aq h⟩))) hsize)
  |exact aa (aa (m:=ck _) (bH (aq (aq ⟨_,rfl,aq h⟩)) hsize))
  |exact aa (aa (m:=ck _) (bH (aq ⟨_,rfl,aq h⟩) hsize))
end
end HT
namespace L2
open PySem PySem.Spec PyProof.Rows
section
end
end L2
namespace PySem
open Sem (wp)
open Builtin Builtin.List Builtin.Tuple
namespace AutoSeq1
set_option maxRecDepth 8000 in
theorem extend_tup(l:Addr)(items:Array ae)(n:Nat)(b:Addr)(items2:Array ae)(n2:Nat)(dd:Option Addr)(sl:Array (Option ae))(c0:¬(!items.isEmpty&&dC (items.size+items2.size))=true)(c1:items.size<=aO)(c2:items.size+items2.size<=aO+1):
  Meets (cu.«list.extend» ⟨[.ref l,.ref b],[]⟩) (λ_ R s=>s.heap.get? l=some {cls:= .type "list",dict:=none,data:= .seq items n,slots:= #[]}/\s.heap.get? b=some ⟨.type "tuple",dd,.seq items2 n2,sl⟩/\R (.ok (.ret br)) {s with heap:=s.heap.update l (c9 λx=>x++items2)}):=
 .of_wp λprog w A R s h=>by
  obtain⟨hp,g,d,tk,os⟩:=s
  obtain⟨hl,hb,h⟩:=h
  have f1:=idx_int
  have f2:=sub_tuple_tuple
  have f3:=sub_list_list
  have f4:=sub_tuple_list
  have f5:=sub_list_tuple
  have big:(items++items2).size<=aO+1:=by rw[Array.size_append];exact c2
  wp_walk using(ii hl rfl (hz:=c1) (_hz':=big)),jI hl,jI hb
  exact⟨_,rfl,h⟩
end AutoSeq1
end PySem
namespace L2
open PySem PySem.Spec PyProof.Rows
section
variable{X:Cx}
noncomputable def B8(K:PySem.W.Frag):V->List V->Hp->VK->Prop:=λx vs H Q=>∃l b xs zs,x= .ref l/\vs=[.ref b]/\H l=some (.lst xs)/\SqT K H b zs/\xs.length+zs.length<=aO/\Q .non (upd H l (.lst (xs++zs)))
theorem xQ:Nw X "list.extend" (B8 X.K):=by
 intro pins s σ H x vs v us Q I rx rv h
 obtain⟨l,b,xs,zs,rfl,rfl,hH,hB,hz,q⟩:=h
 cases rx
 obtain⟨u,rfl,ru⟩:=rv.one
 cases ru
 obtain⟨z,its,n,r,hl,e⟩:=I.lstM hH
 obtain⟨its2,r2,tp,hz2⟩:=I.tuple hB
 have hl2:=r2.length
 obtain⟨⟨cls,dd,data,sl⟩,ho,hc,n2,hd⟩:=tp
 simp only at hc hd
 subst hc hd
 have hsz:its.toArray.size+its2.toArray.size<=aO:=by rw[ax,ax];ac_nf
 have hlong:¬(!its.toArray.isEmpty&&dC (its.toArray.size+its2.toArray.size))=true:=by
  rw[qO hsz,mC]
  exact bz
 refine nO F.slot_list_extend ⟨_,e,rfl⟩ F.entry_list_extend (F.args_list_extend_2 _ _) (AutoSeq1.extend_tup l its.toArray n b its2.toArray n2 dd sl hlong (by rw[ax];ac_nf) (by ac_nf)) ⟨e,ho,?_⟩
 refine⟨.non,_,I.lset (t':=s.toks) (its':=its++its2) hH e (by simp) (r.append r2) ?_,rfl,q⟩
 rw[aP]
 ac_nf
end
section
variable{κ:Type}[DecidableEq κ]
noncomputable def pJ(kvs:List (κ×V))(k:κ):Option V:=(kvs.find? λkv=>decide (kv.1=k)).map (·.2)
noncomputable def kj(kvs:List (κ×V))(k:κ)(v:V):List (κ×V):=
 if(kvs.any λkv=>decide (kv.1=k))=true then kvs.map (λkv=>if kv.1=k then(kv.1,v)else kv)else kvs++[(k,v)]
theorem mH{p:κ×V}{r:List (κ×V)}{k:κ}(e:p.1=k):pJ (p::r) k=some p.2:=by simp[pJ,eU,e]
theorem mI{p:κ×V}{r:List (κ×V)}{k:κ}(e:¬p.1=k):pJ (p::r) k=pJ r k:=by simp[pJ,eU,e]
theorem vp(k:κ):∀kvs:List (κ×V),(kvs.any λkv=>decide (kv.1=k))=(pJ kvs k).isSome
 |[]=>rfl
 |p::r=>by
  rw[cR]
  by_cases e:p.1=k
  ·simp only[mH e,decide_eq_true e,Bool.true_or,Option.isSome_some]
  ·rw[mI e,decide_eq_false e,Bool.false_or];exact vp k r
theorem kN(kvs:List (κ×V))(k:κ)(v:V):(kj kvs k v).length<=kvs.length+1:=by
 unfold kj
 split
 ·rw[ak];ac_nf
 ·rw[aP,aU,List.length_nil];ac_nf
theorem RelO.isSome_eq{o:Option V}{u:Option ae}(r:RelO o u):o.isSome=u.isSome:=by
 cases o with
 |none=>cases u with
  |none=>rfl
  |some _=>exact(show False from r).elim
 |some _=>cases u with
  |none=>exact(show False from r).elim
  |some _=>rfl
theorem RelO.getD{o:Option V}{u:Option ae}{d:V}{d':ae}(r:RelO o u)(rd:RelV d d'):RelV (o.getD d) (u.getD d'):=by
 cases o with
 |none=>cases u with
  |none=>exact rd
  |some _=>exact(show False from r).elim
 |some _=>cases u with
  |none=>exact(show False from r).elim
  |some _=>exact r
theorem KV.val{kvs:List (κ×V)}{vs:List (κ×ae)}(r:KV kvs vs)(k:κ):RelO (pJ kvs k) (valueAt vs k):=by
 unfold KV at r
 induction r with
 |nil=>exact cE
 | @cons p q ps qs h t ih=>
  obtain⟨h1,h2⟩:=h
  by_cases e:p.1=k
  ·have e':q.1=k:=h1.symm.trans e
   have b:valueAt (q::qs) k=some q.2:=by simp[valueAt,eU,e']
   rw[mH e,b];exact h2
  ·have e':¬q.1=k:=λz=>e (h1.trans z)
   have b:valueAt (q::qs) k=valueAt qs k:=by simp[valueAt,eU,e']
   rw[mI e,b];exact ih
theorem KV.any{kvs:List (κ×V)}{vs:List (κ×ae)}(r:KV kvs vs)(k:κ):(kvs.any λkv=>decide (kv.1=k))=vs.any λkv=>decide (kv.1=k):=by
 unfold KV at r
 induction r with
 |nil=>rfl
 |cons h t ih=>rw[cR,cR,ih,h.1]
theorem KV.repl{kvs:List (κ×V)}{vs:List (κ×ae)}(r:KV kvs vs)(k:κ){y:V}{u:ae}(ry:RelV y u):
  KV (kvs.map λkv=>if kv.1=k then(kv.1,y)else kv) (vs.map λkv=>if kv.1=k then(kv.1,u)else kv):=by
 unfold KV at r⊢
 induction r with
 |nil=>exact .nil
 | @cons p q ps qs h t ih=>
  rw[aw,aw]
  refine .cons ?_ ih
  obtain⟨h1,h2⟩:=h
  by_cases e:p.1=k
  ·rw[if_pos e,if_pos (h1.symm.trans e)];exact⟨h1,ry⟩
  ·rw[if_neg e,if_neg (λz=>e (h1.trans z))];exact⟨h1,h2⟩
theorem KV.put{kvs:List (κ×V)}{vs:List (κ×ae)}(r:KV kvs vs)(k:κ){y:V}{u:ae}(ry:RelV y u):KV (kj kvs k y) (stored vs k u):=by
 unfold kj stored
 rw[r.any k]
 by_cases e:(vs.any λkv=>decide (kv.1=k))=true
 ·rw[if_pos e,if_pos e];exact r.repl k ry
 ·rw[if_neg e,if_neg e];exact Paired.snoc r ⟨rfl,ry⟩
theorem KV.keys{kvs:List (κ×V)}{vs:List (κ×ae)}(r:KV kvs vs):kvs.map (·.1)=vs.map (·.1):=by
 unfold KV at r
 induction r with
 |nil=>rfl
 |cons h t ih=>rw[aw,aw,ih,h.1]
theorem KV.length{kvs:List (κ×V)}{vs:List (κ×ae)}(r:KV kvs vs):kvs.length=vs.length:=Paired.length r
end
theorem wk{P:aJ}{w:aV}{k:Key}{u:ae}(r:RelV (kV k) u):(mixKind P w).is k u=true:=by
 cases k with
 |inl i=>obtain⟨t,e⟩:=(show∃t,u=dO i t from r);subst e;exact v9 P w i t
 |inr x=>obtain⟨t,e⟩:=(show∃t,u=jm x t from r);subst e;exact v8 P w x t
theorem tD{P:aJ}{w:aV}:∀{ks:List Key} {us:List ae},Vals (ks.map kV) us->ItemsAre (mixKind P w) ks us
 |[],_,r=>by rw[jo]at r;cases r;exact .nil
 |k::ks,_,r=>by
  rw[aw]at r
  cases r with
  |cons h t=>exact .cons (wk h) (tD t)
noncomputable abbrev KT(H:Hp):List (List Key×V)->List (List Key×Addr×ae)->Prop:=Paired λp q=>p.1=q.1/\H q.2.1=some (.tup (p.1.map kV))/\RelV p.2 q.2.2
theorem KT.val{H:Hp}{kvs:List (List Key×V)}{xs:List (List Key×Addr×ae)}(r:KT H kvs xs)(k:List Key):RelO (pJ kvs k) ((atKey xs k).map (·.2)):=by
 induction r with
 |nil=>exact cE
 | @cons p q ps qs h t ih=>
  obtain⟨h1,_,h2⟩:=h
  by_cases e:p.1=k
  ·have e':q.1=k:=h1.symm.trans e
   have b:atKey (q::qs) k=some q.2:=by simp[atKey,eU,e']
   rw[mH e,b];exact h2
  ·have e':¬q.1=k:=λz=>e (h1.trans z)
   have b:atKey (q::qs) k=atKey qs k:=by simp[atKey,eU,e']
   rw[mI e,b];exact ih
theorem KT.repl{H:Hp}{kvs:List (List Key×V)}{xs:List (List Key×Addr×ae)}(r:KT H kvs xs)(k:List Key){y:V}{u:ae}(ry:RelV y u):
  KT H (kvs.map λkv=>if kv.1=k then(kv.1,y)else kv) (xs.map (putAt k u)):=by
 induction r with
 |nil=>exact .nil
 | @cons p q ps qs h t ih=>
  rw[aw,aw]
  refine .cons ?_ ih
  obtain⟨h1,h2,h3⟩:=h
  unfold putAt
  by_cases e:p.1=k
  ·rw[if_pos e,if_pos (h1.symm.trans e)];exact⟨h1,h2,ry⟩
  ·rw[if_neg e,if_neg (λz=>e (h1.trans z))];exact⟨h1,h2,h3⟩
theorem KT.put{H:Hp}{kvs:List (List Key×V)}{xs:List (List Key×Addr×ae)}(r:KT H kvs xs)(k:List Key){b:Addr}{y:V}{u:ae}(hb:H b=some (.tup (k.map kV)))(ry:RelV y u):
  KT H (kj kvs k y) (storedH xs k b u):=by
 have e:(kvs.any λkv=>decide (kv.1=k))=(atKey xs k).isSome:=by
  rw[vp,(r.val k).isSome_eq,Option.isSome_map]
 unfold kj storedH
 rw[e]
 by_cases q:(atKey xs k).isSome=true
 ·rw[if_pos q,if_pos q];exact r.repl k ry
 ·rw[if_neg q,if_neg q];exact Paired.snoc r ⟨rfl,hb,ry⟩
theorem KT.keeps{H H':Hp}{kvs:List (List Key×V)}{xs:List (List Key×Addr×ae)}(r:KT H kvs xs)(ht:∀b ys,H b=some (.tup ys)->H' b=some (.tup ys)):KT H' kvs xs:=
 Paired.mapP r λ_ _ z=>⟨z.1,ht _ _ z.2.1,z.2.2⟩
section
variable{P:aJ}{w:aV}{H:Hp}{h:Heap}{a:Addr}
theorem Hi{u:HO}(ok:HOk P w H h)(e:Rd H a u):ObjOk P w H h a u:=e.ok ok
theorem pA{kvs:List (Key×V)}(ok:HOk P w H h)(e:Rd H a (.dK kvs)):kvs.length<=aO/\(a==eR)=false/\∃vs,KV kvs vs/\h.DictOf (mixKind P w) a vs:=
 show ObjOk P w H h a (.dK kvs)from Hi ok e
theorem DU{kvs:List (Key×V)}(ok:HOk P w H h)(e:H a=some (.dK kvs)):kvs.length<=aO/\(a==eR)=false/\∃vs,KV kvs vs/\h.DictOf (mixKind P w) a vs:=pA ok (.inl e)
theorem uF{ks:List Key}(ok:HOk P w H h)(e:H a=some (.tup (ks.map kV))):(tupleKind (mixKind P w)).is h ks a:=by
 obtain⟨_,its,r,o,h1,h2,n,h3⟩:=(show ObjOk P w H h a (.tup (ks.map kV))from ok a _ e)
 exact⟨o,its.toArray,n,h1,h2,h3,by simpa using tD r⟩
theorem wA{kvs:List (List Key×V)}(ok:HOk P w H h)(e:Rd H a (.dT kvs)):kvs.length<=aO/\(a==eR)=false/\
  ∃xs,KT H kvs xs/\h.DictOfH (tupleKind (mixKind P w)) a xs:=by
 obtain⟨z,y,xs,r,o,es,ep,h1,h2,h3,h4,h5⟩:=(show ObjOk P w H h a (.dT kvs)from Hi ok e)
 refine⟨z,y,xs,r,o,es,ep,h1,h2,h3,h4,λx hx=> ?_,h5⟩
 have all:∀{l:List (List Key×V)} {m:List (List Key×Addr×ae)},KT H l m->∀x∈m,(tupleKind (mixKind P w)).is h x.1 x.2.1:=by
  intro l m q
  induction q with
  |nil=>intro x hx;exact nomatch hx
  | @cons p q ps qs hq t ih=>
   intro x hx
   rcases aI.mp hx with e|hx
   ·subst e
    exact uF ok (by rw[<-hq.1];exact hq.2.1)
   ·exact ih x hx
 exact all r x hx
theorem MV{kvs:List (List Key×V)}(ok:HOk P w H h)(e:H a=some (.dT kvs)):kvs.length<=aO/\(a==eR)=false/\
  ∃xs,KT H kvs xs/\h.DictOfH (tupleKind (mixKind P w)) a xs:=wA ok (.inl e)
end
noncomputable def Ek(H:Hp)(a:Addr)(y:V)(r:Option V):Prop:=
 (∃kvs k,Rd H a (.dK kvs)/\y=kV k/\r=pJ kvs k)\/∃kvs k b,Rd H a (.dT kvs)/\y= .ref b/\H b=some (.tup (k.map kV))/\r=pJ kvs k
noncomputable def DPut(H:Hp)(a:Addr)(y v:V)(H':Hp):Prop:=
 (∃kvs k,H a=some (.dK kvs)/\y=kV k/\kvs.length<aO/\H'=upd H a (.dK (kj kvs k v)))\/
 ∃kvs k b,H a=some (.dT kvs)/\y= .ref b/\H b=some (.tup (k.map kV))/\kvs.length<aO/\H'=upd H a (.dT (kj kvs k v))
theorem DPut.k{H:Hp}{a:Addr}{kvs:List (Key×V)}{k:Key}{v:V}(e:H a=some (.dK kvs))(hl:kvs.length<aO):DPut H a (kV k) v (upd H a (.dK (kj kvs k v))):= .inl ⟨kvs,k,e,rfl,hl,rfl⟩
section
variable{X:Cx}{pins:List (Addr×Obj)}{σ:St}{H:Hp}{s:ai}{a:Addr}{y v:V}{u r:ae}{o:Option V}{A:Around}{E:ae->ai->Prop}
theorem Inv.big(I:Inv X pins σ H s):eR<s.heap.objs.size:=by
 have h:bO<s.heap.objs.size:=(I.mod.glob.keeps I.bk).lt
 exact Nat.lt_trans (by decide) h
theorem AU{Q:ae->ai->Prop}(hu:A.units+1<iG)(I:Inv X pins σ H s)(g:Ek H a y (some v))(ry:RelV y u)(h:∀w' s',Inv X pins σ H s'->RelV v w'->Q w' s'):
  wpAny (aQ X.prog X.w) A (iO (.ref a) u) Q E s:=by
 rcases g with⟨kvs,k,e,ey,l⟩|⟨kvs,k,b,e,ey,eb,l⟩
 ·subst ey
  obtain⟨z,hd,vs,rel,dd⟩:=pA I.hok e
  obtain⟨w',hw,rw'⟩:=RelO.some_of (v:=v) (o:=valueAt vs k) (by rw[l];exact rel.val k)
  exact wpAny_getItem_of (wk ry) dd.mapOf hw (h w' _ (I.tok _) rw')
 ·subst ey
  cases (show u=aE b from ry)
  obtain⟨z,hd,xs,rel,dd⟩:=wA I.hok e
  obtain⟨w',hw,rw'⟩:=RelO.some_of (v:=v) (o:=(atKey xs k).map (·.2)) (by rw[l];exact rel.val k)
  obtain⟨p,hp,hp2⟩:=Option.map_eq_some_iff.mp hw
  refine wpAny_getItem_heap (rV hu) (uF I.hok eb) dd hp ?_
  rw[hp2]
  exact h w' _ (I.tok _) rw'
theorem nH{h':Heap}{t':Nat}{ob:HO}(I:Inv X pins σ H s)(mu:Ng (H a))(hs:eA a s.heap h')(he:∃q,h'.get? a=some q)(new:ObjOk X.prog X.w (upd H a ob) h' a ob):
  Inv X pins σ (upd H a ob) {s with heap:=h',toks:=t'}:=
 I.write (x:=a) (e:=a) mu (.inl rfl) (λb q hb z=>(hs.2 b hb).trans z) he new
theorem uW{P:aJ}{w:aV}{H':Hp}{h':Heap}{kvs:List (Key×V)}{vs:List (Key×ae)}(z:kvs.length<=aO)(hd:(a==eR)=false)(rel:KV kvs vs)(dd:h'.DictOf (mixKind P w) a vs):
  ObjOk P w H' h' a (.dK kvs):=⟨z,hd,vs,rel,dd⟩
theorem AS{H':Hp}{Q:Unit->ai->Prop}(hu:A.units+1<iG)(I:Inv X pins σ H s)(g:DPut H a y v H')(ry:RelV y u)(rv:RelV v r)(h:∀s',Inv X pins σ H' s'->Q () s'):
  wpAny (aQ X.prog X.w) A (setItem (.ref a) u r) Q E s:=by
 rcases g with⟨kvs,k,e,ey,l,eH⟩|⟨kvs,k,b,e,ey,eb,l,eH⟩
 ·subst ey eH
  obtain⟨z,hd,vs,rel,dd⟩:=DU I.hok e
  have hz:vs.length<=aO:=by rw[<-rel.length];exact z
  have hl:(kj kvs k v).length<=aO:=by have:=kN kvs k v;ac_nf
  refine wpAny_setItem_pairs (hsz:=hz) (wk ry) dd λh' dd' hs=>h _ ?_
  have he:∃q,h'.get? a=some q:=let⟨q,_,_,hq,_⟩:=dd';⟨q,hq⟩
  exact nH I (by rw[e];exact cE) hs he (uW hl hd (rel.put k rv) dd')
 ·subst ey eH
  cases (show u=aE b from ry)
  obtain⟨z,hd,xs,rel,dd⟩:=MV I.hok e
  have hz:xs.length<=aO:=by rw[<-Paired.length rel];exact z
  have hl:(kj kvs k v).length<=aO:=by have:=kN kvs k v;ac_nf
  refine wpAny_setItem_heap (hsz:=hz) (rV hu) (uF I.hok eb) dd λh' dd' hs=>h _ ?_
  obtain⟨q,es,ep,hq,h2,h3,h4,_,h5⟩:=dd'
  refine nH I (by rw[e];exact cE) hs ⟨q,hq⟩ ⟨hl,hd,_,(rel.put k eb rv).keeps λc ys ec=> ?_,q,es,ep,hq,h2,h3,h4,h5⟩
  rw[bD (LJ ec e (λz=>nomatch z))]
  exact ec
end
section
end
noncomputable def KG(i:Expr):Prop:=∀ov iv,subscripted i false ov iv=operate [ov,iv] (iO ov iv)
theorem Ez{prog:aJ}{w:aV}{A:Around}{E:ae->ai->Prop}{s:ai}{env:Env}{value slice:Expr}{pos:Pos}{T id:String}{Q:ae->ai->Prop}
  (hl:typeLookup (.type T) "__getitem__" =pure (some (.builtin id))) (hs:KG slice)
  (h:wpAny (aQ prog w) A (eval value env) (λo s₁=>wpAny (aQ prog w) A (eval slice env) (λi s₂=>s₂.TypeIs o T/\wpAny (aQ prog w) A (iO o i) Q E s₂) E s₁) E s):
  wpAny (aQ prog w) A (eval (.Subscript value slice pos) env) Q E s:=by
 refine Subscript_ (bj h (λo s₁ h₁=>bj h₁ (λi s₂ h₂=> ?_) λ_ _ x=>x) λ_ _ x=>x)
 obtain⟨hT,h₂⟩:=h₂
 unfold subscriptTail
 refine aa ?_
 rw[getitemInPython_of_ne hT.not_modules]
 refine aa (wpAny_specialOf hT hl ?_)
 have fin:wpAny (aQ prog w) A (subscripted slice false o i) (λr s₃=>wpAny (aQ prog w) A (letTemporaryGo value o r>>=λ_=>pure r) Q E s₃) E s₂:=by
  rw[hs o i]
  exact wpAny_operating (bj h₂ (λr s₃ h₃=>aa (wpAny_letTemporaryGo (aq h₃))) λ_ _ x=>x)
 first
  |exact aq (aa fin)
  |exact aa (aq (aa fin))
  |exact aa fin
theorem wD{X:Cx}{pins:List (Addr×Obj)}{σ:St}{H:Hp}{s:ai}{a:Addr}{y:V}{o:Option V}(I:Inv X pins σ H s)(g:Ek H a y o):s.TypeIs (.ref a) "dict" :=by
 rcases g with⟨kvs,k,e,_,_⟩|⟨kvs,k,b,e,_,_,_⟩
 ·obtain⟨_,_,vs,_,dd⟩:=pA I.hok e
  exact dd.typeIs
 ·obtain⟨_,_,xs,_,dd⟩:=wA I.hok e
  exact dd.typeIs
noncomputable def Lb(td ty:TE):TE:=λσ H Q=>td σ H λx H1=>ty σ H1 λy H2=>∃a v,x= .ref a/\Ek H2 a y (some v)/\Q v H2
section
variable{X:Cx}{o i:Expr}{pos:Pos}{td ty:TE}
theorem Fh(hu:X.A.units+1<iG)(ho:PE X o td)(hi:PE X i ty)(hs:KG i):PE X (.Subscript o i pos) (Lb td ty):=by
 intro pins s σ H Q I h
 refine Ez PySem.F.slot_dict_getitem.lookup hs (eD (ho pins s σ H _ I h) λu s1 ⟨x,H1,I1,rx,q1⟩=>eD (hi pins s1 σ H1 _ I1 q1) λiv s2 ⟨y,H2,I2,ry,a,v,ex,g,q2⟩=> ?_)
 subst ex
 obtain rfl:u=aE a:=rx
 exact⟨wD I2 g,AU hu I2 g ry λw' s3 I3 rw'=>⟨v,H2,I3,rw',q2⟩⟩
end
theorem wC{P:aJ}{w:aV}{H:Hp}(h:Heap)(hb:eR<h.objs.size):ObjOk P w H (h.push {cls:= .type "dict",data:= .dict #[]}) h.objs.size (.dK []):=
 ⟨bt _,beq_eq_false_iff_ne.mpr (aG (aN hb)),[],.nil,Heap.DictOf.new h⟩
noncomputable def HL:TE:=λ_ H Q=>∀p,H p=none->Q (.ref p) (upd H p (.dK []))
section
variable{X:Cx}{pos:Pos}
theorem Cn:PE X (.Dict [] [] pos) HL:=λpins s σ H Q I h=>
 wpAny_Dict_empty ⟨.ref s.heap.objs.size,_,I.laid (a:=s.heap.objs.size) (o:= .dK []) (t':=s.toks) (λ_ _ q=>af _ q) (ao _) (wC s.heap I.big),rfl,h _ (I.hok.fresh (ao _))⟩
end
noncomputable def xo:List (TE×TE)->St->Hp->(List (V×V)->Hp->Prop)->Prop
 |[],_,H,Q=>Q [] H
 |(tk,tv)::r,σ,H,Q=>tk σ H λx H1=>tv σ H1 λy H2=>xo r σ H2 λps H3=>Q ((x,y)::ps) H3
noncomputable abbrev VV:List (V×V)->List (ae×ae)->Prop:=Paired λp q=>RelV p.1 q.1/\RelV p.2 q.2
noncomputable def Nt(X:Cx)(pos:Pos)(keys:List (Option Expr))(values:List Expr)(bc:List (TE×TE)):Prop:=
 ∀(pins:List (Addr×Obj)) (s:ai) (σ:St) (H:Hp) (Q:List (V×V)->Hp->Prop),Inv X pins σ H s->xo bc σ H Q->
  wpAny (aQ X.prog X.w) X.A (evalPairs (pairTrees keys values X.env pos)) (λvs s'=>∃ps H',Inv X pins σ H' s'/\VV ps vs/\Q ps H') X.xe s
theorem E1{X:Cx}{pos:Pos}:Nt X pos [] [] []:=λpins s σ H Q I h=>pairTrees_nil_walk ⟨[],H,I,.nil,h⟩
theorem Cf{X:Cx}{pos:Pos}{k v:Expr}{ks:List (Option Expr)}{vs:List Expr}{tk tv:TE}{bc:List (TE×TE)}(hk:PE X k tk)(hv:PE X v tv)(hr:Nt X pos ks vs bc):
  Nt X pos (some k::ks) (v::vs) ((tk,tv)::bc):=λpins s σ H Q I h=>
 pairTrees_cons_walk (eD (hk pins s σ H _ I h) λu s1 ⟨x,H1,I1,rx,q1⟩=>eD (hv pins s1 σ H1 _ I1 q1) λw2 s2 ⟨y,H2,I2,ry,q2⟩=>
  eD (hr pins s2 σ H2 _ I2 q2) λws s3 ⟨ps,H3,I3,rel,q3⟩=>⟨(x,y)::ps,H3,I3,.cons ⟨rx,ry⟩ rel,q3⟩)
noncomputable def jV(kvs more:List (Key×V)):List (Key×V):=more.foldl (λacc kv=>kj acc kv.1 kv.2) kvs
theorem KV.merge:∀{more:List (Key×V)} {rs:List (Key×ae)} {kvs:List (Key×V)} {vs:List (Key×ae)},KV more rs->KV kvs vs->KV (jV kvs more) (merged vs rs):=by
 intro more rs kvs vs r
 unfold KV at r
 induction r generalizing kvs vs with
 |nil=>intro q;exact q
 | @cons p q ps qs h t ih=>
  intro r0
  have e:KV (kj kvs p.1 p.2) (stored vs q.1 q.2):=by
   have:=r0.put p.1 h.2
   rw[<-h.1];exact this
  exact ih e
theorem jx:∀(more kvs:List (Key×V)),(jV kvs more).length<=kvs.length+more.length
 |[],kvs=>by show kvs.length<=kvs.length+0;ac_nf
 |p::r,kvs=>by
  have h1:=jx r (kj kvs p.1 p.2)
  have h2:=kN kvs p.1 p.2
  show(jV (kj kvs p.1 p.2) r).length<=_
  rw[aU];ac_nf
theorem rJ{P:aJ}{w:aV}:∀{kvs:List (Key×V)} {ws:List (ae×ae)},VV (kvs.map λkv=>(kV kv.1,kv.2)) ws->∃rs,Carries (mixKind P w) ws rs/\KV kvs rs
 |[],_,r=>by rw[jo]at r;cases r;exact⟨[],cE,.nil⟩
 |p::kvs,_,r=>by
  rw[aw]at r
  cases r with
  | @cons a b as bs h t=>
   obtain⟨rs,c,q⟩:=rJ (P:=P) (w:=w) t
   obtain⟨b1,b2⟩:=b
   exact⟨(p.1,b2)::rs,⟨wk h.1,rfl,c⟩,.cons ⟨rfl,h.2⟩ q⟩
noncomputable def K9(bc:List (TE×TE)):TE:=λσ H Q=>∀p,H p=none->xo bc σ (upd H p (.dK [])) λps H2=>H2 p=some (.dK [])/\∃kvs:List (Key×V),ps=kvs.map (λkv=>(kV kv.1,kv.2))/\kvs.length<=15/\Q (.ref p) (upd H2 p (.dK (jV [] kvs)))
theorem Fg{X:Cx}{pos:Pos}{keys:List (Option Expr)}{values:List Expr}{bc:List (TE×TE)}(h:Nt X pos keys values bc)(hall:keys.all (·.isSome)=true)(hl:keys.length=values.length)(h0:keys≠[])
  (h15:keys.length<=15):PE X (.Dict keys values pos) (K9 bc):=by
 intro pins s σ H Q I q
 have hn:=I.hok.fresh (ao s.heap.objs.size)
 have I1:=I.laid (a:=s.heap.objs.size) (o:= .dK []) (h':=s.heap.push {cls:= .type "dict",data:= .dict #[]}) (t':=s.toks) (λ_ _ q=>af _ q) (ao _) (wC s.heap I.big)
 refine wpAny_Dict_walk (knd:=mixKind X.prog X.w) hall hl h0 h15 (eD (h pins _ σ _ _ I1 (q _ hn)) λws s2 hPl=> ?_)
 obtain⟨ps,H2,I2,rel,e,kvs,ep,lk,q2⟩:=hPl
 subst ep
 obtain⟨rs,c,rk⟩:=rJ (P:=X.prog) (w:=X.w) rel
 obtain⟨z,hd,vs0,r0,dd⟩:=DU I2.hok e
 cases r0
 refine⟨rs,c,dd,λh' dd' hs=>⟨.ref s.heap.objs.size,_,?_,rfl,q2⟩⟩
 have hz:(jV [] kvs).length<=aO:=by
  have h1:=jx kvs []
  rw[List.length_nil]at h1
  rw[jq];ac_nf
 have he:∃q,h'.get? s.heap.objs.size=some q:=let⟨q,_,_,hq,_⟩:=dd';⟨q,hq⟩
 exact nH I2 (by rw[e];exact cE) hs he (uW hz hd (rk.merge .nil) dd')
structure M1(X:Cx)(o:Expr)(m:Str)(apos:Pos)(e:Expr)(cpos:Pos):Prop where
 base:cy o m X.env (eval o X.env)=eval o X.env
 few:((bT cpos (au [e] X.env)).all (λx=> !x.1)&&(ic cpos (eL [] X.env)).all (λx=>x.1.isSome)
  &&decide (([e]:List Expr).length+([]:List gA).length+(if([]:List gA).isEmpty then 0 else 1)<30))=true
 line:(apos.endLine==cpos.line)=true
 trees:bT cpos (au [e] X.env)=[(false,eval e X.env)]
structure M2(X:Cx)(o:Expr)(m:Str)(apos:Pos)(e f:Expr)(cpos:Pos):Prop where
 base:cy o m X.env (eval o X.env)=eval o X.env
 few:((bT cpos (au [e,f] X.env)).all (λx=> !x.1)&&(ic cpos (eL [] X.env)).all (λx=>x.1.isSome)
  &&decide (([e,f]:List Expr).length+([]:List gA).length+(if([]:List gA).isEmpty then 0 else 1)<30))=true
 line:(apos.endLine==cpos.line)=true
 trees:bT cpos (au [e,f] X.env)=[(false,eval e X.env),(false,eval f X.env)]
noncomputable def OB(H:Hp)(a:Addr):Prop:=(∃kvs,Rd H a (.dK kvs))\/∃kvs,Rd H a (.dT kvs)
theorem DF{X:Cx}{pins:List (Addr×Obj)}{σ:St}{H:Hp}{s:ai}{a:Addr}(I:Inv X pins σ H s)(d:OB H a):
  s.TypeIs (.ref a) "dict" /\(∀b,aE a= .ref b->∃ob,s.heap.get? b=some ob/\ob.dict=none)/\(a==eR)=false:=by
 rcases d with⟨kvs,e⟩|⟨kvs,e⟩
 ·obtain⟨_,hd,vs,_,dd⟩:=pA I.hok e
  refine⟨dd.typeIs,λb q=> ?_,hd⟩
  cases q
  obtain⟨ob,_,_,h1,h2,_⟩:=dd
  exact⟨ob,h1,h2.2.1⟩
 ·obtain⟨_,hd,xs,_,dd⟩:=wA I.hok e
  refine⟨dd.typeIs,λb q=> ?_,hd⟩
  cases q
  obtain⟨ob,_,_,h1,h2,_⟩:=dd
  exact⟨ob,h1,h2.2.1⟩
section
variable{X:Cx}{pins:List (Addr×Obj)}{σ:St}{H:Hp}{s:ai}{a:Addr}{y d:V}{u r:ae}{o:Option V}{A:Around}{E:ae->ai->Prop}
theorem Kr{Q:ae->ai->Prop}(hu:A.units+1<iG)(I:Inv X pins σ H s)(g:Ek H a y o)(ry:RelV y u)(rd:RelV d r)(h:∀w' s',Inv X pins σ H s'->RelV (o.getD d) w'->Q w' s'):
  wpAny (aQ X.prog X.w) A (call (.builtin "dict.get") [.ref a,u,r]) Q E s:=by
 rcases g with⟨kvs,k,e,ey,l⟩|⟨kvs,k,b,e,ey,eb,l⟩
 ·subst ey
  obtain⟨z,hd,vs,rel,dd⟩:=pA I.hok e
  refine call_meetsIn PySem.F.slot_dict_get dd.typeIs PySem.F.entry_dict_get (PySem.F.args_dict_get_3 _ _ _) (meets_dict_get_default (mixKind X.prog X.w) a (wk ry) hd r) ⟨_,dd.mapOf,h _ _ (I.tok _) ?_⟩
  rw[l]
  exact(rel.val k).getD rd
 ·subst ey
  cases (show u=aE b from ry)
  obtain⟨z,hd,xs,rel,dd⟩:=wA I.hok e
  refine call_meetsIn PySem.F.slot_dict_get dd.typeIs PySem.F.entry_dict_get (PySem.F.args_dict_get_3 _ _ _) (meetsH_dict_get_default (tupleKind (mixKind X.prog X.w)) a b hd r) ⟨rV hu,k,xs,uF I.hok eb,dd,h _ _ (I.tok _) ?_⟩
  rw[l]
  exact(rel.val k).getD rd
end
noncomputable def HM(td ty tx:TE):TE:=λσ H Q=>td σ H λx H1=>∃a,x= .ref a/\OB H1 a/\ty σ H1 λy H2=>tx σ H2 λz H3=>∃o,Ek H3 a y o/\Q (o.getD z) H3
section
variable{X:Cx}{o e f:Expr}{apos cpos:Pos}{td ty tx:TE}
theorem Co(hu:X.A.units+1<iG)(ho:PE X o td)(he:PE X e ty)(hf:PE X f tx)(m:M2 X o "get" apos e f cpos):PE X (.Call (.Attribute o "get" apos) [e,f] [] cpos) (HM td ty tx):=by
 intro pins s σ H Q I h
 refine wpAny_Call_method m.base m.few m.line PySem.F.plainAttrs_dict PySem.F.slot_dict_get PySem.F.type_dict_get (eD (ho pins s σ H _ I h) λu s1 hPl=> ?_)
 obtain⟨x,H1,I1,rx,a,ex,d,q1⟩:=hPl
 subst ex
 obtain rfl:u=aE a:=rx
 obtain⟨t1,t2,_⟩:=DF I1 d
 refine⟨t1,t2,?_⟩
 rw[m.trees]
 refine ig rfl (mv (jC (eD (he pins s1 σ H1 _ I1 q1) λiv s2 ⟨y,H2,I2,ry,q2⟩=>
  jC (eD (hf pins s2 σ H2 _ I2 q2) λfv s3 ⟨z,H3,I3,rz,ov,g,q3⟩=>pS ?_))))
 exact Kr hu I3 g ry rz λw' s4 I4 rw'=>⟨_,H3,I4,rw',q3⟩
end
section
end
section
end
end L2
namespace L2
open PySem
section
end
section
variable{κ:Type}[DecidableEq κ]
end
end L2
namespace L3
open PySem L2
inductive PV where
 |non|bl (b:Bool)|int (i:Int)|str (x:Str)|tup (xs:List PV)|ref (a:Addr)|ty (n:String)|ro (xs:List PV)
inductive MO where
 |lst (xs:List PV)|rl (xs:List PV)|dK (kvs:List (Key×PV))|rng (lo hi:Int)|ins (C dx:Addr) (fs:List (Str×PV))|exc (C:Addr)|rd (kvs:List (Key×PV))
noncomputable abbrev Gp:=Addr->Option MO
noncomputable def up(G:Gp)(a:Addr)(o:MO):Gp:=λb=>if b=a then some o else G b
theorem aj{G:Gp}{a:Addr}{o:MO}:up G a o a=some o:=by unfold up;rw[if_pos rfl]
theorem aH{G:Gp}{a b:Addr}{o:MO}(h:b≠a):up G a o b=G b:=by unfold up;rw[if_neg h]
theorem gJ{G:Gp}{a:Addr}{o u:MO}:up (up G a o) a u=up G a u:=by
 funext b;unfold up;split<;>rfl
theorem yD{G:Gp}{a:Addr}{o:MO}(h:G a=some o):up G a o=G:=by
 funext b;unfold up;split
 ·rename_i e;rw[e,h]
 ·rfl
noncomputable def FzL(K:PySem.W.Frag)(H:Hp)(a:Addr)(xs:List V):Prop:=
 (∃o,H a=some (.frz o (.lst xs)))\/∃(o:Obj) (its:Array ae) (n:Nat),K.lookup a=some o/\o.cls= .type "list" /\o.dict=none/\o.data= .seq its n/\its.size<=aO/\Vals xs its.toList
theorem FzL.sq{K:PySem.W.Frag}{H:Hp}{a:Addr}{xs:List V}(h:FzL K H a xs):SqL K H a xs:=by
 rcases h with⟨o,h⟩|h
 ·exact .inl (.inr ⟨o,h⟩)
 ·exact .inr h
mutual
noncomputable def Dv(K:PySem.W.Frag)(H:Hp):PV->V->Prop
 | .non,v=>v= .non
 | .bl b,v=>v= .bl b
 | .int i,v=>v= .int i
 | .str x,v=>v= .str x
 | .tup ps,v=>∃a vs,v= .ref a/\SqT K H a vs/\Dvs K H ps vs
 | .ref a,v=>v= .ref a
 | .ty n,v=>v= .ty n
 | .ro ps,v=>∃a vs,v= .ref a/\FzL K H a vs/\Dvs K H ps vs
noncomputable def Dvs(K:PySem.W.Frag)(H:Hp):List PV->List V->Prop
 |[],vs=>vs=[]
 |p::ps,vs=>∃v r,vs=v::r/\Dv K H p v/\Dvs K H ps r
end
noncomputable def Keep(K:PySem.W.Frag)(H H':Hp):Prop:=(∀a xs,SqT K H a xs->SqT K H' a xs)/\∀a o u,H a=some (.frz o u)->H' a=some (.frz o u)
section
variable{K:PySem.W.Frag}{H H' H1 H2:Hp}
theorem Keep.refl:Keep K H H:=⟨λ_ _ h=>h,λ_ _ _ h=>h⟩
theorem Keep.trans(a:Keep K H H1)(b:Keep K H1 H2):Keep K H H2:=⟨λc xs h=>b.1 c xs (a.1 c xs h),λc o u h=>b.2 c o u (a.2 c o u h)⟩
theorem nu{p:Addr}{o:HO}(h:∀xs,¬Rd H p (.tup xs))(hf:∀o u,H p≠some (.frz o u)):Keep K H (upd H p o):=⟨λa xs q=>by
 rcases q with q|q
 ·have ne:a≠p:=λz=>by subst z;exact h xs q
  refine .inl ?_
  rcases q with q|⟨o',q⟩
  ·exact .inl (by rw[bD ne];exact q)
  ·exact .inr ⟨o',by rw[bD ne];exact q⟩
 ·exact .inr q,λa o' u q=>by
 have ne:a≠p:=λz=>by subst z;exact hf o' u q
 rw[bD ne];exact q⟩
theorem FzL.keep{a:Addr}{xs:List V}(k:Keep K H H')(h:FzL K H a xs):FzL K H' a xs:=by
 rcases h with⟨o,h⟩|h
 ·exact .inl ⟨o,k.2 _ _ _ h⟩
 ·exact .inr h
theorem cg{p:Addr}{o:HO}(h:H p=none):Keep K H (upd H p o):=nu (λxs q=>by
 rcases q with q|⟨o',q⟩<;>(rw[h]at q;cases q)) λo u q=>by rw[h]at q;cases q
theorem gl{p:Addr}{o:HO}{ys:List V}(h:H p=some (.lst ys)):Keep K H (upd H p o):=nu (λxs q=>by
 rcases q with q|⟨o',q⟩<;>(rw[h]at q;cases q)) λo u q=>by rw[h]at q;cases q
theorem lj{p:Addr}{o:HO}{ys:List (Key×V)}(h:H p=some (.dK ys)):Keep K H (upd H p o):=nu (λxs q=>by
 rcases q with q|⟨o',q⟩<;>(rw[h]at q;cases q)) λo u q=>by rw[h]at q;cases q
mutual
theorem Dv.keep(k:Keep K H H'):∀(p:PV) {v:V},Dv K H p v->Dv K H' p v
 | .non,_,h=>h
 | .bl _,_,h=>h
 | .int _,_,h=>h
 | .str _,_,h=>h
 | .tup ps,_,h=>by
  obtain⟨a,vs,e,q,r⟩:=h
  exact⟨a,vs,e,k.1 a vs q,Dvs.keep k ps r⟩
 | .ref _,_,h=>h
 | .ty _,_,h=>h
 | .ro ps,_,h=>by
  obtain⟨a,vs,e,q,r⟩:=h
  exact⟨a,vs,e,q.keep k,Dvs.keep k ps r⟩
theorem Dvs.keep(k:Keep K H H'):∀(ps:List PV) {vs:List V},Dvs K H ps vs->Dvs K H' ps vs
 |[],_,h=>h
 |p::ps,_,h=>by
  obtain⟨v,r,e,q,z⟩:=h
  exact⟨v,r,e,Dv.keep k p q,Dvs.keep k ps z⟩
end
theorem Dvs.length:∀{ps:List PV} {vs:List V},Dvs K H ps vs->vs.length=ps.length
 |[],_,h=>by rw[show _=[]from h];rfl
 |p::ps,_,h=>by
  obtain⟨v,r,rfl,_,z⟩:=h
  rw[aU,aU,Dvs.length z]
theorem Dvs.get:∀{ps:List PV} {vs:List V} {i:Nat} {v:V},Dvs K H ps vs->vs[i]? =some v->∃p,ps[i]? =some p/\Dv K H p v
 |[],_,i,v,h,e=>by rw[show _=[]from h]at e;simp at e
 |p::ps,_,0,v,h,e=>by
  obtain⟨v',r,rfl,q,z⟩:=h
  have:v'=v:=by simpa using e
  subst this
  exact⟨p,rfl,q⟩
 |p::ps,_,i+1,v,h,e=>by
  obtain⟨v',r,rfl,q,z⟩:=h
  obtain⟨p',e1,q1⟩:=Dvs.get (i:=i) z (by simpa using e)
  exact⟨p',by simpa using e1,q1⟩
theorem Dvs.at:∀{ps:List PV} {vs:List V} {i:Nat} {p:PV},Dvs K H ps vs->ps[i]? =some p->∃v,vs[i]? =some v/\Dv K H p v:=fun{ps vs i p} h e=>by
 have hl:=h.length
 have hi:i<vs.length:=by rw[hl];exact(am.mp e).1
 obtain⟨p',e',q⟩:=h.get (al hi)
 rw[e]at e';cases e'
 exact⟨_,al hi,q⟩
theorem Dvs.append:∀{ps qs:List PV} {vs us:List V},Dvs K H ps vs->Dvs K H qs us->Dvs K H (ps++qs) (vs++us)
 |[],_,_,_,h,g=>by rw[show _=[]from h];exact g
 |p::ps,_,_,_,h,g=>by
  obtain⟨v,r,rfl,q,z⟩:=h
  exact⟨v,r++_,rfl,q,Dvs.append z g⟩
theorem Dvs.nil:Dvs K H [] []:=rfl
theorem Dvs.cons{p:PV}{ps:List PV}{v:V}{vs:List V}(a:Dv K H p v)(b:Dvs K H ps vs):Dvs K H (p::ps) (v::vs):=⟨v,vs,rfl,a,b⟩
theorem Dvs.take:∀{ps:List PV} {vs:List V} (n:Nat),Dvs K H ps vs->Dvs K H (ps.take n) (vs.take n)
 |_,_,0,_=>rfl
 |[],_,n+1,h=>by rw[show _=[]from h];rfl
 |p::ps,_,n+1,h=>by
  obtain⟨v,r,rfl,q,z⟩:=h
  exact⟨v,_,rfl,q,Dvs.take n z⟩
theorem Dvs.drop:∀{ps:List PV} {vs:List V} (n:Nat),Dvs K H ps vs->Dvs K H (ps.drop n) (vs.drop n)
 |_,_,0,h=>h
 |[],_,n+1,h=>by rw[show _=[]from h];rfl
 |p::ps,_,n+1,h=>by
  obtain⟨v,r,rfl,q,z⟩:=h
  exact Dvs.drop n z
theorem Dvs.reverse:∀{ps:List PV} {vs:List V},Dvs K H ps vs->Dvs K H ps.reverse vs.reverse
 |[],_,h=>by rw[show _=[]from h];rfl
 |p::ps,_,h=>by
  obtain⟨v,r,rfl,q,z⟩:=h
  rw[io,io]
  exact(Dvs.reverse z).append (.cons q .nil)
theorem Dvs.set{p:PV}{v:V}(a:Dv K H p v):∀{ps:List PV} {vs:List V} (i:Nat),Dvs K H ps vs->Dvs K H (ps.set i p) (vs.set i v)
 |[],_,_,h=>by rw[show _=[]from h];rfl
 |q::ps,_,0,h=>by
  obtain⟨v',r,rfl,_,z⟩:=h
  exact⟨v,r,rfl,a,z⟩
 |q::ps,_,i+1,h=>by
  obtain⟨v',r,rfl,b,z⟩:=h
  exact⟨v',_,rfl,b,Dvs.set a i z⟩
end
noncomputable def DKv(K:PySem.W.Frag)(H:Hp):List (Key×PV)->List (Key×V)->Prop
 |[],vs=>vs=[]
 |(k,p)::ps,vs=>∃v r,vs=(k,v)::r/\Dv K H p v/\DKv K H ps r
noncomputable def DFv(K:PySem.W.Frag)(H:Hp):List (Str×PV)->List (Str×V)->Prop
 |[],vs=>vs=[]
 |(k,p)::ps,vs=>∃v r,vs=(k,v)::r/\Dv K H p v/\DFv K H ps r
noncomputable def RepO(K:PySem.W.Frag)(H:Hp)(a:Addr):MO->Prop
 | .lst ps=>∃vs,H a=some (.lst vs)/\Dvs K H ps vs
 | .rl ps=>∃vs,Rd H a (.lst vs)/\Dvs K H ps vs
 | .dK kvs=>∃vs,H a=some (.dK vs)/\DKv K H kvs vs
 | .rng lo hi=>H a=some (.rng lo hi)
 | .ins C dx fs=>∃vs,H a=some (.ins C dx vs)/\DFv K H fs vs
 | .exc C=>H a=some (wz a C)
 | .rd kvs=>∃vs,Rd H a (.dK vs)/\DKv K H kvs vs
noncomputable def Rep(K:PySem.W.Frag)(H:Hp)(G:Gp):Prop:=∀a o,G a=some o->RepO K H a o
section
variable{K:PySem.W.Frag}{H H':Hp}{G G':Gp}{p:Addr}
theorem DKv.keep(k:Keep K H H'):∀(ps:List (Key×PV)) {vs:List (Key×V)},DKv K H ps vs->DKv K H' ps vs
 |[],_,h=>h
 |(x,p)::ps,_,h=>by
  obtain⟨v,r,e,q,z⟩:=h
  exact⟨v,r,e,Dv.keep k p q,DKv.keep k ps z⟩
theorem DFv.keep(k:Keep K H H'):∀(ps:List (Str×PV)) {vs:List (Str×V)},DFv K H ps vs->DFv K H' ps vs
 |[],_,h=>h
 |(x,p)::ps,_,h=>by
  obtain⟨v,r,e,q,z⟩:=h
  exact⟨v,r,e,Dv.keep k p q,DFv.keep k ps z⟩
theorem RepO.some{o:MO}(h:RepO K H p o):∃u,H p=some u:=by
 cases o with
 |lst ps=>obtain⟨vs,e,_⟩:=h;exact⟨_,e⟩
 |rl ps=>
  obtain⟨vs,e,_⟩:=h
  rcases e with e|⟨o,e⟩
  ·exact⟨_,e⟩
  ·exact⟨_,e⟩
 |dK ps=>obtain⟨vs,e,_⟩:=h;exact⟨_,e⟩
 |rng lo hi=>exact⟨_,h⟩
 |ins C dx fs=>obtain⟨vs,e,_⟩:=h;exact⟨_,e⟩
 |exc C=>exact⟨_,h⟩
 |rd ps=>
  obtain⟨vs,e,_⟩:=h
  rcases e with e|⟨o,e⟩
  ·exact⟨_,e⟩
  ·exact⟨_,e⟩
theorem Rep.none(r:Rep K H G)(h:H p=none):G p=none:=by
 cases e:G p with
 |none=>rfl
 |some o=>
  obtain⟨u,z⟩:=(r p o e).some
  rw[h]at z;cases z
theorem RepO.upd{a:Addr}{o:MO}{ho:HO}(k:Keep K H (upd H p ho))(ne:a≠p)(h:RepO K H a o):RepO K (L2.upd H p ho) a o:=by
 cases o with
 |lst ps=>obtain⟨vs,e,d⟩:=h;exact⟨vs,by rw[bD ne];exact e,d.keep k⟩
 |rl ps=>
  obtain⟨vs,e,d⟩:=h
  refine⟨vs,?_,d.keep k⟩
  rcases e with e|⟨o,e⟩
  ·exact .inl (by rw[bD ne];exact e)
  ·exact .inr ⟨o,by rw[bD ne];exact e⟩
 |dK ps=>obtain⟨vs,e,d⟩:=h;exact⟨vs,by rw[bD ne];exact e,d.keep k⟩
 |rng lo hi=>show L2.upd H p ho a=_;rw[bD ne];exact h
 |ins C dx fs=>obtain⟨vs,e,d⟩:=h;exact⟨vs,by rw[bD ne];exact e,DFv.keep k _ d⟩
 |exc C=>show L2.upd H p ho a=_;rw[bD ne];exact h
 |rd ps=>
  obtain⟨vs,e,d⟩:=h
  refine⟨vs,?_,d.keep k⟩
  rcases e with e|⟨o,e⟩
  ·exact .inl (by rw[bD ne];exact e)
  ·exact .inr ⟨o,by rw[bD ne];exact e⟩
theorem Rep.upd{ho:HO}(r:Rep K H G)(k:Keep K H (upd H p ho))(hG:∀a o,G' a=some o->a≠p->G a=some o)(hp:∀o,G' p=some o->RepO K (L2.upd H p ho) p o):Rep K (L2.upd H p ho) G':=λa o e=>by
 by_cases hb:a=p
 ·subst hb;exact hp o e
 ·exact(r a o (hG a o e hb)).upd k hb
theorem Rep.tup{vs:List V}(r:Rep K H G)(h:H p=Option.none):Rep K (L2.upd H p (.tup vs)) G:=r.upd (cg h) (λ_ _ e _=>e) λo e=>by rw[r.none h]at e;cases e
theorem Rep.new{vs:List V}{ps:List PV}(r:Rep K H G)(h:H p=Option.none)(d:Dvs K H ps vs):Rep K (L2.upd H p (.lst vs)) (up G p (.lst ps)):=by
 refine r.upd (cg h) (λa o e ne=>by rw[aH ne]at e;exact e) λo e=> ?_
 rw[aj]at e;cases e
 exact⟨vs,cw,d.keep (cg h)⟩
theorem Rep.put{vs vs0:List V}{ps:List PV}(r:Rep K H G)(h:H p=jT (.lst vs0))(d:Dvs K H ps vs):Rep K (L2.upd H p (.lst vs)) (up G p (.lst ps)):=by
 refine r.upd (gl h) (λa o e ne=>by rw[aH ne]at e;exact e) λo e=> ?_
 rw[aj]at e;cases e
 exact⟨vs,cw,d.keep (gl h)⟩
theorem Rep.sub(r:Rep K H G)(h:∀a o,G' a=jT o->G a=jT o):Rep K H G':=λa o e=>r a o (h a o e)
theorem Rep.lst{ps:List PV}{a:Addr}(r:Rep K H G)(h:G a=jT (.lst ps)):∃vs,H a=jT (.lst vs)/\Dvs K H ps vs:=r a _ h
end
noncomputable abbrev iS:=List (Option PV)
noncomputable abbrev K2:=PV->Gp->Prop
noncomputable abbrev E2:=iS->Gp->K2->Prop
noncomputable abbrev T2:=iS->Gp->(Bool->Gp->Prop)->Prop
noncomputable abbrev A2:=iS->Gp->(List PV->Gp->Prop)->Prop
structure D2 where
 nx:iS->Gp->Prop
 rt:K2
 bk:iS->Gp->Prop:=λ_ _=>False
 ct:iS->Gp->Prop:=λ_ _=>False
noncomputable abbrev S2:=D2->iS->Gp->Prop
@[reducible] noncomputable def gt:iS->Nat->Option PV
 |[],_=>none
 |x::_,0=>x
 |_::r,n+1=>gt r n
@[reducible] noncomputable def st:iS->Nat->Option PV->iS
 |[],_,_=>[]
 |_::r,0,v=>v::r
 |x::r,n+1,v=>x::st r n v
theorem DI:∀(τ:iS) (i:Nat),gt τ i=(τ[i]?).getD none
 |[],i=>by simp[gt]
 |x::_,0=>by simp[gt]
 |_::r,n+1=>by simp[gt,DI r n]
theorem zG{τ:iS}{i:Nat}{p:PV}(h:gt τ i=some p):τ[i]? =some (some p):=by
 rw[DI]at h
 cases e:τ[i]? with
 |none=>rw[e]at h;cases h
 |some z=>rw[e]at h;exact congrArg some h
theorem xt:∀(τ:iS) (i:Nat) (v:Option PV),st τ i v=τ.set i v
 |[],_,_=>rfl
 |_::_,0,_=>rfl
 |x::r,n+1,v=>by simp[st,xt r n v]
noncomputable def RSt(K:PySem.W.Frag)(H:Hp)(σ:St)(τ:iS):Prop:=τ.length=σ.length/\∀(i:Nat) p,τ[i]? =some (some p)->∃v,σ[i]? =some (some v)/\Dv K H p v
theorem RSt.keep{K:PySem.W.Frag}{H H':Hp}{σ:St}{τ:iS}(r:RSt K H σ τ)(k:Keep K H H'):RSt K H' σ τ:=⟨r.1,λi p e=>let⟨v,a,b⟩:=r.2 i p e;⟨v,a,b.keep k⟩⟩
theorem RSt.set0{K:PySem.W.Frag}{H:Hp}{σ:St}{τ:iS}{p:PV}{v:V}(r:RSt K H σ τ)(d:Dv K H p v)(i:Nat):RSt K H (σ.set i (some v)) (τ.set i (some p)):=by
 refine⟨by simp[r.1],λj q e=> ?_⟩
 by_cases hj:i=j
 ·subst hj
  have hi:i<τ.length:=by
   have:=(am.mp e).1
   simpa using this
  rw[cI hi]at e
  cases e
  exact⟨v,by rw[cI (by rw[<-r.1];exact hi)],d⟩
 ·rw[cq hj]at e⊢
  exact r.2 j q e
theorem RSt.set{K:PySem.W.Frag}{H:Hp}{σ:St}{τ:iS}{p:PV}{v:V}(r:RSt K H σ τ)(d:Dv K H p v)(i:Nat):RSt K H (σ.set i (some v)) (st τ i (some p)):=by
 rw[xt];exact r.set0 d i
noncomputable def Cl(K:PySem.W.Frag)(H:Hp)(Q2:K2)(Q:VK):Prop:=∀p G v H',Q2 p G->Dv K H' p v->Rep K H' G->Keep K H H'->Q v H'
noncomputable def ClT(K:PySem.W.Frag)(H:Hp)(Q2:Bool->Gp->Prop)(Q:Bool->Hp->Prop):Prop:=∀b G H',Q2 b G->Rep K H' G->Keep K H H'->Q b H'
noncomputable def ClS(K:PySem.W.Frag)(H:Hp)(Q2:iS->Gp->Prop)(Q:St->Hp->Prop):Prop:=∀τ G σ H',Q2 τ G->RSt K H' σ τ->Rep K H' G->Keep K H H'->Q σ H'
theorem Cl.keep{K:PySem.W.Frag}{H H':Hp}{Q2:K2}{Q:VK}(c:Cl K H Q2 Q)(k:Keep K H H'):Cl K H' Q2 Q:=λp G v H2 q d r k2=>c p G v H2 q d r (k.trans k2)
theorem ClT.keep{K:PySem.W.Frag}{H H':Hp}{Q2:Bool->Gp->Prop}{Q:Bool->Hp->Prop}(c:ClT K H Q2 Q)(k:Keep K H H'):ClT K H' Q2 Q:=λp G H2 q r k2=>c p G H2 q r (k.trans k2)
theorem ClS.keep{K:PySem.W.Frag}{H H':Hp}{Q2:iS->Gp->Prop}{Q:St->Hp->Prop}(c:ClS K H Q2 Q)(k:Keep K H H'):ClS K H' Q2 Q:=λp G v H2 q d r k2=>c p G v H2 q d r (k.trans k2)
noncomputable def lD(K:PySem.W.Frag)(t:E2):TE:=λσ H Q=>∃τ G Q2,RSt K H σ τ/\Rep K H G/\t τ G Q2/\Cl K H Q2 Q
noncomputable def wb(K:PySem.W.Frag)(t:T2):TT:=λσ H Q=>∃τ G Q2,RSt K H σ τ/\Rep K H G/\t τ G Q2/\ClT K H Q2 Q
noncomputable def FM(K:PySem.W.Frag)(t:A2):TA:=λσ H Q=>∃τ G Q2,RSt K H σ τ/\Rep K H G/\t τ G Q2/\∀ps G' vs H',Q2 ps G'->Dvs K H' ps vs->Rep K H' G'->Keep K H H'->Q vs H'
structure ClD(K:PySem.W.Frag)(H:Hp)(D2:D2)(D:Ends):Prop where
 nx:ClS K H D2.nx D.nx
 rt:Cl K H D2.rt D.rt
 bk:ClS K H D2.bk D.bk
 ct:ClS K H D2.ct D.ct
theorem ClD.keep{K:PySem.W.Frag}{H H':Hp}{Q2:L3.D2}{Q:Ends}(c:ClD K H Q2 Q)(k:Keep K H H'):ClD K H' Q2 Q:=⟨c.nx.keep k,c.rt.keep k,c.bk.keep k,c.ct.keep k⟩
noncomputable def Dh(K:PySem.W.Frag)(t:S2):TS:=λD σ H=>∃τ G D2,RSt K H σ τ/\Rep K H G/\t D2 τ G/\ClD K H D2 D
structure JE(X:Cx)(e:Expr)(t:E2):Prop where
 h:PE X e (lD X.K t)
structure JT(X:Cx)(e:Expr)(t:T2):Prop where
 h:PT X e (wb X.K t)
structure JW(X:Cx)(e:Expr)(t:T2):Prop where
 h:PW X e (wb X.K t)
structure JA(X:Cx)(es:List Expr)(t:A2):Prop where
 h:PA X es (FM X.K t)
structure JS(X:Cx)(st:Stmt)(t:S2):Prop where
 h:PS X st (Dh X.K t)
structure JB(X:Cx)(st:List Stmt)(t:S2):Prop where
 h:PSs X st (Dh X.K t)
section
variable{X:Cx}{e:Expr}
theorem JE.of{t:E2}{u:TE}(h:PE X e u)(w:∀σ H Q,lD X.K t σ H Q->u σ H Q):JE X e t:=⟨λpins s σ H Q I q=>h pins s σ H Q I (w σ H Q q)⟩
theorem JT.of{t:T2}{u:TT}(h:PT X e u)(w:∀σ H Q,wb X.K t σ H Q->u σ H Q):JT X e t:=⟨λpins s σ H Q I q=>h pins s σ H Q I (w σ H Q q)⟩
theorem JW.of{t:T2}{u:TT}(h:PW X e u)(w:∀σ H Q,wb X.K t σ H Q->u σ H Q):JW X e t:=⟨λwh pins s σ H Q I q=>h wh pins s σ H Q I (w σ H Q q)⟩
theorem JA.of{es:List Expr}{t:A2}{u:TA}(h:PA X es u)(w:∀σ H Q,FM X.K t σ H Q->u σ H Q):JA X es t:=⟨λpos pins s σ H Q I q=>h pos pins s σ H Q I (w σ H Q q)⟩
theorem JS.of{st:Stmt}{t:S2}{u:TS}(h:PS X st u)(w:∀D σ H,Dh X.K t D σ H->u D σ H):JS X st t:=⟨λpins s σ H D I q=>h pins s σ H D I (w D σ H q)⟩
theorem JB.of{st:List Stmt}{t:S2}{u:TS}(h:PSs X st u)(w:∀D σ H,Dh X.K t D σ H->u D σ H):JB X st t:=⟨λpins s σ H D I q=>h pins s σ H D I (w D σ H q)⟩
end
noncomputable def og(b:Bool)(A B:Prop):Prop:=match b with
 |true=>A
 |false=>B
theorem iK{c:Bool}{A B:Prop}(e:c=true)(h:A):og c A B:=by subst e;exact h
theorem nX{c:Bool}{A B:Prop}(e:c=false)(h:B):og c A B:=by subst e;exact h
theorem sf{c:Bool}{A B:Prop}(h:c=true->A)(h2:c=false->B):og c A B:=by cases c with|true=>exact h rfl|false=>exact h2 rfl
noncomputable abbrev eV(i:Nat):E2:=λτ G Q=>match gt τ i with
 |some p=>Q p G
 |none=>False
noncomputable abbrev eC(p:PV):E2:=λ_ G Q=>Q p G
noncomputable abbrev cT:A2:=λ_ G Q=>Q [] G
noncomputable abbrev aT(t:E2)(u:A2):A2:=λτ G Q=>t τ G λp G1=>u τ G1 λps G2=>Q (p::ps) G2
noncomputable abbrev jO(t:A2):E2:=λτ G Q=>t τ G λps G1=>ps.length<=1000/\Q (.tup ps) G1
noncomputable abbrev DR(t:A2):E2:=λτ G Q=>t τ G λps G1=>ps.length<=1000/\∀p,G1 p=none->Q (.ref p) (up G1 p (.lst ps))
noncomputable abbrev B2:=PV->PV->Gp->K2->Prop
noncomputable def gf(K:PySem.W.Frag)(r:B2):R2:=λx y H Q=>∃p q G Q2,Dv K H p x/\Dv K H q y/\Rep K H G/\r p q G Q2/\Cl K H Q2 Q
noncomputable abbrev iP(r:B2)(ta tb:E2):E2:=λτ G Q=>ta τ G λx G1=>tb τ G1 λy G2=>r x y G2 Q
noncomputable abbrev U2:=PV->Gp->K2->Prop
noncomputable def LO(K:PySem.W.Frag)(r:U2):V->Hp->VK->Prop:=λx H Q=>∃p G Q2,Dv K H p x/\Rep K H G/\r p G Q2/\Cl K H Q2 Q
noncomputable abbrev eUn(r:U2)(ta:E2):E2:=λτ G Q=>ta τ G λx G1=>r x G1 Q
noncomputable abbrev C2:=List PV->Gp->K2->Prop
noncomputable def qT(K:PySem.W.Frag)(r:C2):List V->Hp->VK->Prop:=λxs H Q=>∃ps G Q2,Dvs K H ps xs/\Rep K H G/\r ps G Q2/\Cl K H Q2 Q
noncomputable abbrev uU(r:C2)(t:A2):E2:=λτ G Q=>t τ G λps G1=>r ps G1 Q
noncomputable abbrev M2:=PV->List PV->Gp->K2->Prop
noncomputable def xV(K:PySem.W.Frag)(r:M2):V->List V->Hp->VK->Prop:=λx xs H Q=>∃p ps G Q2,Dv K H p x/\Dvs K H ps xs/\Rep K H G/\r p ps G Q2/\Cl K H Q2 Q
noncomputable abbrev vB(t:E2):T2:=λτ G Q=>t τ G λx G1=>match x with
 | .bl b=>Q b G1
 |_=>False
noncomputable abbrev tNo(t:T2):T2:=λτ G Q=>t τ G λb G1=>Q (!b) G1
noncomputable abbrev K3(t u:T2):T2:=λτ G Q=>t τ G λb G1=>og b (Q true G1) (u τ G1 Q)
noncomputable abbrev G8(t u:T2):T2:=λτ G Q=>t τ G λb G1=>og b (u τ G1 Q) (Q false G1)
noncomputable abbrev eNo(t:E2):E2:=λτ G Q=>t τ G λx G1=>match x with
 | .bl b=>Q (.bl (!b)) G1
 |_=>False
noncomputable abbrev Os(t u:E2):E2:=λτ G Q=>t τ G λx G1=>match x with
 | .bl b=>og b (Q (.bl true) G1) (u τ G1 Q)
 |_=>False
noncomputable abbrev MQ(t u:E2):E2:=λτ G Q=>t τ G λx G1=>match x with
 | .bl b=>og b (u τ G1 Q) (Q (.bl false) G1)
 |_=>False
noncomputable abbrev Ot(c:T2)(t u:E2):E2:=λτ G Q=>c τ G λb G1=>og b (t τ G1 Q) (u τ G1 Q)
section
variable{X:Cx}{a b c e:Expr}{es:List Expr}{ta tb:E2}{t:A2}{tA tB:T2}{pos p:Pos}{x:Str}
theorem jv(i:Nat)(hN:X.N[i]? =some x:=by rfl)(hv:Nr X.env.scope x:=by first|exact iI rfl|exact g6 (iI rfl)|exact g6 (g6 rfl))(hd:(x==("__debug__" :Str))=false:=by decide)
  (hcd:(x==("__classdict__" :Str))=false:=by decide):JE X (.Name x pos) (eV i):= .of (Iz hN hv hd hcd) λσ H Q ⟨τ,G,Q2,rs,rp,h,cl⟩=>by
 unfold eV at h
 split at h
 ·rename_i p e
  obtain⟨v,ev,d⟩:=rs.2 i p (zG e)
  exact⟨v,ev,cl _ _ _ _ h d rp .refl⟩
 ·exact h.elim
theorem JE.const{p:PV}{v:V}(h:PE X e (tC v))(d:∀H,Dv X.K H p v):JE X e (eC p):= .of h λσ H Q hPl=>by obtain⟨τ,G,Q2,rs,rp,q,cl⟩:=hPl;exact cl _ _ _ _ q (d H) rp .refl
theorem Mj{i:Int}{j:Nat}:JE X (.Constant (.int i) j pos) (eC (.int i)):= .const Ck λ_=>rfl
theorem Oi{v:Bool}{j:Nat}:JE X (.Constant (.bool v) j pos) (eC (.bl v)):= .const Lv λ_=>rfl
theorem Mf{j:Nat}:JE X (.Constant .none j pos) (eC .non):= .const IE λ_=>rfl
theorem Mb{z:Str}{j:Nat}:JE X (.Constant (.str z) j pos) (eC (.str z)):= .const IB λ_=>rfl
theorem DA{v:V}{q:PV}{u:ae}(hm:X.mg x=some u)(r:RelV v u)(d:∀H,Dv X.K H q v)(hg:Gl X x:=by rfl)(hd:(x==("__debug__" :Str))=false:=by decide):JE X (.Name x pos) (eC q):= .const (Fe hg hm r hd) d
theorem L9{T:String}(hm:X.mg x=none)(hv:cA x=some (.type T))(hg:Gl X x:=by rfl)(hn:x≠ "__name__" :=by decide)(hd:(x==("__debug__" :Str))=false:=by decide):JE X (.Name x pos) (eC (.ty T)):=
 .const (Fk (v:= .ty T) hg hm hv rfl hn hd) λ_=>rfl
theorem JM:JA X [] cT:= .of IJ λσ H Q hPl=>by obtain⟨τ,G,Q2,rs,rp,q,cl⟩:=hPl;exact cl _ _ _ _ q .nil rp .refl
theorem Gj(ha:JE X e ta)(hr:JA X es t)(hs:au (e::es) X.env=(false,eval e X.env)::au es X.env:=by rfl):JA X (e::es) (aT ta t):= .of (Fm ha.h hr.h hs) λσ H Q hPl=>by
 obtain⟨τ,G,Q2,rs,rp,q,cl⟩:=hPl
 refine⟨τ,G,_,rs,rp,q,λp G1 v H1 q1 d1 r1 k1=> ?_⟩
 exact⟨τ,G1,_,rs.keep k1,r1,q1,λps G2 vs H2 q2 d2 r2 k2=>cl _ _ _ _ q2 (.cons (d1.keep k2) d2) r2 (k1.trans k2)⟩
theorem Ma{x1:Nat}(h:JA X es t):JE X (.Tuple es x1 pos) (jO t):= .of (IA h.h) λσ H Q hPl=>by
 obtain⟨τ,G,Q2,rs,rp,q,cl⟩:=hPl
 refine⟨τ,G,_,rs,rp,q,λps G1 vs H1 q1 d1 r1 k1=> ?_⟩
 obtain⟨hl,q1⟩:=q1
 refine⟨by rw[d1.length];exact aR hl (by decide),λa ha=> ?_⟩
 have kn:Keep X.K H1 (upd H1 a (.tup vs)):=cg ha
 exact cl _ _ _ _ q1 ⟨a,vs,rfl,.of cw,d1.keep kn⟩ (r1.tup ha) (k1.trans kn)
theorem Mh(h:JA X es t):JE X (.List es pos) (DR t):= .of (IF h.h) λσ H Q hPl=>by
 obtain⟨τ,G,Q2,rs,rp,q,cl⟩:=hPl
 refine⟨τ,G,_,rs,rp,q,λps G1 vs H1 q1 d1 r1 k1=> ?_⟩
 obtain⟨hl,q1⟩:=q1
 refine⟨by rw[d1.length];exact aR hl (by decide),λa ha=> ?_⟩
 have kn:Keep X.K H1 (upd H1 a (.lst vs)):=cg ha
 exact cl _ _ _ _ (q1 a (r1.none ha)) rfl (r1.new ha d1) (k1.trans kn)
theorem uC{r:B2}{σ:St}{H:Hp}{Q:VK}(q:lD X.K (iP r ta tb) σ H Q):K4 (gf X.K r) (lD X.K ta) (lD X.K tb) σ H Q:=by
 obtain⟨τ,G,Q2,rs,rp,q,cl⟩:=q
 refine⟨τ,G,_,rs,rp,q,λp G1 v H1 q1 d1 r1 k1=>⟨τ,G1,_,rs.keep k1,r1,q1,λp2 G2 v2 H2 q2 d2 r2 k2=> ?_⟩⟩
 exact⟨p,p2,G2,Q2,d1.keep k2,d2,r2,q2,cl.keep (k1.trans k2)⟩
theorem xZ{op:ko}{r:B2}(ho:iJ X (dM op) (gf X.K r))(ha:JE X a ta)(hb:JE X b tb):JE X (.BinOp a op b pos) (iP r ta tb):= .of (Ls ho ha.h hb.h) λσ H Q q=>uC q
theorem DB{op:CmpOp}{r:B2}(ho:iJ X (bV op) (gf X.K r))(ha:JE X a ta)(hb:JE X b tb)(hm:gi op b=false):JE X (.Compare a [op] [b] pos) (iP r ta tb):= .of (Fj ho ha.h hb.h hm) λσ H Q q=>uC q
theorem uB{u:TE}(w:∀σ H Q,lD X.K ta σ H Q->u σ H Q){σ:St}{H:Hp}{Q:Bool->Hp->Prop}(q:wb X.K (vB ta) σ H Q):By u σ H Q:=by
 obtain⟨τ,G,Q2,rs,rp,q,cl⟩:=q
 refine w _ _ _ ⟨τ,G,_,rs,rp,q,λp G1 v H1 q1 d1 r1 k1=> ?_⟩
 cases p with
 |bl b=>
  obtain rfl:v= .bl b:=d1
  exact⟨b,rfl,cl _ _ _ q1 r1 k1⟩
 |_=>exact bQ q1
theorem kR{op:CmpOp}{r:B2}(ho:iJ X (bV op) (gf X.K r))(ha:JE X a ta)(hb:JE X b tb)(hm:gi op b=false):JT X (.Compare a [op] [b] pos) (vB (iP r ta tb)):= .of (ES ho ha.h hb.h hm) λσ H Q q=>uB (λ_ _ _ z=>uC z) q
theorem Jn(h:JE X e ta)(he:∀whole,isTrue e X.env whole=(do let v <-whole;standAt e.pos;holding [v] (truthy v)):=by intro _;rfl):JT X e (vB ta):= .of (Ij h.h he) λσ H Q q=>uB (λ_ _ _ z=>z) q
theorem Jo(ha:JT X a tA):JT X (.UnaryOp .Not a pos) (tNo tA):= .of (Ik ha.h) λσ H Q hPl=>by obtain⟨τ,G,Q2,rs,rp,q,cl⟩:=hPl;exact⟨τ,G,_,rs,rp,q,λb G1 H1 q1 r1 k1=>cl _ _ _ q1 r1 k1⟩
theorem Jl(ha:JT X a tA):JW X (.BoolOp .Or [a] pos) tA:=⟨Ih ha.h⟩
theorem FT(ha:JT X a tA):JW X (.BoolOp .And [a] pos) tA:=⟨ER ha.h⟩
theorem LR{rest:List Expr}(ha:JT X a tA)(hb:JW X (.BoolOp .Or (b::rest) pos) tB):JW X (.BoolOp .Or (a::b::rest) pos) (K3 tA tB):= .of (Ln ha.h hb.h) λσ H Q hPl=>by
 obtain⟨τ,G,Q2,rs,rp,q,cl⟩:=hPl
 refine⟨τ,G,_,rs,rp,q,λb G1 H1 q1 r1 k1=> ?_⟩
 cases b with
 |true=>exact sd (cl _ _ _ q1 r1 k1)
 |false=>exact se ⟨τ,G1,Q2,rs.keep k1,r1,q1,cl.keep k1⟩
theorem Jm{rest:List Expr}(ha:JT X a tA)(hb:JW X (.BoolOp .And (b::rest) pos) tB):JW X (.BoolOp .And (a::b::rest) pos) (G8 tA tB):= .of (Ii ha.h hb.h) λσ H Q hPl=>by
 obtain⟨τ,G,Q2,rs,rp,q,cl⟩:=hPl
 refine⟨τ,G,_,rs,rp,q,λb G1 H1 q1 r1 k1=> ?_⟩
 cases b with
 |true=>exact sd ⟨τ,G1,Q2,rs.keep k1,r1,q1,cl.keep k1⟩
 |false=>exact se (cl _ _ _ q1 r1 k1)
theorem JW.jt(h:JW X e tA):JT X e tA:=⟨h.h.pt⟩
theorem Me(ha:JE X a ta):JE X (.UnaryOp .Not a pos) (eNo ta):= .of (ID ha.h) λσ H Q hPl=>by
 obtain⟨τ,G,Q2,rs,rp,q,cl⟩:=hPl
 refine⟨τ,G,_,rs,rp,q,λp G1 v H1 q1 d1 r1 k1=> ?_⟩
 cases p with
 |bl b=>
  obtain rfl:v= .bl b:=d1
  exact⟨b,rfl,cl _ _ _ _ q1 rfl r1 k1⟩
 |_=>exact bQ q1
theorem Md{op:BoolOp}(h:JE X a ta):JE X (.BoolOp op [a] pos) ta:=⟨IC h.h⟩
theorem Mn{rest:List Expr}(ha:JE X a ta)(hb:JE X (.BoolOp .And (b::rest) pos) tb):JE X (.BoolOp .And (a::b::rest) pos) (MQ ta tb):= .of (II ha.h hb.h) λσ H Q hPl=>by
 obtain⟨τ,G,Q2,rs,rp,q,cl⟩:=hPl
 refine⟨τ,G,_,rs,rp,q,λp G1 v H1 q1 d1 r1 k1=> ?_⟩
 cases p with
 |bl b=>
  obtain rfl:v= .bl b:=d1
  refine⟨b,rfl,?_⟩
  cases b with
  |true=>exact sd ⟨τ,G1,Q2,rs.keep k1,r1,q1,cl.keep k1⟩
  |false=>exact se (cl _ _ _ _ q1 rfl r1 k1)
 |_=>exact bQ q1
theorem Og{rest:List Expr}(ha:JE X a ta)(hb:JE X (.BoolOp .Or (b::rest) pos) tb):JE X (.BoolOp .Or (a::b::rest) pos) (Os ta tb):= .of (Lr ha.h hb.h) λσ H Q hPl=>by
 obtain⟨τ,G,Q2,rs,rp,q,cl⟩:=hPl
 refine⟨τ,G,_,rs,rp,q,λp G1 v H1 q1 d1 r1 k1=> ?_⟩
 cases p with
 |bl b=>
  obtain rfl:v= .bl b:=d1
  refine⟨b,rfl,?_⟩
  cases b with
  |true=>exact sd (cl _ _ _ _ q1 rfl r1 k1)
  |false=>exact se ⟨τ,G1,Q2,rs.keep k1,r1,q1,cl.keep k1⟩
 |_=>exact bQ q1
theorem Ml(hc:JT X c tA)(ha:JE X a ta)(hb:JE X b tb):JE X (.IfExp c a b pos) (Ot tA ta tb):= .of (Cm hc.h ha.h hb.h) λσ H Q hPl=>by
 obtain⟨τ,G,Q2,rs,rp,q,cl⟩:=hPl
 refine⟨τ,G,_,rs,rp,q,λb G1 H1 q1 r1 k1=> ?_⟩
 cases b with
 |true=>exact sd ⟨τ,G1,Q2,rs.keep k1,r1,q1,cl.keep k1⟩
 |false=>exact se ⟨τ,G1,Q2,rs.keep k1,r1,q1,cl.keep k1⟩
theorem Of{op:UnaryOp}{r:U2}(ho:Nf X (unaryOp op) (LO X.K r))(ha:JE X a ta):JE X (.UnaryOp op a pos) (eUn r ta):= .of (Hj ho ha.h) λσ H Q hPl=>by
 obtain⟨τ,G,Q2,rs,rp,q,cl⟩:=hPl
 exact⟨τ,G,_,rs,rp,q,λp G1 v H1 q1 d1 r1 k1=>⟨p,G1,Q2,d1,r1,q1,cl.keep k1⟩⟩
theorem Oh{r:B2}(hr:KR X (gf X.K r))(ha:JE X a ta)(hb:JE X b tb)(hs:vj b):JE X (.Subscript a b pos) (iP r ta tb):= .of (Lu hr ha.h hb.h hs) λσ H Q q=>uC q
theorem Df{r:C2}{σ:St}{H:Hp}{Q:VK}(q:lD X.K (uU r t) σ H Q):NP (qT X.K r) (FM X.K t) σ H Q:=by
 obtain⟨τ,G,Q2,rs,rp,q,cl⟩:=q
 exact⟨τ,G,_,rs,rp,q,λps G1 vs H1 q1 d1 r1 k1=>⟨ps,G1,Q2,d1,r1,q1,cl.keep k1⟩⟩
theorem ll{id:String}{r:C2}(hc:iF X (.builtin id) (qT X.K r))(hm:X.mg x=none)(hv:cA x=some (.builtin id))(ha:JA X (e::es) t)(hg:Gl X x:=by rfl)(hn:x≠ "__name__" :=by decide)(hdb:(x==("__debug__" :Str))=false:=by decide)
  (he:au (e::es) X.env=(false,eval e X.env)::au es X.env:=by rfl) (hpl:(bT pos (au es X.env)).any (·.1)=false:=by rfl):JE X (.Call (.Name x p) (e::es) [] pos) (uU r t):= .of (Cq hc hg hm hv ha.h hn hdb he hpl) λσ H Q q=>Df q
theorem wq{T:String}{r:C2}(hc:iF X (.type T) (qT X.K r))(hm:X.mg x=none)(hv:cA x=some (.type T))(ha:JA X (e::es) t)(hg:Gl X x:=by rfl)(hn:x≠ "__name__" :=by decide)(hdb:(x==("__debug__" :Str))=false:=by decide)
  (he:au (e::es) X.env=(false,eval e X.env)::au es X.env:=by rfl) (hpl:(bT pos (au es X.env)).any (·.1)=false:=by rfl):JE X (.Call (.Name x p) (e::es) [] pos) (uU r t):= .of (Ai hc hg hm hv ha.h hn hdb he hpl) λσ H Q q=>Df q
end
noncomputable abbrev vQ:S2:=λD τ G=>D.nx τ G
noncomputable abbrev oB(t u:S2):S2:=λD τ G=>t {D with nx:=u D} τ G
noncomputable abbrev pK(t:E2):S2:=λD τ G=>t τ G D.rt
noncomputable abbrev qE(t:E2):S2:=λD τ G=>t τ G λ_ G1=>D.nx τ G1
noncomputable abbrev Nj(c:T2)(t u:S2):S2:=λD τ G=>c τ G λb G1=>og b (t D τ G1) (u D τ G1)
noncomputable abbrev Ei:=PV->iS->Gp->(iS->Gp->Prop)->Prop
noncomputable def LP(K:PySem.W.Frag)(g:Ei):TG:=λv σ H Q=>∃p τ G Q2,Dv K H p v/\RSt K H σ τ/\Rep K H G/\g p τ G Q2/\ClS K H Q2 Q
structure JG(X:Cx)(tg:Expr)(g:Ei):Prop where
 h:PG X tg (LP X.K g)
theorem JG.of{X:Cx}{tg:Expr}{g:Ei}{u:TG}(h:PG X tg u)(w:∀v σ H Q,LP X.K g v σ H Q->u v σ H Q):JG X tg g:=⟨λpins s σ H v z Q I r q=>h pins s σ H v z Q I r (w v σ H Q q)⟩
noncomputable abbrev gN(i:Nat):Ei:=λp τ G Q=>Q (st τ i (some p)) G
noncomputable abbrev Np(i j:Nat):Ei:=λp τ G Q=>match p with
 | .tup [x,y]=>Q (st (st τ i (some x)) j (some y)) G
 |_=>False
noncomputable abbrev oE(t:E2)(g:Ei):S2:=λD τ G=>t τ G λp G1=>g p τ G1 D.nx
section
variable{X:Cx}{a b c e tg:Expr}{ta:E2}{tA:T2}{pos p:Pos}{x:Str}{st:Stmt}{rest sa sb:List Stmt}{u v:S2}{g:Ei}
theorem Gc{i:Nat}(hN:X.N.Nodup)(hi:X.N[i]? =some x)(hx:vm X.env.scope x)(hf:X.fn x=true\/X.env.scope.names.lookup x=some .local:=by first|exact .inl rfl|exact .inr rfl|assumption):JG X (.Name x pos) (gN i):=
 .of (ik hN hi hx hf) λv σ H Q hPl=>by obtain⟨p,τ,G,Q2,d,rs,rp,q,cl⟩:=hPl;exact cl _ _ _ _ q (rs.set d i) rp .refl
theorem Dt{i j:Nat}{y:Str}{p1 p2:Pos}{k:Nat}(hc:X.calm=true)(hN:X.N.Nodup)(hi:X.N[i]? =some x)(hx:vm X.env.scope x)(hj:X.N[j]? =some y)(hy:vm X.env.scope y)
  (hf:X.fn x=true\/X.env.scope.names.lookup x=some .local:=by first|exact .inl rfl|exact .inr rfl|assumption) (hf2:X.fn y=true\/X.env.scope.names.lookup y=some .local:=by first|exact .inl rfl|exact .inr rfl|assumption):
  JG X (.Tuple [.Name x p1,.Name y p2] k pos) (Np i j):=
 .of (xG (n:=2) hc (iw (ik hN hi hx hf) (iw (ik hN hj hy hf2) ux)) (by rfl) (by rfl)) λv σ H Q hPl=>by
  obtain⟨p,τ,G,Q2,d,rs,rp,q,cl⟩:=hPl
  unfold Np at q
  split at q
  ·rename_i p1 p2
   obtain⟨a,vs,rfl,sq,dv⟩:=d
   obtain⟨v1,r1,rfl,d1,dv⟩:=dv
   obtain⟨v2,r2,rfl,d2,dv⟩:=dv
   obtain rfl:r2=[]:=dv
   exact⟨a,[v1,v2],rfl,sq,rfl,v1,[v2],rfl,v2,[],rfl,rfl,cl _ _ _ _ q ((rs.set d1 i).set d2 j) rp .refl⟩
  ·exact q.elim
theorem oS(he:JE X e ta)(hg:JG X tg g)(hs:swapsWithSole [tg] e pos.line X.env=pure false:=by rfl)(hw:swappedStores [tg] e X.env=pure none:=by rfl)
  (h1:(km [tg] X.env).map (·.2)=[assign tg X.env]:=by rfl):JS X (.Assign [tg] e pos) (oE ta g):= .of (Ir he.h hg.h hs hw h1) λD σ H ⟨τ,G,D2,rs,rp,q,cl⟩=>by
 exact⟨τ,G,_,rs,rp,q,λp G1 v H1 q1 d1 r1 k1=>⟨p,τ,G1,D2.nx,d1,rs.keep k1,r1,q1,cl.nx.keep k1⟩⟩
theorem Jq{i:Nat}{pos':Pos}(he:JE X e ta)(hN:X.N.Nodup)(hi:X.N[i]? =some x)(hx:vm X.env.scope x)(hs:gQ e (some (.Name x pos')) pos.line X.env=pure false:=by rfl)
  (hf:X.fn x=true\/X.env.scope.names.lookup x=some .local:=by first|exact .inl rfl|exact .inr rfl|assumption):JS X (.Assign [.Name x pos'] e pos) (oE ta (gN i)):= .of (Il hN hi hx he.h hs hf) λD σ H ⟨τ,G,D2,rs,rp,q,cl⟩=>by
 exact⟨τ,G,_,rs,rp,q,λp G1 v H1 q1 d1 r1 k1=>cl.nx _ _ _ _ q1 ((rs.keep k1).set d1 i) r1 k1⟩
theorem FX(he:JE X e ta)(hs:gQ e none pos.line X.env=pure false:=by rfl):JS X (.Expr e pos) (qE ta):= .of (EW he.h hs) λD σ H hPl=>by
 obtain⟨τ,G,D2,rs,rp,q,cl⟩:=hPl
 exact⟨τ,G,_,rs,rp,q,λp G1 v H1 q1 d1 r1 k1=>cl.nx _ _ _ _ q1 (rs.keep k1) r1 k1⟩
theorem Jr(he:JE X e ta):JS X (.Return (some e) pos) (pK ta):= .of (Im he.h) λD σ H hPl=>by obtain⟨τ,G,D2,rs,rp,q,cl⟩:=hPl;exact⟨τ,G,_,rs,rp,q,cl.rt⟩
theorem LZ(hc:JT X c tA)(ha:JB X sa u)(hb:JB X sb v):JS X (.If c sa sb pos) (Nj tA u v):= .of (Lo hc.h ha.h hb.h) λD σ H hPl=>by
 obtain⟨τ,G,D2,rs,rp,q,cl⟩:=hPl
 refine⟨τ,G,_,rs,rp,q,λb G1 H1 q1 r1 k1=> ?_⟩
 cases b with
 |true=>exact sd ⟨τ,G1,D2,rs.keep k1,r1,q1,cl.keep k1⟩
 |false=>exact se ⟨τ,G1,D2,rs.keep k1,r1,q1,cl.keep k1⟩
theorem FW:JS X (.Pass pos) vQ:= .of EV λD σ H hPl=>by obtain⟨τ,G,D2,rs,rp,q,cl⟩:=hPl;exact cl.nx _ _ _ _ q rs rp .refl
theorem JH:JB X [] vQ:= .of EU λD σ H hPl=>by obtain⟨τ,G,D2,rs,rp,q,cl⟩:=hPl;exact cl.nx _ _ _ _ q rs rp .refl
theorem JD(h:JS X st u):JB X [st] u:=⟨ET h.h⟩
theorem Gg{s2:Stmt}(h:JS X st u)(h2:JB X (s2::rest) v):JB X (st::s2::rest) (oB u v):= .of (Cb h.h h2.h) λD σ H hPl=>by
 obtain⟨τ,G,D2,rs,rp,q,cl⟩:=hPl
 refine⟨τ,G,{D2 with nx:=v D2},rs,rp,q,⟨λτ1 G1 σ1 H1 q1 rs1 r1 k1=> ?_,cl.rt,cl.bk,cl.ct⟩⟩
 exact⟨τ1,G1,D2,rs1,r1,q1,cl.keep k1⟩
end
noncomputable abbrev yt:=PV->PV->PV->Gp->(Gp->Prop)->Prop
noncomputable def uD(K:PySem.W.Frag)(r:yt):yq:=λo i v H Q=>∃po pi pv G Q2,Dv K H po o/\Dv K H pi i/\Dv K H pv v/\Rep K H G/\r po pi pv G Q2/\∀G' H',Q2 G'->Rep K H' G'->Keep K H H'->Q H'
noncomputable def EG:yt:=λo i v G Q=>match o,i with
 | .ref a,.int k=>match G a with
  |some (.lst ps)=>match AI ps.length k with
   |some j=>Q (up G a (.lst (ps.set j v)))
   |none=>False
  |_=>False
 |_,_=>False
noncomputable abbrev Mx(to ti:E2)(r:yt):Ei:=λp τ G Q=>to τ G λo G1=>ti τ G1 λi G2=>r o i p G2 λG3=>Q τ G3
theorem PSet.of{X:Cx}{t u:yq}(h:PSet X u)(w:∀o i v H Q,t o i v H Q->u o i v H Q):PSet X t:=λpins s σ H o i v ov iv z Q I r1 r2 r3 q=>h pins s σ H o i v ov iv z Q I r1 r2 r3 (w _ _ _ _ _ q)
theorem Ha{X:Cx}:PSet X (uD X.K EG):=PSet.of BL λo i v H Q hPl=>by
 obtain⟨po,pi,pv,G,Q2,d1,d2,d3,rp,q,cl⟩:=hPl
 unfold EG at q
 split at q
 ·rename_i a k
  split at q
  ·rename_i ps e
   split at q
   ·rename_i j ej
    obtain rfl:o= .ref a:=d1
    obtain rfl:i= .int k:=d2
    obtain⟨vs,hv,dv⟩:=rp.lst e
    refine⟨a,vs,k,j,rfl,rfl,hv,by rw[dv.length];exact ej,cl _ _ q (rp.put hv (dv.set d3 j)) (gl hv)⟩
   ·exact q.elim
  ·exact q.elim
 ·exact q.elim
noncomputable abbrev Nc(i:Nat)(t:E2)(r:B2):S2:=λD τ G=>match gt τ i with
 |some x=>t τ G λy G1=>r x y G1 λz G2=>D.nx (st τ i (some z)) G2
 |none=>False
noncomputable abbrev Nb(to ti te:E2)(rg r:B2)(rs:yt):S2:=λD τ G=>to τ G λo G1=>ti τ G1 λi G2=>rg o i G2 λx G3=>te τ G3 λy G4=>r x y G4 λz G5=>rs o i z G5 λG6=>D.nx τ G6
section
variable{X:Cx}{o i e:Expr}{to ti te:E2}{pos:Pos}{x:Str}
theorem qZ{r:yt}(ho:JE X o to)(hi:JE X i ti)(hs:PSet X (uD X.K r))
  (ha:∀v,assign (.Subscript o i pos) X.env v=(do
   let ov <-holding [v] (eval o X.env)
   let iv <-holding [v,ov] (eval i X.env)
   standAt pos
   holding [v,ov,iv] (setItem ov iv v)
   release [v,ov,iv] []):=by intro _;rfl):JG X (.Subscript o i pos) (Mx to ti r):= .of (Iv ho.h hi.h hs ha) λv σ H Q ⟨p,τ,G,Q2,d,rs,rp,q,cl⟩=>by
 refine⟨τ,G,_,rs,rp,q,λp1 G1 v1 H1 q1 d1 r1 k1=>⟨τ,G1,_,rs.keep k1,r1,q1,λp2 G2 v2 H2 q2 d2 r2 k2=> ?_⟩⟩
 exact⟨p1,p2,p,G2,_,d1.keep k2,d2,d.keep (k1.trans k2),r2,q2,λG3 H3 q3 r3 k3=>cl _ _ _ _ q3 (rs.keep ((k1.trans k2).trans k3)) r3 ((k1.trans k2).trans k3)⟩
theorem oR{n:Nat}{op:ko}{r:B2}{pos':Pos}(ho:KQ X op (gf X.K r))(he:JE X e te)(hN:X.N.Nodup)(hi:X.N[n]? =some x)(hx:vm X.env.scope x)(hf:X.fn x=true\/X.env.scope.names.lookup x=some .local:=by first|exact .inl rfl|exact .inr rfl|assumption):
  JS X (.AugAssign (.Name x pos') op e pos) (Nc n te r):= .of (Iq hN hi hx he.h ho hf) λD σ H ⟨τ,G,D2,rs,rp,q,cl⟩=>by
 unfold Nc at q
 split at q
 ·rename_i p ep
  obtain⟨v,ev,d⟩:=rs.2 n p (zG ep)
  refine⟨v,ev,τ,G,_,rs,rp,q,λp1 G1 v1 H1 q1 d1 r1 k1=> ?_⟩
  exact⟨p,p1,G1,_,d.keep k1,d1,r1,q1,λp2 G2 v2 H2 q2 d2 r2 k2=>cl.nx _ _ _ _ q2 ((rs.keep (k1.trans k2)).set d2 n) r2 (k1.trans k2)⟩
 ·exact q.elim
theorem FY{op:ko}{rg r:B2}{rst:yt}{tpos:Pos}(hg:KE X (gf X.K rg))(hp:KQ X op (gf X.K r))(hs:PSet X (uD X.K rst))(ho:JE X o to)(hi:JE X i ti)(he:JE X e te)
  (ha:∀ov iv new,augStore i ov iv new=(do holding [new,ov,iv] (setItem ov iv new);release [new,ov,iv] [];pure .next):=by intros;rfl):JS X (.AugAssign (.Subscript o i tpos) op e pos) (Nb to ti te rg r rst):= .of (EZ ho.h hi.h hg he.h hp hs ha) λD σ H ⟨τ,G,D2,rs,rp,q,cl⟩=>by
 refine⟨τ,G,_,rs,rp,q,λp1 G1 v1 H1 q1 d1 r1 k1=>⟨τ,G1,_,rs.keep k1,r1,q1,λp2 G2 v2 H2 q2 d2 r2 k2=>⟨p1,p2,G2,_,d1.keep k2,d2,r2,q2,λp3 G3 v3 H3 q3 d3 r3 k3=>
  ⟨τ,G3,_,rs.keep ((k1.trans k2).trans k3),r3,q3,λp4 G4 v4 H4 q4 d4 r4 k4=>⟨p3,p4,G4,_,d3.keep k4,d4,r4,q4,λp5 G5 v5 H5 q5 d5 r5 k5=>⟨p1,p2,p5,G5,_,d1.keep (((k2.trans k3).trans k4).trans k5),d2.keep ((k3.trans k4).trans k5),d5,r5,q5,λG6 H6 q6 r6 k6=> ?_⟩⟩⟩⟩⟩⟩
 have kk:Keep X.K H H6:=((((k1.trans k2).trans k3).trans k4).trans k5).trans k6
 exact cl.nx _ _ _ _ q6 (rs.keep kk) r6 kk
end
noncomputable abbrev iH:=List PV->Gp->K2->Prop
noncomputable def G9(K:PySem.W.Frag)(sp:iH):Sp:=λvs H Q _=>∃ps G Q2,Dvs K H ps vs/\Rep K H G/\sp ps G Q2/\Cl K H Q2 Q
@[reducible] noncomputable def hJ:List Str->List PV->iS
 |[],_=>[]
 |_::N,p::ps=>some p::hJ N ps
 |_::N,[]=>none::hJ N []
theorem qA:∀N:List Str,hJ N []=bI N.length none
 |[]=>rfl
 |_::N=>by simp[hJ,qA N,dA]
theorem sL:∀(N:List Str) (ps:List PV),ps.length<=N.length->hJ N ps=ps.map some++bI (N.length-ps.length) none
 |[],[],_=>rfl
 |[],_::_,h=>by simp at h
 |_::N,p::ps,h=>by
  simp only[hJ,aw,aU,List.cons_append]
  rw[sL N ps (by simpa using h)]
  simp
 |n::N,[],_=>by rw[qA];simp
theorem oi{K:PySem.W.Frag}{H:Hp}{N:List Str}{ps:List PV}{vs:List V}(d:Dvs K H ps vs)(hN:ps.length<=N.length):RSt K H (L2.start N vs) (hJ N ps):=by
 have hl:=d.length
 rw[sL N ps hN]
 refine⟨by unfold L2.start;simp[hl],λi p e=> ?_⟩
 unfold L2.start
 by_cases hi:i<ps.length
 ·rw[bW (by simpa using hi),aC]at e
  rw[bW (by simpa [hl]using hi),aC]
  cases q:ps[i]? with
  |none=>rw[q]at e;cases e
  |some p'=>
   rw[q]at e
   have:p'=p:=by simpa using e
   subst this
   obtain⟨v,ev,dv⟩:=d.at q
   exact⟨v,by rw[ev];rfl,dv⟩
 ·rw[bS (by simpa using Nat.le_of_not_lt hi),kx]at e
  split at e<;>cases e
noncomputable def GE(G0 G:Gp):Prop:=∀a o,G0 a=some o->G a=some o
theorem GE.refl{G:Gp}:GE G G:=λ_ _ h=>h
theorem GE.trans{G0 G1 G2:Gp}(a:GE G0 G1)(b:GE G1 G2):GE G0 G2:=λc o h=>b c o (a c o h)
theorem GE.new{G0 G:Gp}{a:Addr}{o:MO}(h:GE G0 G)(n:G a=none):GE G0 (up G a o):=λb u q=>by
 have:b≠a:=λz=>by subst z;rw[h _ _ q]at n;cases n
 rw[aH this];exact h b u q
noncomputable abbrev i9(P:aJ)(w:aV)(K:PySem.W.Frag)(mg:Str->Option ae)(base:Heap)(k:Nat)(f:Addr)(fd:aW)(ps:List Str)(sp:iH):Prop:=FnOk P w K mg base GU k f fd ps (G9 K sp)
structure cU(P:aJ)(w:aV)(K:PySem.W.Frag)(mg:Str->Option ae)(base:Heap)(k:Nat)(x:Str)(f:Addr)(fd:aW)(ps:List Str)(sp:iH):Prop where
 ok:i9 P w K mg base k f fd ps sp
 b:Binds K fd ps []
 kp:PySem.W.keepIn K (.ref f)=true
 m:mg x=some (.ref f)
section
variable{P:aJ}{w:aV}{K:PySem.W.Frag}{mg:Str->Option ae}{base:Heap}
theorem lu{x qual:Str}{st:Stmt}{f:Addr}{fd:aW}{N ps:List Str}{k:Nat}{sp:iH}(F:Fun K x qual st f fd)(S:bA N ps (aL st))(len:∀vs G Q,sp vs G Q->vs.length=ps.length)
  (hbody:∀(cdv:ae) (A:Around) (outer:List Env) (s:ai) (H:Hp) (E:XK) (as:List PV) (G:Gp) (Q:K2),Room k (A.deeper (ku qual (aL st) s.heap.objs.size f cdv))->sp as G Q->
   ∃t,JB (gZ GU P w K mg base N qual (aL st) f cdv A outer s H E).nox (il st) t/\t {nx:=λ_ G'=>∃G0,GE G0 G'/\Q .non G0,rt:=λp G'=>∃G0,GE G0 G'/\Q p G0} (hJ N as) G):i9 P w K mg base (k+1) f fd ps sp:=by
 refine F.ok S (λvs H Q E h=> ?_) (λcdv A outer s H vs Q E hr h=> ?_)
 ·obtain⟨as,G,Q2,d,_,h,_⟩:=h
  rw[d.length];exact len _ _ _ h
 obtain⟨as,G,Q2,d,rp,h,cl⟩:=h
 obtain⟨t,j,q⟩:=hbody cdv A outer s H E as G Q2 hr h
 refine⟨_,j.h,hJ N as,G,_,oi d (by rw[len _ _ _ h,<-S.pre,bv];ac_nf),rp,q,⟨λτ G' σ H' ⟨G0,e0,q1⟩ _ r1 k1=>cl _ _ _ _ q1 rfl (r1.sub e0) k1,λp G' v H' ⟨G0,e0,q1⟩ d1 r1 k1=>cl _ _ _ _ q1 d1 (r1.sub e0) k1,λ_ _ _ _ q1=>q1.elim,λ_ _ _ _ q1=>q1.elim⟩⟩
end
noncomputable abbrev gK(sp:iH)(t:A2):E2:=λτ G Q=>t τ G λps G1=>sp ps G1 Q
section
variable{X:Cx}{e:Expr}{es:List Expr}{t:A2}{pos p:Pos}{x:Str}
theorem Dg{sp:iH}{σ:L2.St}{H:Hp}{Q:VK}(q:lD X.K (gK sp t) σ H Q):GZ (G9 X.K sp) [] E0 (FM X.K t) σ H Q:=by
 obtain⟨τ,G,Q2,rs,rp,q,cl⟩:=q
 refine⟨τ,G,_,rs,rp,q,λps G1 vs H1 q1 d1 r1 k1=> ?_⟩
 show G9 X.K sp (vs++[]) H1 Q E0
 rw[dS]
 exact⟨ps,G1,Q2,d1,r1,q1,cl.keep k1⟩
theorem Mm{k k':Nat}{f:Addr}{fd:aW}{ps:List Str}{sp:iH}(C:cU X.prog X.w X.K X.mg X.base k x f fd ps sp)(hr:Room k' X.A)(hk:k<=k')(ha:JA X (e::es) t)(hg:Gl X x:=by rfl)
  (hdb:(x==("__debug__" :Str))=false:=by decide) (he:au (e::es) X.env=(false,eval e X.env)::au es X.env:=by rfl) (hpl:(bT pos (au es X.env)).any (·.1)=false:=by rfl):
  JE X (.Call (.Name x p) (e::es) [] pos) (gK sp t):= .of (zj (C.ok.mono hk) hr hg C.m C.kp C.b .nil zk ha.h hdb he hpl) λσ H Q q=>Dg q
end
noncomputable abbrev HX(c:T2)(tb:S2):S2:=λD τ G=>∃W:Nat->iS->Gp->Prop,(∃m,W m τ G)/\∀m τ G,W m τ G->
 c τ G λb G1=>og b (tb {D with nx:=λτ' G'=>∃m',m'<m/\W m' τ' G',ct:=λτ' G'=>∃m',m'<m/\W m' τ' G',bk:=D.nx} τ G1) (D.nx τ G1)
section
variable{X:Cx}{c:Expr}{body:List Stmt}{tc:T2}{tb:S2}{pos:Pos}
theorem wm(hp:PassesOwn (aQ X.prog X.w) X.A X.env X.xe)(hc:JT X c tc)(hb:JB X body tb):JS X (.While c body [] pos) (HX tc tb):= .of (Cc hp hc.h hb.h) λD σ H ⟨τ,G,D2,rs,rp,⟨W,⟨m0,w0⟩,turn⟩,cl⟩=>by
 refine⟨λm σ' H'=>∃τ' G',W m τ' G'/\RSt X.K H' σ' τ'/\Rep X.K H' G'/\Keep X.K H H',⟨m0,τ,G,w0,rs,rp,.refl⟩,?_⟩
 rintro m σ1 H1 ⟨τ1,G1,w1,rs1,rp1,k1⟩
 refine⟨τ1,G1,_,rs1,rp1,turn m τ1 G1 w1,λb G2 H2 q2 r2 k2=> ?_⟩
 cases b with
 |false=>exact se (cl.nx _ _ _ _ q2 (rs1.keep k2) r2 (k1.trans k2))
 |true=>
  refine sd ⟨λσ' H'=>∃τ' G',(∃m',m'<m/\W m' τ' G')/\RSt X.K H' σ' τ'/\Rep X.K H' G'/\Keep X.K H H',λσ' H' ⟨τ',G',⟨m',hm,w'⟩,a,b,c⟩=>⟨m',hm,τ',G',w',a,b,c⟩,?_⟩
  have kk:=k1.trans k2
  exact⟨τ1,G2,_,rs1.keep k2,r2,q2,⟨λτ' G' σ' H' q' a b c=>⟨τ',G',q',a,b,kk.trans c⟩,cl.rt.keep kk,cl.nx.keep kk,λτ' G' σ' H' q' a b c=>⟨τ',G',q',a,b,kk.trans c⟩⟩⟩
end
noncomputable abbrev su:=iS->Gp->(List PV->(Gp->Prop)->Gp->Prop)->Prop
noncomputable def wN(K:PySem.W.Frag)(H1:Hp)(J:It)(items:List PV)(c:Gp->Prop):Prop:=∀(i:Nat) H G,Keep K H1 H->Rep K H G->c G->
 (i<items.length->J.go i H)/\(i=items.length->J.stop i H)/\∀x H',i<items.length->J.yld i H x H'->∃p,items[i]? =some p/\Keep K H H'/\Rep K H' G/\Dv K H' p x
noncomputable def FL(K:PySem.W.Frag)(t:su):TI:=λσ H R=>∃τ G R2,RSt K H σ τ/\Rep K H G/\t τ G R2/\∀items c G' J H',R2 items c G'->Rep K H' G'->Keep K H H'->wN K H' J items c->R J H'
structure JI(X:Cx)(tg iter:Expr)(t:su):Prop where
 h:PI X tg iter (FL X.K t)
theorem JI.of{X:Cx}{tg iter:Expr}{t:su}{u:TI}(h:PI X tg iter u)(w:∀σ H R,FL X.K t σ H R->u σ H R):JI X tg iter t:=⟨λpins s σ H R I q=>h pins s σ H R I (w σ H R q)⟩
noncomputable abbrev B0(ti:su)(g:Ei)(tb:S2):S2:=λD τ G=>ti τ G λitems c G1=>∃W:Nat->iS->Gp->Prop,W 0 τ G1/\(∀i τ G,i<=items.length->W i τ G->c G)/\
 (∀i x τ G,items[i]? =some x->W i τ G->g x τ G λτ' G'=>tb {D with nx:=W (i+1),ct:=W (i+1),bk:=D.nx} τ' G')/\∀τ G,W items.length τ G->D.nx τ G
section
variable{X:Cx}{tg iter:Expr}{body:List Stmt}{ti:su}{g:Ei}{tb:S2}{pos:Pos}
theorem Dp(hp:PassesOwn (aQ X.prog X.w) X.A X.env X.xe)(hc:X.calm=true)(hi:JI X tg iter ti)(hg:JG X tg g)(hb:JB X body tb)
  (hs:∀x,en iter X.env x=pure x:=by intro _;rfl):JS X (.For tg iter body [] pos) (B0 ti g tb):= .of (Io hp hc hi.h hg.h hb.h hs) λD σ H ⟨τ,G,D2,rs,rp,q,cl⟩=>by
 refine⟨τ,G,_,rs,rp,q,λitems c G1 J H1 q1 r1 k1 ok=> ?_⟩
 obtain⟨W,w0,hcW,turn,done⟩:=q1
 refine⟨λi m σ' H'=>m=items.length-i/\i<=items.length/\∃τ' G',W i τ' G'/\RSt X.K H' σ' τ'/\Rep X.K H' G'/\Keep X.K H1 H',⟨_,rfl,bt _,τ,G1,w0,rs.keep k1,r1,.refl⟩,?_⟩
 rintro i m σ2 H2 ⟨rfl,hi,τ2,G2,w2,rs2,rp2,k2⟩
 obtain⟨o1,o2,o3⟩:=ok i H2 G2 k2 rp2 (hcW i τ2 G2 hi w2)
 by_cases hlt:i<items.length
 ·refine .inr ⟨o1 hlt,λσ' H'=>i+1<=items.length/\∃τ' G',W (i+1) τ' G'/\RSt X.K H' σ' τ'/\Rep X.K H' G'/\Keep X.K H1 H',λσ' H' ⟨hl,z⟩=>⟨items.length-(i+1),by ac_nf,rfl,hl,z⟩,λx H3 y=> ?_⟩
  obtain⟨p,ep,k3,r3,d3⟩:=o3 x H3 hlt y
  have k13:=k2.trans k3
  refine⟨p,τ2,G2,_,d3,rs2.keep k3,r3,turn i p τ2 G2 ep w2,λτ4 G4 σ4 H4 q4 rs4 r4 k4=> ?_⟩
  have k14:=k13.trans k4
  have k04:=k1.trans k14
  exact⟨τ4,G4,_,rs4,r4,q4,⟨λτ' G' σ' H' q' a b c=>⟨hlt,τ',G',q',a,b,k14.trans c⟩,cl.rt.keep k04,cl.nx.keep k04,λτ' G' σ' H' q' a b c=>⟨hlt,τ',G',q',a,b,k14.trans c⟩⟩⟩
 ·have e:i=items.length:=by ac_nf
  subst e
  exact .inl ⟨o2 rfl,cl.nx _ _ _ _ (done τ2 G2 w2) rs2 rp2 (k1.trans k2)⟩
end
mutual
noncomputable def kr:PV->PV->Bool
 | .non,.non=>true
 | .bl a,.bl b=>a==b
 | .bl a,.int b=>(if a then 1 else 0)==b
 | .int a,.bl b=>a==(if b then 1 else 0)
 | .int a,.int b=>a==b
 | .str a,.str b=>a==b
 | .tup xs,.tup ys=>j6 xs ys
 |_,_=>false
noncomputable def j6:List PV->List PV->Bool
 |[],[]=>true
 |x::xs,y::ys=>kr x y&&j6 xs ys
 |_,_=>false
end
mutual
noncomputable def dN:Nat->PV->Bool
 |_,.non=>true
 |_,.bl _=>true
 |_,.int _=>true
 |_,.str _=>true
 |n+1,.tup xs=>c8 n xs
 |_,_=>false
noncomputable def c8:Nat->List PV->Bool
 |_,[]=>true
 |n,x::xs=>dN n x&&c8 n xs
end
section
variable{X:Cx}{pins:List (Addr×Obj)}{σ:L2.St}{H:Hp}{s:ai}{K:PySem.W.Frag}
mutual
theorem vP(I:Inv X pins σ H s):∀(n m:Nat) (p q:PV) {v:V},Dv X.K H p v->Dv X.K H q v->dN n p=true->dN m q=true->kr p q=true
 |n,m,.non,q,v,h1,h2,f1,f2=>by
  obtain rfl:v= .non:=h1
  cases q with
  |non=>rfl
  |tup qs=>obtain⟨a,vs,e,_⟩:=h2;cases e
  |ro qs=>cases m<;>cases f2
  |_=>first|cases (show _=_ from h2)|(cases m<;>cases f2)
 |n,m,.bl b,q,v,h1,h2,f1,f2=>by
  obtain rfl:v= .bl b:=h1
  cases q with
  |bl c=>cases (show V.bl b=V.bl c from h2);unfold kr;simp
  |tup qs=>obtain⟨a,vs,e,_⟩:=h2;cases e
  |ro qs=>cases m<;>cases f2
  |_=>first|cases (show _=_ from h2)|(cases m<;>cases f2)
 |n,m,.int b,q,v,h1,h2,f1,f2=>by
  obtain rfl:v= .int b:=h1
  cases q with
  |int c=>cases (show V.int b=V.int c from h2);unfold kr;simp
  |tup qs=>obtain⟨a,vs,e,_⟩:=h2;cases e
  |ro qs=>cases m<;>cases f2
  |_=>first|cases (show _=_ from h2)|(cases m<;>cases f2)
 |n,m,.str b,q,v,h1,h2,f1,f2=>by
  obtain rfl:v= .str b:=h1
  cases q with
  |str c=>cases (show V.str b=V.str c from h2);unfold kr;simp
  |tup qs=>obtain⟨a,vs,e,_⟩:=h2;cases e
  |ro qs=>cases m<;>cases f2
  |_=>first|cases (show _=_ from h2)|(cases m<;>cases f2)
 |n,m,.tup ps,q,v,h1,h2,f1,f2=>by
  obtain⟨a,vs,rfl,sq,d⟩:=h1
  cases q with
  |tup qs=>
   obtain⟨b,us,e,sq2,d2⟩:=h2
   cases e
   obtain rfl:=I.tuple_inj sq sq2
   cases n with
   |zero=>cases f1
   |succ n=>
    cases m with
    |zero=>cases f2
    |succ m=>
     unfold kr
     exact sR I n m ps qs d d2 f1 f2
  |ref b=>cases m<;>cases f2
  |ty b=>cases m<;>cases f2
  |ro b=>cases m<;>cases f2
  |_=>cases (show _=_ from h2)
 |n,m,.ref a,q,v,h1,h2,f1,f2=>by cases n<;>cases f1
 |n,m,.ty a,q,v,h1,h2,f1,f2=>by cases n<;>cases f1
 |n,m,.ro a,q,v,h1,h2,f1,f2=>by cases n<;>cases f1
theorem sR(I:Inv X pins σ H s):∀(n m:Nat) (ps qs:List PV) {vs:List V},Dvs X.K H ps vs->Dvs X.K H qs vs->c8 n ps=true->c8 m qs=true->j6 ps qs=true
 |n,m,[],qs,vs,h1,h2,f1,f2=>by
  obtain rfl:vs=[]:=h1
  cases qs with
  |nil=>rfl
  |cons q qs=>obtain⟨_,_,e,_⟩:=h2;cases e
 |n,m,p::ps,qs,vs,h1,h2,f1,f2=>by
  obtain⟨v,r,rfl,d,d'⟩:=h1
  cases qs with
  |nil=>cases (show _=_ from h2)
  |cons q qs=>
   obtain⟨_,_,e,d2,d2'⟩:=h2
   cases e
   unfold c8 at f1 f2
   rw[bp]at f1 f2
   unfold j6
   rw[vP I n m p q d d2 f1.1 f2.1,sR I n m ps qs d' d2' f1.2 f2.2]
   rfl
end
noncomputable def wE(ps qs:List PV)(j:Nat):Bool:=match ps[j]?,qs[j]? with
 |some p,some q=>kr p q
 |_,_=>true
theorem j5:∀(ps qs:List PV),ps.length=qs.length->(bJ ps.length).all (wE ps qs)=j6 ps qs
 |[],[],_=>rfl
 |p::ps,q::qs,h=>by
  have ih:=j5 ps qs (by simpa using h)
  unfold j6
  rw[<-ih,aU,List.range_succ_eq_map,kh,List.all_map]
  rfl
 |[],_::_,h=>by simp at h
 |_::_,[],h=>by simp at h
theorem nG:∀{ps qs:List PV},ps.length≠qs.length->j6 ps qs=false
 |[],[],h=>absurd rfl h
 |p::ps,q::qs,h=>by
  unfold j6
  rw[nG (ps:=ps) (qs:=qs) (λe=>h (by simp[e])),mC]
 |[],_::_,_=>rfl
 |_::_,[],_=>rfl
theorem rD(ps qs:List PV):((bJ (min ps.length qs.length)).all (wE ps qs)&&ps.length==qs.length)=j6 ps qs:=by
 by_cases h:ps.length=qs.length
 ·rw[h,Nat.min_self,<-h,j5 ps qs h];simp[h]
 ·rw[nG h];simp[h]
noncomputable abbrev Eqd(A:Around)(s:ai)(v u:ae)(b:Bool):Prop:=SeqAt.EqAt A s v u b
mutual
theorem MH(I:Inv X pins σ H s):∀(n m:Nat) (p q:PV) (A:Around) {x y:V} {v u:ae},Dv X.K H p x->RelV x v->Dv X.K H q y->RelV y u->dN n p=true->dN m q=true->A.units+n<iG->Eqd A s v u (kr p q)
 |n,m,.non,q,A,x,y,v,u,d1,r1,d2,r2,f1,f2,hu=>by
  obtain rfl:x= .non:=d1
  cases r1
  cases q with
  |non=>obtain rfl:y= .non:=d2;cases r2;exact SeqAt.EqAt.same _
  |bl b=>obtain rfl:y= .bl b:=d2;cases r2;exact SeqAt.EqAt.none_bool b
  |int b=>obtain rfl:y= .int b:=d2;obtain⟨t,rfl⟩:=r2;exact SeqAt.EqAt.none_int b t
  |str b=>obtain rfl:y= .str b:=d2;obtain⟨t,rfl⟩:=r2;exact SeqAt.EqAt.none_str b t
  |tup qs=>
   obtain⟨a,vs,rfl,sq,dd⟩:=d2
   cases r2
   obtain⟨its,rv,pl,_⟩:=I.tuple sq
   exact SeqAt.EqAt.none_tuple pl (by ac_nf)
  |ref b=>cases m<;>cases f2
  |ty b=>cases m<;>cases f2
  |ro b=>cases m<;>cases f2
 |n,m,.bl a,q,A,x,y,v,u,d1,r1,d2,r2,f1,f2,hu=>by
  obtain rfl:x= .bl a:=d1
  cases r1
  cases q with
  |non=>obtain rfl:y= .non:=d2;cases r2;exact SeqAt.EqAt.bool_none a
  |bl b=>obtain rfl:y= .bl b:=d2;cases r2;exact SeqAt.EqAt.bool_bool a b
  |int b=>obtain rfl:y= .int b:=d2;obtain⟨t,rfl⟩:=r2;exact SeqAt.EqAt.bool_int a b t
  |str b=>obtain rfl:y= .str b:=d2;obtain⟨t,rfl⟩:=r2;exact SeqAt.EqAt.bool_str a b t
  |tup qs=>
   obtain⟨l,vs,rfl,sq,dd⟩:=d2
   cases r2
   obtain⟨its,rv,pl,_⟩:=I.tuple sq
   exact SeqAt.EqAt.bool_tuple a pl (by ac_nf)
  |ref b=>cases m<;>cases f2
  |ty b=>cases m<;>cases f2
  |ro b=>cases m<;>cases f2
 |n,m,.int a,q,A,x,y,v,u,d1,r1,d2,r2,f1,f2,hu=>by
  obtain rfl:x= .int a:=d1
  obtain⟨t',rfl⟩:=r1
  cases q with
  |non=>obtain rfl:y= .non:=d2;cases r2;exact SeqAt.EqAt.int_none a t'
  |bl b=>obtain rfl:y= .bl b:=d2;cases r2;exact SeqAt.EqAt.int_bool a t' b
  |int b=>obtain rfl:y= .int b:=d2;obtain⟨t,rfl⟩:=r2;exact SeqAt.EqAt.int_int a t' b t
  |str b=>obtain rfl:y= .str b:=d2;obtain⟨t,rfl⟩:=r2;exact lW a t' b t
  |tup qs=>
   obtain⟨l,vs,rfl,sq,dd⟩:=d2
   cases r2
   obtain⟨its,rv,pl,_⟩:=I.tuple sq
   exact SeqAt.EqAt.int_tuple a t' pl (by ac_nf)
  |ref b=>cases m<;>cases f2
  |ty b=>cases m<;>cases f2
  |ro b=>cases m<;>cases f2
 |n,m,.str a,q,A,x,y,v,u,d1,r1,d2,r2,f1,f2,hu=>by
  obtain rfl:x= .str a:=d1
  obtain⟨t',rfl⟩:=r1
  cases q with
  |non=>obtain rfl:y= .non:=d2;cases r2;exact SeqAt.EqAt.str_none a t'
  |bl b=>obtain rfl:y= .bl b:=d2;cases r2;exact SeqAt.EqAt.str_bool a t' b
  |int b=>obtain rfl:y= .int b:=d2;obtain⟨t,rfl⟩:=r2;exact lV a t' b t
  |str b=>obtain rfl:y= .str b:=d2;obtain⟨t,rfl⟩:=r2;exact SeqAt.EqAt.str_str a t' b t
  |tup qs=>
   obtain⟨l,vs,rfl,sq,dd⟩:=d2
   cases r2
   obtain⟨its,rv,pl,_⟩:=I.tuple sq
   exact SeqAt.EqAt.str_tuple a t' pl (by ac_nf)
  |ref b=>cases m<;>cases f2
  |ty b=>cases m<;>cases f2
  |ro b=>cases m<;>cases f2
 |n,m,.tup ps,q,A,x,y,v,u,d1,r1,d2,r2,f1,f2,hu=>by
  have dd1:=d1
  obtain⟨l,vs,rfl,sq,d⟩:=d1
  cases r1
  obtain⟨its,rv,pl,_⟩:=I.tuple sq
  cases q with
  |non=>obtain rfl:y= .non:=d2;cases r2;exact SeqAt.EqAt.tuple_none pl (by ac_nf)
  |bl b=>obtain rfl:y= .bl b:=d2;cases r2;exact SeqAt.EqAt.tuple_bool b pl (by ac_nf)
  |int b=>obtain rfl:y= .int b:=d2;obtain⟨t,rfl⟩:=r2;exact SeqAt.EqAt.tuple_int b t pl (by ac_nf)
  |str b=>obtain rfl:y= .str b:=d2;obtain⟨t,rfl⟩:=r2;exact SeqAt.EqAt.tuple_str b t pl (by ac_nf)
  |tup qs=>
   have dd2:=d2
   obtain⟨l2,us,rfl,sq2,d2⟩:=d2
   cases r2
   obtain⟨its2,rv2,pl2,_⟩:=I.tuple sq2
   by_cases hll:l=l2
   ·subst hll
    rw[vP I n m (.tup ps) (.tup qs) dd1 dd2 f1 f2]
    exact SeqAt.EqAt.same _
   ·cases n with
    |zero=>cases f1
    |succ n=>
     cases m with
     |zero=>cases f2
     |succ m=>
      refine SeqAt.EqAt.of_refs hll ?_
      have z:=SeqAt.RcAt.tuples (A:=A) (e:=wE ps qs) pl pl2 (by ac_nf) λj h1 h2=>tF I n m ps qs A.in1 d rv d2 rv2 f1 f2 (by rw[PySem.Around.in1_units];ac_nf) j h1 h2
      rw[ax,ax,<-rv.length,<-rv2.length,d.length,d2.length,rD]at z
      unfold kr
      exact z
  |ref b=>cases m<;>cases f2
  |ty b=>cases m<;>cases f2
  |ro b=>cases m<;>cases f2
 |n,m,.ref a,q,A,x,y,v,u,d1,r1,d2,r2,f1,f2,hu=>by cases n<;>cases f1
 |n,m,.ty a,q,A,x,y,v,u,d1,r1,d2,r2,f1,f2,hu=>by cases n<;>cases f1
 |n,m,.ro a,q,A,x,y,v,u,d1,r1,d2,r2,f1,f2,hu=>by cases n<;>cases f1
theorem tF(I:Inv X pins σ H s):∀(n m:Nat) (ps qs:List PV) (A:Around) {xs ys:List V} {vs us:List ae},Dvs X.K H ps xs->Vals xs vs->Dvs X.K H qs ys->Vals ys us->c8 n ps=true->c8 m qs=true->A.units+n<iG->
  ∀(j:Nat) (h1:j<vs.toArray.size) (h2:j<us.toArray.size),Eqd A s vs.toArray[j] us.toArray[j] (wE ps qs j)
 |n,m,[],qs,A,xs,ys,vs,us,d1,r1,d2,r2,f1,f2,hu,j,h1,h2=>by
  obtain rfl:xs=[]:=d1
  cases r1
  simp at h1
 |n,m,p::ps,qs,A,xs,ys,vs,us,d1,r1,d2,r2,f1,f2,hu,j,h1,h2=>by
  obtain⟨x,xr,rfl,dx,d1⟩:=d1
  cases r1 with
  |cons rx r1=>
   cases qs with
   |nil=>
    obtain rfl:ys=[]:=d2
    cases r2
    simp at h2
   |cons q qs=>
    obtain⟨y,yr,rfl,dy,d2⟩:=d2
    cases r2 with
    |cons ry r2=>
     unfold c8 at f1 f2
     rw[bp]at f1 f2
     cases j with
     |zero=>exact MH I n m p q A dx rx dy ry f1.1 f2.1 hu
     |succ j=>exact tF I n m ps qs A d1 r1 d2 r2 f1.2 f2.2 hu j (by simpa using h1) (by simpa using h2)
end
end
theorem big{n:Nat}(h:n<=16000000):n<=aO:=aR h (by rw[jq];decide)
theorem D8{n:Nat}(h:n<=16000000):n<aO:=pQ h (by rw[jq];decide)
noncomputable def lk(G:Gp)(a:Addr):Option (List PV):=match G a with
 |some (.lst ps)=>some ps
 |some (.rl ps)=>some ps
 |_=>none
theorem fU{K:PySem.W.Frag}{H:Hp}{G:Gp}{a:Addr}{ps:List PV}(r:Rep K H G)(h:lk G a=some ps):∃vs,SqL K H a vs/\Dvs K H ps vs:=by
 unfold lk at h
 split at h
 ·rename_i qs e;cases h
  obtain⟨vs,e1,d⟩:=r a _ e
  exact⟨vs,.of e1,d⟩
 ·rename_i qs e;cases h
  obtain⟨vs,e1,d⟩:=r a _ e
  exact⟨vs,.inl e1,d⟩
 ·cases h
noncomputable def Hv:B2:=λp q G Q=>match p,q with
 | .ref a,.ref b=>match lk G a,lk G b with
  |some ps,some qs=>c8 100 ps=true/\c8 100 qs=true/\Q (.bl (j6 ps qs)) G
  |_,_=>False
 | .ref _,_=>False
 |_,.ref _=>False
 |p,q=>dN 100 p=true/\dN 100 q=true/\Q (.bl (kr p q)) G
noncomputable def Jc:B2:=λp q G Q=>match p,q with
 | .ref a,.ref b=>match lk G a,lk G b with
  |some ps,some qs=>c8 100 ps=true/\c8 100 qs=true/\Q (.bl (!j6 ps qs)) G
  |_,_=>False
 | .ref _,_=>False
 |_,.ref _=>False
 |p,q=>dN 100 p=true/\dN 100 q=true/\Q (.bl (!kr p q)) G
section
variable{X:Cx}{pins:List (Addr×Obj)}{σ:L2.St}{H:Hp}{s:ai}
theorem NV(I:Inv X pins σ H s)(p q:PV)(A:Around){x y:V}{v u:ae}(d1:Dv X.K H p x)(r1:RelV x v)(d2:Dv X.K H q y)(r2:RelV y u)(f1:dN 100 p=true)(f2:dN 100 q=true)(hu:A.units+101<iG):SeqAt.RcAt A s v u (kr p q):=by
 have hu':A.units<iG:=by ac_nf
 cases p with
 |ref a=>cases f1
 |ty a=>cases f1
 |ro a=>cases f1
 |tup ps=>
  obtain⟨l,xs,rfl,sq,dd⟩:=d1
  cases r1
  obtain⟨its,rv,pl,_⟩:=I.tuple sq
  cases q with
  |ref a=>cases f2
  |ty a=>cases f2
  |ro a=>cases f2
  |tup qs=>
   obtain⟨l2,ys,rfl,sq2,dd2⟩:=d2
   cases r2
   obtain⟨its2,rv2,pl2,_⟩:=I.tuple sq2
   have z:=SeqAt.RcAt.tuples (A:=A) (e:=wE ps qs) pl pl2 hu' λj h1 h2=>tF I 99 99 ps qs A.in1 dd rv dd2 rv2 f1 f2 (by rw[PySem.Around.in1_units];ac_nf) j h1 h2
   rw[ax,ax,<-rv.length,<-rv2.length,dd.length,dd2.length,rD]at z
   unfold kr
   exact z
  |non=>obtain rfl:y= .non:=d2;cases r2;exact SeqAt.RcAt.tuple_none pl hu'
  |bl b=>obtain rfl:y= .bl b:=d2;cases r2;exact SeqAt.RcAt.tuple_bool b pl hu'
  |int b=>obtain rfl:y= .int b:=d2;obtain⟨t,rfl⟩:=r2;exact SeqAt.RcAt.tuple_int b t pl hu'
  |str b=>obtain rfl:y= .str b:=d2;obtain⟨t,rfl⟩:=r2;exact SeqAt.RcAt.tuple_str b t pl hu'
 |non=>
  obtain rfl:x= .non:=d1
  cases r1
  cases q with
  |ref a=>cases f2
  |ty a=>cases f2
  |ro a=>cases f2
  |tup qs=>
   obtain⟨l2,ys,rfl,sq2,dd2⟩:=d2
   cases r2
   obtain⟨its2,rv2,pl2,_⟩:=I.tuple sq2
   exact SeqAt.RcAt.none_tuple pl2 hu'
  |non=>obtain rfl:y= .non:=d2;cases r2;exact SeqAt.RcAt.none_none
  |bl b=>obtain rfl:y= .bl b:=d2;cases r2;exact SeqAt.RcAt.none_bool b
  |int b=>obtain rfl:y= .int b:=d2;obtain⟨t,rfl⟩:=r2;exact SeqAt.RcAt.none_int b t
  |str b=>obtain rfl:y= .str b:=d2;obtain⟨t,rfl⟩:=r2;exact SeqAt.RcAt.none_str b t
 |bl a=>
  obtain rfl:x= .bl a:=d1
  cases r1
  cases q with
  |ref a=>cases f2
  |ty a=>cases f2
  |ro a=>cases f2
  |tup qs=>
   obtain⟨l2,ys,rfl,sq2,dd2⟩:=d2
   cases r2
   obtain⟨its2,rv2,pl2,_⟩:=I.tuple sq2
   exact SeqAt.RcAt.bool_tuple a pl2 hu'
  |non=>obtain rfl:y= .non:=d2;cases r2;exact SeqAt.RcAt.bool_none a
  |bl b=>obtain rfl:y= .bl b:=d2;cases r2;exact SeqAt.RcAt.bool_bool a b
  |int b=>obtain rfl:y= .int b:=d2;obtain⟨t,rfl⟩:=r2;exact SeqAt.RcAt.bool_int a b t
  |str b=>obtain rfl:y= .str b:=d2;obtain⟨t,rfl⟩:=r2;exact SeqAt.RcAt.bool_str a b t
 |int a=>
  obtain rfl:x= .int a:=d1
  obtain⟨t',rfl⟩:=r1
  cases q with
  |ref a=>cases f2
  |ty a=>cases f2
  |ro a=>cases f2
  |tup qs=>
   obtain⟨l2,ys,rfl,sq2,dd2⟩:=d2
   cases r2
   obtain⟨its2,rv2,pl2,_⟩:=I.tuple sq2
   exact SeqAt.RcAt.int_tuple a t' pl2 hu'
  |non=>obtain rfl:y= .non:=d2;cases r2;exact SeqAt.RcAt.int_none a t'
  |bl b=>obtain rfl:y= .bl b:=d2;cases r2;exact SeqAt.RcAt.int_bool a t' b
  |int b=>obtain rfl:y= .int b:=d2;obtain⟨t,rfl⟩:=r2;exact SeqAt.RcAt.int_int a t' b t
  |str b=>obtain rfl:y= .str b:=d2;obtain⟨t,rfl⟩:=r2;exact SeqAt.RcAt.int_str a t' b t
 |str a=>
  obtain rfl:x= .str a:=d1
  obtain⟨t',rfl⟩:=r1
  cases q with
  |ref a=>cases f2
  |ty a=>cases f2
  |ro a=>cases f2
  |tup qs=>
   obtain⟨l2,ys,rfl,sq2,dd2⟩:=d2
   cases r2
   obtain⟨its2,rv2,pl2,_⟩:=I.tuple sq2
   exact SeqAt.RcAt.str_tuple a t' pl2 hu'
  |non=>obtain rfl:y= .non:=d2;cases r2;exact SeqAt.RcAt.str_none a t'
  |bl b=>obtain rfl:y= .bl b:=d2;cases r2;exact SeqAt.RcAt.str_bool a t' b
  |int b=>obtain rfl:y= .int b:=d2;obtain⟨t,rfl⟩:=r2;exact SeqAt.RcAt.str_int a t' b t
  |str b=>obtain rfl:y= .str b:=d2;obtain⟨t,rfl⟩:=r2;exact SeqAt.RcAt.str_str a t' b t
theorem Ig(I:Inv X pins σ H s)(p q:PV)(A:Around){x y:V}{v u:ae}(d1:Dv X.K H p x)(r1:RelV x v)(d2:Dv X.K H q y)(r2:RelV y u)(f1:dN 100 p=true)(f2:dN 100 q=true)(hu:A.units+101<iG):SeqAt.RcNeAt A s v u (!kr p q):=by
 have hu':A.units<iG:=by ac_nf
 cases p with
 |ref a=>cases f1
 |ty a=>cases f1
 |ro a=>cases f1
 |tup ps=>
  obtain⟨l,xs,rfl,sq,dd⟩:=d1
  cases r1
  obtain⟨its,rv,pl,_⟩:=I.tuple sq
  cases q with
  |ref a=>cases f2
  |ty a=>cases f2
  |ro a=>cases f2
  |tup qs=>
   obtain⟨l2,ys,rfl,sq2,dd2⟩:=d2
   cases r2
   obtain⟨its2,rv2,pl2,_⟩:=I.tuple sq2
   have z:=SeqAt.RcNeAt.tuples (A:=A) (e:=wE ps qs) pl pl2 hu' λj h1 h2=>tF I 99 99 ps qs A.in1 dd rv dd2 rv2 f1 f2 (by rw[PySem.Around.in1_units];ac_nf) j h1 h2
   rw[ax,ax,<-rv.length,<-rv2.length,dd.length,dd2.length,rD]at z
   unfold kr
   exact z
  |non=>obtain rfl:y= .non:=d2;cases r2;exact SeqAt.RcNeAt.tuple_none pl hu'
  |bl b=>obtain rfl:y= .bl b:=d2;cases r2;exact SeqAt.RcNeAt.tuple_bool b pl hu'
  |int b=>obtain rfl:y= .int b:=d2;obtain⟨t,rfl⟩:=r2;exact SeqAt.RcNeAt.tuple_int b t pl hu'
  |str b=>obtain rfl:y= .str b:=d2;obtain⟨t,rfl⟩:=r2;exact SeqAt.RcNeAt.tuple_str b t pl hu'
 |non=>
  obtain rfl:x= .non:=d1
  cases r1
  cases q with
  |ref a=>cases f2
  |ty a=>cases f2
  |ro a=>cases f2
  |tup qs=>
   obtain⟨l2,ys,rfl,sq2,dd2⟩:=d2
   cases r2
   obtain⟨its2,rv2,pl2,_⟩:=I.tuple sq2
   exact SeqAt.RcNeAt.none_tuple pl2 hu'
  |non=>obtain rfl:y= .non:=d2;cases r2;exact SeqAt.RcNeAt.none_none
  |bl b=>obtain rfl:y= .bl b:=d2;cases r2;exact SeqAt.RcNeAt.none_bool b
  |int b=>obtain rfl:y= .int b:=d2;obtain⟨t,rfl⟩:=r2;exact SeqAt.RcNeAt.none_int b t
  |str b=>obtain rfl:y= .str b:=d2;obtain⟨t,rfl⟩:=r2;exact SeqAt.RcNeAt.none_str b t
 |bl a=>
  obtain rfl:x= .bl a:=d1
  cases r1
  cases q with
  |ref a=>cases f2
  |ty a=>cases f2
  |ro a=>cases f2
  |tup qs=>
   obtain⟨l2,ys,rfl,sq2,dd2⟩:=d2
   cases r2
   obtain⟨its2,rv2,pl2,_⟩:=I.tuple sq2
   exact SeqAt.RcNeAt.bool_tuple a pl2 hu'
  |non=>obtain rfl:y= .non:=d2;cases r2;exact SeqAt.RcNeAt.bool_none a
  |bl b=>obtain rfl:y= .bl b:=d2;cases r2;exact SeqAt.RcNeAt.bool_bool a b
  |int b=>obtain rfl:y= .int b:=d2;obtain⟨t,rfl⟩:=r2;exact SeqAt.RcNeAt.bool_int a b t
  |str b=>obtain rfl:y= .str b:=d2;obtain⟨t,rfl⟩:=r2;exact SeqAt.RcNeAt.bool_str a b t
 |int a=>
  obtain rfl:x= .int a:=d1
  obtain⟨t',rfl⟩:=r1
  cases q with
  |ref a=>cases f2
  |ty a=>cases f2
  |ro a=>cases f2
  |tup qs=>
   obtain⟨l2,ys,rfl,sq2,dd2⟩:=d2
   cases r2
   obtain⟨its2,rv2,pl2,_⟩:=I.tuple sq2
   exact SeqAt.RcNeAt.int_tuple a t' pl2 hu'
  |non=>obtain rfl:y= .non:=d2;cases r2;exact SeqAt.RcNeAt.int_none a t'
  |bl b=>obtain rfl:y= .bl b:=d2;cases r2;exact SeqAt.RcNeAt.int_bool a t' b
  |int b=>obtain rfl:y= .int b:=d2;obtain⟨t,rfl⟩:=r2;exact SeqAt.RcNeAt.int_int a t' b t
  |str b=>obtain rfl:y= .str b:=d2;obtain⟨t,rfl⟩:=r2;exact SeqAt.RcNeAt.int_str a t' b t
 |str a=>
  obtain rfl:x= .str a:=d1
  obtain⟨t',rfl⟩:=r1
  cases q with
  |ref a=>cases f2
  |ty a=>cases f2
  |ro a=>cases f2
  |tup qs=>
   obtain⟨l2,ys,rfl,sq2,dd2⟩:=d2
   cases r2
   obtain⟨its2,rv2,pl2,_⟩:=I.tuple sq2
   exact SeqAt.RcNeAt.str_tuple a t' pl2 hu'
  |non=>obtain rfl:y= .non:=d2;cases r2;exact SeqAt.RcNeAt.str_none a t'
  |bl b=>obtain rfl:y= .bl b:=d2;cases r2;exact SeqAt.RcNeAt.str_bool a t' b
  |int b=>obtain rfl:y= .int b:=d2;obtain⟨t,rfl⟩:=r2;exact SeqAt.RcNeAt.str_int a t' b t
  |str b=>obtain rfl:y= .str b:=d2;obtain⟨t,rfl⟩:=r2;exact SeqAt.RcNeAt.str_str a t' b t
theorem IR(hu:X.A.units+200<iG):iJ X (bV .Eq) (gf X.K Hv):=by
 intro pins s σ H x y v u Q I rx ry h
 obtain⟨p,q,G,Q2,d1,d2,rp,h,cl⟩:=h
 have fin:∀(f1:dN 100 p=true) (f2:dN 100 q=true),Q2 (.bl (kr p q)) G->wpAny (aQ X.prog X.w) X.A (bV .Eq v u) (EP X pins σ Q) X.xe s:=λf1 f2 hq=>
  NV I p q X.A d1 rx d2 ry f1 f2 (by ac_nf) X.prog X.w X.xe _ ⟨.bl _,H,I,rfl,cl _ _ _ _ hq rfl rp .refl⟩
 unfold Hv at h
 split at h
 ·rename_i a b
  split at h
  ·rename_i ps qs e1 e2
   obtain⟨f1,f2,hq⟩:=h
   obtain rfl:x= .ref a:=d1
   obtain rfl:y= .ref b:=d2
   cases rx
   cases ry
   obtain⟨xs,sa,da⟩:=fU rp e1
   obtain⟨ys,sb,db⟩:=fU rp e2
   obtain⟨us,r,pl,_⟩:=I.list sa
   obtain⟨ws,r',pl',_⟩:=I.list sb
   have l1:=r.length
   have l2:=r'.length
   have l3:=da.length
   have l4:=db.length
   by_cases hl:ps.length=qs.length
   ·refine SeqAt.eq_listAt (e:=wE ps qs) pl.isList pl'.isList (by simp;ac_nf) (by ac_nf) (λj h1 h2=>tF I 100 100 ps qs X.A.in1 da r db r' f1 f2 (by rw[PySem.Around.in1_units];ac_nf) j h1 h2) ⟨.bl (j6 ps qs),H,I,?_,cl _ _ _ _ hq rfl rp .refl⟩
    rw[ax,<-l1,l3,j5 ps qs hl]
    rfl
   ·refine SeqAt.eq_list_lengthsAt pl.isList pl'.isList (by simp;ac_nf) (by ac_nf) ⟨.bl (j6 ps qs),H,I,?_,cl _ _ _ _ hq rfl rp .refl⟩
    rw[nG hl]
    rfl
  ·exact h.elim
 ·exact h.elim
 ·exact h.elim
 ·obtain⟨f1,f2,hq⟩:=h
  exact fin f1 f2 hq
theorem Cr(hu:X.A.units+200<iG):iJ X (bV .NotEq) (gf X.K Jc):=by
 intro pins s σ H x y v u Q I rx ry h
 obtain⟨p,q,G,Q2,d1,d2,rp,h,cl⟩:=h
 have fin:∀(f1:dN 100 p=true) (f2:dN 100 q=true),Q2 (.bl (!kr p q)) G->wpAny (aQ X.prog X.w) X.A (bV .NotEq v u) (EP X pins σ Q) X.xe s:=λf1 f2 hq=>
  Ig I p q X.A d1 rx d2 ry f1 f2 (by ac_nf) X.prog X.w X.xe _ ⟨.bl _,H,I,rfl,cl _ _ _ _ hq rfl rp .refl⟩
 unfold Jc at h
 split at h
 ·rename_i a b
  split at h
  ·rename_i ps qs e1 e2
   obtain⟨f1,f2,hq⟩:=h
   obtain rfl:x= .ref a:=d1
   obtain rfl:y= .ref b:=d2
   cases rx
   cases ry
   obtain⟨xs,sa,da⟩:=fU rp e1
   obtain⟨ys,sb,db⟩:=fU rp e2
   obtain⟨us,r,pl,_⟩:=I.list sa
   obtain⟨ws,r',pl',_⟩:=I.list sb
   have l1:=r.length
   have l2:=r'.length
   have l3:=da.length
   have l4:=db.length
   by_cases hl:ps.length=qs.length
   ·refine SeqAt.RcNeAt.lists (e:=wE ps qs) pl.isList pl'.isList (by simp;ac_nf) (by ac_nf) (λj h1 h2=>tF I 100 100 ps qs X.A.in1 da r db r' f1 f2 (by rw[PySem.Around.in1_units];ac_nf) j h1 h2) _ _ _ _ ⟨.bl (!j6 ps qs),H,I,?_,cl _ _ _ _ hq rfl rp .refl⟩
    rw[ax,<-l1,l3,j5 ps qs hl]
    rfl
   ·refine SeqAt.RcNeAt.lists_lengths pl.isList pl'.isList (by simp;ac_nf) (by ac_nf) _ _ _ _ ⟨.bl (!j6 ps qs),H,I,?_,cl _ _ _ _ hq rfl rp .refl⟩
    rw[nG hl]
    rfl
  ·exact h.elim
 ·exact h.elim
 ·exact h.elim
 ·obtain⟨f1,f2,hq⟩:=h
  exact fin f1 f2 hq
end
theorem J7{K:PySem.W.Frag}{H1:Hp}{a:Addr}{vs:List V}{ps:List PV}(sq:SqT K H1 a vs)(d:Dvs K H1 ps vs):wN K H1 (Itt K a) ps (λ_=>True):=λi H G k r _=>by
 have sq':=k.1 a vs sq
 have d':=d.keep k
 refine⟨λhi=> ?_,λhi=>⟨vs,sq',by rw[d.length];ac_nf⟩,λx H' hi y=> ?_⟩
 ·obtain⟨v,e,_⟩:=d'.at (al hi)
  exact⟨vs,v,sq',e⟩
 ·obtain⟨rfl,y⟩:=y
  obtain⟨p,e,dp⟩:=d'.get (y vs sq')
  exact⟨p,e,.refl,r,dp⟩
theorem DD{K:PySem.W.Frag}{H1:Hp}{a:Addr}{ps:List PV}:wN K H1 (Oz K a) ps (λG=>lk G a=some ps):=λi H G k r c=>by
 obtain⟨vs,sq',d'⟩:=fU r c
 refine⟨λhi=> ?_,λhi=>⟨vs,sq',by rw[d'.length];ac_nf⟩,λx H' hi y=> ?_⟩
 ·obtain⟨v,e,_⟩:=d'.at (al hi)
  exact⟨vs,v,sq',e⟩
 ·obtain⟨rfl,y⟩:=y
  obtain⟨p,e,dp⟩:=d'.get (y vs sq')
  exact⟨p,e,.refl,r,dp⟩
noncomputable def jr(z:Str):List PV:=z.cps.toList.map λc=> .str ⟨#[c]⟩
theorem J8{K:PySem.W.Frag}{H1:Hp}(z:Str):wN K H1 (Ny z) (jr z) (λ_=>True):=λi H G k r _=>by
 have hl:(jr z).length=z.cps.size:=by unfold jr;simp
 refine⟨λhi=> ?_,λhi=> ?_,λx H' hi y=> ?_⟩
 ·show i<z.cps.size
  ac_nf
 ·show z.cps.size<=i
  ac_nf
 ·obtain⟨rfl,c,e,rfl⟩:=y
  refine⟨.str ⟨#[c]⟩,?_,.refl,r,rfl⟩
  unfold jr
  rw[aC]
  have:z.cps.toList[i]? =some c:=by simpa using e
  rw[this];rfl
noncomputable def kf(lo:Int)(n:Nat):List PV:=(bJ n).map fun(i:Nat)=> .int (lo+i)
theorem J9{K:PySem.W.Frag}{H1:Hp}(lo:Int)(n:Nat):wN K H1 (Nz lo n) (kf lo n) (λ_=>True):=λi H G k r _=>by
 have hl:(kf lo n).length=n:=by unfold kf;simp
 refine⟨λhi=> ?_,λhi=> ?_,λx H' hi y=> ?_⟩
 ·show i<n
  ac_nf
 ·show n<=i
  ac_nf
 ·obtain⟨rfl,rfl⟩:=y
  refine⟨.int (lo+i),?_,.refl,r,rfl⟩
  unfold kf
  rw[aC,dB (by ac_nf)]
  rfl
noncomputable abbrev itS(t:E2):su:=λτ G R=>t τ G λp G1=>match p with
 | .tup ps=>R ps (λ_=>True) G1
 | .ref a=>match lk G1 a with
  |some ps=>R ps (λG=>lk G a=some ps) G1
  |none=>False
 | .str z=>R (jr z) (λ_=>True) G1
 |_=>False
noncomputable abbrev AJ(t:A2):su:=λτ G R=>t τ G λps G1=>match ps with
 |[.int j]=> -(2^62)<=j/\j<2^62/\R (kf 0 j.toNat) (λ_=>True) G1
 |_=>False
theorem EA{X:Cx}{pins:List (Addr×Obj)}{σ:L2.St}{H1:Hp}{s1:ai}{x:Str}{px:Pos}{z:Str}{v:ae}{R:It->Hp->Prop}(I1:Inv X pins σ H1 s1)(r1:RelV (.str z) v)(q:R (Ny z) H1):
  wpAny (aQ X.prog X.w) X.A (pyIter v) (Ox X pins σ (.Name x px) R) X.xe s1:=by
 obtain⟨t,rfl⟩:=r1
 cases ha:z.cps.all (· <128)
 ·refine PySem.wpAny_pyIter_wide ha ⟨s1.heap.objs.size,[s1.heap.objs.size],_,_,H1,rfl,I1.kept (t':=s1.toks) λb o e=>af _ e,vt _ z t "str_iterator" (.inr rfl),⟨⟨_,aK _ rfl,rfl,rfl⟩,bt _⟩,λb hb=> ?_,q⟩
  have e:b=s1.heap.objs.size:=by simpa using hb
  subst e
  exact I1.fpOk (ao _) (I1.hok.fresh (ao _))
 ·refine PySem.wpAny_pyIter_ascii ha ⟨s1.heap.objs.size,[s1.heap.objs.size],_,_,H1,rfl,I1.kept (t':=s1.toks) λb o e=>af _ e,vt _ z t "str_ascii_iterator" (.inl rfl),⟨⟨_,aK _ rfl,rfl,rfl⟩,bt _⟩,λb hb=> ?_,q⟩
  have e:b=s1.heap.objs.size:=by simpa using hb
  subst e
  exact I1.fpOk (ao _) (I1.hok.fresh (ao _))
section
variable{X:Cx}{l tg a b:Expr}{t:E2}{ta:A2}{x:Str}{px p pos:Pos}
theorem zw(hl:JE X l t):JI X (.Name x px) l (itS t):=⟨by
 intro pins s σ H R I h
 obtain⟨τ,G,R2,rs,rp,h,cl⟩:=h
 refine eD (hl.h pins s σ H (λv H1=>∃p G1,Dv X.K H1 p v/\Rep X.K H1 G1/\Keep X.K H H1/\(match p with
  | .tup ps=>R2 ps (λ_=>True) G1
  | .ref a=>match lk G1 a with
   |some ps=>R2 ps (λG=>lk G a=some ps) G1
   |none=>False
  | .str z=>R2 (jr z) (λ_=>True) G1
  |_=>False)) I ⟨τ,G,_,rs,rp,h,λp G1 v H1 q d r k=>⟨p,G1,d,r,k,q⟩⟩) λv s1 ⟨y,H1,I1,r1,q,G1,d1,rp1,k1,q1⟩=> ?_
 cases q with
 |tup ps=>
  obtain⟨a,vs,rfl,sq,dv⟩:=d1
  cases r1
  obtain⟨its,rv,p,hz⟩:=I1.tuple sq
  refine wpAny_pyIter_tuple (show s1.heap.IsTuple a its.toArray from p) ?_
  refine⟨s1.heap.objs.size,[s1.heap.objs.size],_,_,H1,rfl,I1.kept (t':=s1.toks) λb o e=>af _ e,xi a _,⟨_,aK _ rfl,rfl,rfl⟩,λb hb=> ?_,cl _ _ _ _ _ q1 rp1 k1 (J7 sq dv)⟩
  have e:b=s1.heap.objs.size:=by simpa using hb
  subst e
  exact I1.fpOk (ao _) (I1.hok.fresh (ao _))
 |ref a=>
  obtain rfl:y= .ref a:=d1
  cases r1
  dsimp only at q1
  split at q1
  ·rename_i ps e
   obtain⟨vs,sq,dv⟩:=fU rp1 e
   obtain⟨its,rv,p,hz⟩:=I1.list sq
   refine uc p.isList ?_
   refine⟨s1.heap.objs.size,[s1.heap.objs.size],_,_,H1,rfl,I1.kept (t':=s1.toks) λb o e=>af _ e,sD a _,⟨_,aK _ rfl,rfl,rfl⟩,λb hb=> ?_,cl _ _ _ _ _ q1 rp1 k1 DD⟩
   have e:b=s1.heap.objs.size:=by simpa using hb
   subst e
   exact I1.fpOk (ao _) (I1.hok.fresh (ao _))
  ·exact q1.elim
 |str z=>
  obtain rfl:y= .str z:=d1
  exact EA I1 r1 (cl _ _ _ _ _ q1 rp1 k1 (J8 z))
 |non=>exact q1.elim
 |bl b=>exact q1.elim
 |int i=>exact q1.elim
 |ty n=>exact q1.elim
 |ro n=>exact q1.elim⟩
theorem AH(hm:X.mg "range" =none)(ha:JA X [a] ta)(hg:Gl X "range" :=by rfl)(hs:au [a] X.env=[(false,eval a X.env)]:=by rfl):JI X tg (.Call (.Name "range" p) [a] [] pos) (AJ ta):= .of (Ah hg hm ha.h hs) λσ H R hPl=>by
 obtain⟨τ,G,R2,rs,rp,h,cl⟩:=hPl
 refine⟨τ,G,_,rs,rp,h,λps G1 vs H1 q d r k=> ?_⟩
 split at q
 ·rename_i j
  obtain⟨v,vr,rfl,d1,d⟩:=d
  obtain rfl:vr=[]:=d
  obtain rfl:v= .int j:=d1
  exact⟨j,rfl,q.1,q.2.1,cl _ _ _ _ _ q.2.2 r k (J9 _ _)⟩
 ·exact q.elim
end
section
end
@[reducible] noncomputable def kX:List (Option Nat)->iS->iS
 |[],_=>[]
 |some i::r,τ=>gt τ i::kX r τ
 |none::r,τ=>none::kX r τ
theorem vb:∀(ix:List (Option Nat)) (τ:iS),kX ix τ=ix.map λo=>match o with
  |some i=>(τ[i]?).getD none
  |none=>none
 |[],_=>rfl
 |some i::r,τ=>by simp only[kX,aw,DI,vb r τ]
 |none::r,τ=>by simp only[kX,aw,vb r τ]
theorem zK{K:PySem.W.Frag}{H:Hp}{σ:L2.St}{τ:iS}(ix:List (Option Nat))(r:RSt K H σ τ):RSt K H (kY ix σ) (kX ix τ):=by
 rw[vb]
 refine⟨by unfold kY;simp,λi p e=> ?_⟩
 unfold kY
 rw[aC]at e⊢
 cases q:ix[i]? with
 |none=>rw[q]at e;cases e
 |some o=>
  cases o with
  |none=>rw[q]at e;cases e
  |some k=>
   rw[q]at e
   have e':some ((τ[k]?).getD none)=some (some p):=e
   have e2:=bf e'
   cases q2:τ[k]? with
   |none=>rw[q2]at e2;cases e2
   |some z=>
    rw[q2]at e2
    have e3:z=some p:=e2
    subst e3
    obtain⟨v,ev,d⟩:=r.2 k p q2
    refine⟨v,?_,d⟩
    show some ((σ[k]?).getD none)=_
    rw[ev]
    rfl
noncomputable def M4(items:List PV)(c:Gp->Prop)(ix:List (Option Nat))(j:Nat)(τ:iS)(tf:T2)(te:E2)(Q:K2)(G1:Gp)(acc:Addr):Prop:=
 ∃W:Nat->List PV->Gp->Prop,W 0 [] (up G1 acc (.lst []))/\(∀i ys G,i<=items.length->W i ys G->c G/\G acc=some (.lst ys)/\ys.length<16000000)/\
  (∀i ys G x,items[i]? =some x->W i ys G->tf (st (kX ix τ) j (some x)) G λb G2=>og b (te (st (kX ix τ) j (some x)) G2 λy G3=>G3 acc=some (.lst ys)/\W (i+1) (ys++[y]) (up G3 acc (.lst (ys++[y])))) (W (i+1) ys G2))/\∀ys G,W items.length ys G->Q (.ref acc) G
noncomputable abbrev tG(ti:su)(ix:List (Option Nat))(j:Nat)(tf:T2)(te:E2):E2:=λτ G Q=>ti τ G λitems c G1=>∀acc,G1 acc=none->M4 items c ix j τ tf te Q G1 acc
structure JF(X:Cx)(ifs:List Expr)(t:T2):Prop where
 h:PF X ifs (wb X.K t)
noncomputable abbrev ke:T2:=λ_ G Q=>Q true G
section
variable{X:Cx}{c:Expr}{tA:T2}
theorem Jv:JF X [] ke:=⟨λpins s σ H Q I ⟨τ,G,Q2,rs,rp,q,cl⟩=>Iy pins s σ H Q I (cl _ _ _ q rp .refl)⟩
theorem Ju(h:JT X c tA):JF X [c] tA:=⟨Ix h.h⟩
theorem wa{ti:su}{ix:List (Option Nat)}{j:Nat}{tf:T2}{te:E2}{σ:L2.St}{H:Hp}{Q:VK}(q:lD X.K (tG ti ix j tf te) σ H Q):BA (FL X.K ti) ix j (wb X.K tf) (lD X.K te) σ H Q:=by
 obtain⟨τ,G,Q2,rs,rp,q,cl⟩:=q
 refine⟨τ,G,_,rs,rp,q,λitems c G1 J H1 q1 r1 k1 ok acc hacc=> ?_⟩
 obtain⟨W,w0,hW,turn,done⟩:=q1 acc (r1.none hacc)
 have kn:Keep X.K H1 (upd H1 acc (.lst [])):=cg hacc
 refine⟨λi m H'=>m=items.length-i/\i<=items.length/\∃ys G',W i ys G'/\Rep X.K H' G'/\Keep X.K H1 H',⟨_,rfl,bt _,[],_,w0,r1.new hacc .nil,kn⟩,?_⟩
 rintro i m H2 ⟨rfl,hi,ys,G2,w2,r2,k2⟩
 obtain⟨hc,hacc2,hys⟩:=hW i ys G2 hi w2
 obtain⟨o1,o2,o3⟩:=ok i H2 G2 k2 r2 hc
 by_cases hlt:i<items.length
 ·refine .inr ⟨o1 hlt,λx H3 y=> ?_⟩
  obtain⟨p,ep,k3,r3,d3⟩:=o3 x H3 hlt y
  have k13:=k2.trans k3
  have rs3:RSt X.K H3 ((kY ix σ).set j (some x)) (st (kX ix τ) j (some p)):=(zK ix (rs.keep (k1.trans k13))).set d3 j
  refine⟨_,G2,_,rs3,r3,turn i ys G2 p ep w2,λb G4 H4 q4 r4 k4=> ?_⟩
  have k14:=k13.trans k4
  cases b with
  |false=>exact se ⟨items.length-(i+1),by ac_nf,rfl,hlt,ys,G4,q4,r4,k14⟩
  |true=>
   refine sd ⟨_,G4,_,rs3.keep k4,r4,q4,λy G5 v H5 q5 d5 r5 k5=> ?_⟩
   obtain⟨ea,w5⟩:=q5
   obtain⟨vs,hv,dv⟩:=r5.lst ea
   refine⟨vs,hv,by rw[dv.length];exact D8 (iE hys),items.length-(i+1),by ac_nf,rfl,hlt,ys++[y],_,w5,r5.put hv (dv.append (.cons d5 .nil)),(k14.trans k5).trans (gl hv)⟩
 ·have e:i=items.length:=by ac_nf
  subst e
  exact .inl ⟨o2 rfl,cl _ _ _ _ (done ys G2 w2) rfl r2 (k1.trans k2)⟩
theorem q9{scope:er}{M:List Str}{ix:List (Option Nat)}{j:Nat}{x:Str}{elt iter:Expr}{px pos:Pos}{ifs:List Expr}{ti:su}{tf:T2}{te:E2}(S:dJ X.env.scope X.N scope M ix j x=true)(hc:X.calm=true)(hi:JI X (.Name x px) iter ti)
  (hb:∀C s H fp,JF (cb X M scope C s H fp) ifs tf/\JE (cb X M scope C s H fp) elt te) (hs:∀x,en iter X.env x=pure x:=by intro _;rfl):
  JE X (.ListComp elt [⟨.Name x px,iter,ifs,0⟩] scope pos) (tG ti ix j tf te):= .of (Fi (DW S) hc hi.h (λC s H fp=>⟨(hb C s H fp).1.h,(hb C s H fp).2.h⟩) hs) λσ H Q q=>wa q
theorem nw{scope:er}{M:List Str}{ix:List (Option Nat)}{j n:Nat}{x y:Str}{elt iter:Expr}{px py pos spos:Pos}{ifs:List Expr}{ti:su}{tf:T2}{te:E2}(hN:X.N.Nodup)(hi:X.N[n]? =some y)(hy:X.env.scope.names.lookup y=some .local)
  (S:dJ X.env.scope X.N scope M ix j x=true) (hc:X.calm=true) (hit:JI X (.Name x px) iter ti)
  (hb:∀C s H fp,JF (cb X M scope C s H fp) ifs tf/\JE (cb X M scope C s H fp) elt te)
  (hsw:gQ (.ListComp elt [⟨.Name x px,iter,ifs,0⟩] scope pos) (some (.Name y py)) spos.line X.env=pure true:=by rfl) (hs:∀x,en iter X.env x=pure x:=by intro _;rfl):
  JS X (.Assign [.Name y py] (.ListComp elt [⟨.Name x px,iter,ifs,0⟩] scope pos) spos) (oE (tG ti ix j tf te) (gN n)):= .of (EY hN hi hy (DW S) hc hit.h (λC s H fp=>⟨(hb C s H fp).1.h,(hb C s H fp).2.h⟩) hsw hs) λD σ H ⟨τ,G,D2,rs,rp,q,cl⟩=>by
 exact wa (X:=X) ⟨τ,G,_,rs,rp,q,λp G1 v H1 q1 d1 r1 k1=>cl.nx _ _ _ _ q1 ((rs.keep k1).set d1 n) r1 k1⟩
theorem rL{items:List PV}{c:Gp->Prop}{ix:List (Option Nat)}{j:Nat}{τ:iS}{tf:T2}{te:E2}{Q:K2}{G1:Gp}{acc:Addr}(f:PV->Bool)(g:PV->PV)(hz:items.length<16000000)
  (hc:∀ys,c (up G1 acc (.lst ys))) (ht:∀x ys (R:Bool->Gp->Prop),x∈items->R (f x) (up G1 acc (.lst ys))->tf (st (kX ix τ) j (some x)) (up G1 acc (.lst ys)) R)
  (he:∀x ys (R:K2),x∈items->f x=true->R (g x) (up G1 acc (.lst ys))->te (st (kX ix τ) j (some x)) (up G1 acc (.lst ys)) R)
  (hq:Q (.ref acc) (up G1 acc (.lst ((items.filter f).map g)))):M4 items c ix j τ tf te Q G1 acc:=by
 refine⟨λi ys G=>ys=((items.take i).filter f).map g/\G=up G1 acc (.lst ys),⟨by simp,rfl⟩,?_,?_,?_⟩
 ·rintro i ys G hi ⟨rfl,rfl⟩
  refine⟨hc _,aj,?_⟩
  rw[ak]
  exact pQ (aR (lX _ _) (by rw[bv];ac_nf)) hz
 ·rintro i ys G x hx ⟨rfl,rfl⟩
  have hm:=av hx
  have tk:items.take (i+1)=items.take i++[x]:=by rw[bB,hx];rfl
  refine ht x _ _ hm ?_
  cases hf:f x with
  |true=>
   refine iK rfl ?_
   refine he x _ _ hm hf ⟨aj,?_,gJ⟩
   rw[tk,jH,a8]
   simp[hf]
  |false=>
   refine nX rfl ⟨?_,rfl⟩
   rw[tk,jH]
   simp[hf]
 ·rintro ys G ⟨rfl,rfl⟩
  rw[bi]
  exact hq
end
noncomputable def yp:B2:=λp q G Q=>match p,q with
 | .int i,.int j=>Q (.int (i+j)) G
 | .str a,.str b=>a.length+b.length<=16000000/\Q (.str (a++b)) G
 | .tup xs,.tup ys=>xs≠[]/\xs.length+ys.length<=16000000/\Q (.tup (xs++ys)) G
 | .ref a,.ref b=>match lk G a,lk G b with
  |some ps,some qs=>ps.length+qs.length<=16000000/\∀c,G c=none->Q (.ref c) (up G c (.lst (ps++qs)))
  |_,_=>False
 | .ref a,.ro qs=>match lk G a with
  |some ps=>ps.length+qs.length<=16000000/\∀c,G c=none->Q (.ref c) (up G c (.lst (ps++qs)))
  |none=>False
 |_,_=>False
noncomputable abbrev i2(C:Int->Int->Prop)(g:Int->Int->PV):B2:=λp q G Q=>match p,q with
 | .int i,.int j=>C i j/\Q (g i j) G
 |_,_=>False
noncomputable abbrev Ki(g:Int->Int->PV):B2:=λp q G Q=>match p,q with
 | .int i,.int j=>Q (g i j) G
 |_,_=>False
noncomputable abbrev LN:B2:=λp q G Q=>match p,q with
 | .int i,.int j=>Q (.bl (decide (i<j))) G
 | .str a,.str b=>Q (.bl (decide (a.cps.toList<b.cps.toList))) G
 |_,_=>False
noncomputable abbrev Oc:B2:=λp q G Q=>match p,q with
 | .int i,.int j=>Q (.bl (decide (i<=j))) G
 | .str a,.str b=>Q (.bl (!(decide (b.cps.toList<a.cps.toList)))) G
 |_,_=>False
noncomputable abbrev Om:B2:=Ki λi j=> .bl (decide (j<i))
noncomputable abbrev oX:B2:=Ki λi j=> .bl (decide (j<=i))
noncomputable abbrev HQ:B2:=Ki λi j=> .int (i-j)
noncomputable abbrev LL:B2:=i2 (λ_ j=>0<j) λi j=> .int (i%j)
noncomputable abbrev DN:B2:=i2 HC λi j=> .int (i/j)
noncomputable abbrev Lp:B2:=i2 KJ λi j=> .int (i^j.toNat)
noncomputable def FG:B2:=λp q G Q=>match p,q with
 | .int i,.int j=>CMul i j/\Q (.int (i*j)) G
 | .ref a,.int k=>match G a with
  |some (.lst ps)=>(-(2^63)<=k/\k<2^63)/\ps.length*k.toNat<=16000000/\∀c,G c=none->Q (.ref c) (up G c (.lst (bI k.toNat ps).flatten))
  |_=>False
 |_,_=>False
section
variable{X:Cx}
theorem yc{f:ae->ae->Sem ae}{C:Int->Int->Prop}{g:Int->Int->V}{g':Int->Int->PV}(h:iJ X f (rI C g))(hg:∀i j H,Dv X.K H (g' i j) (g i j)):iJ X f (gf X.K (i2 C g')):=by
 intro pins s σ H x y v u Q I rx ry h'
 obtain⟨p,q,G,Q2,d1,d2,rp,q',cl⟩:=h'
 unfold i2 at q'
 split at q'
 ·rename_i i j
  obtain rfl:x= .int i:=d1
  obtain rfl:y= .int j:=d2
  exact h pins s σ H _ _ v u Q I rx ry ⟨i,j,rfl,rfl,q'.1,cl _ _ _ _ q'.2 (hg i j H) rp .refl⟩
 ·exact q'.elim
theorem uM{f:ae->ae->Sem ae}{g:Int->Int->V}{g':Int->Int->PV}(h:iJ X f (EN g))(hg:∀i j H,Dv X.K H (g' i j) (g i j)):iJ X f (gf X.K (Ki g')):=by
 intro pins s σ H x y v u Q I rx ry h'
 obtain⟨p,q,G,Q2,d1,d2,rp,q',cl⟩:=h'
 unfold Ki at q'
 split at q'
 ·rename_i i j
  obtain rfl:x= .int i:=d1
  obtain rfl:y= .int j:=d2
  exact h pins s σ H _ _ v u Q I rx ry ⟨i,j,rfl,rfl,cl _ _ _ _ q' (hg i j H) rp .refl⟩
 ·exact q'.elim
theorem LC:iJ X (dM .Sub) (gf X.K HQ):=uM IK λ_ _ _=>rfl
theorem LG:iJ X (dM .Mod) (gf X.K LL):=yc IP λ_ _ _=>rfl
theorem IZ:iJ X (dM .FloorDiv) (gf X.K DN):=yc Ct λ_ _ _=>rfl
theorem LD:iJ X (dM .Pow) (gf X.K Lp):=yc IM λ_ _ _=>rfl
theorem N9:iJ X (bV .Gt) (gf X.K Om):=uM Lz λ_ _ _=>rfl
theorem LI:iJ X (bV .GtE) (gf X.K oX):=uM LA λ_ _ _=>rfl
theorem IY:iJ X (bV .Lt) (gf X.K LN):=by
 intro pins s σ H x y v u Q I rx ry h
 obtain⟨p,q,G,Q2,d1,d2,rp,h,cl⟩:=h
 unfold LN at h
 split at h
 ·rename_i i j
  obtain rfl:x= .int i:=d1
  obtain rfl:y= .int j:=d2
  exact Lx pins s σ H _ _ v u Q I rx ry ⟨i,j,rfl,rfl,cl _ _ _ _ h rfl rp .refl⟩
 ·rename_i i j
  obtain rfl:x= .str i:=d1
  obtain rfl:y= .str j:=d2
  exact Aj pins s σ H _ _ v u Q I rx ry ⟨i,j,rfl,rfl,cl _ _ _ _ h rfl rp .refl⟩
 ·exact h.elim
theorem N7:iJ X (bV .LtE) (gf X.K Oc):=by
 intro pins s σ H x y v u Q I rx ry h
 obtain⟨p,q,G,Q2,d1,d2,rp,h,cl⟩:=h
 unfold Oc at h
 split at h
 ·rename_i i j
  obtain rfl:x= .int i:=d1
  obtain rfl:y= .int j:=d2
  exact Ly pins s σ H _ _ v u Q I rx ry ⟨i,j,rfl,rfl,cl _ _ _ _ h rfl rp .refl⟩
 ·rename_i i j
  obtain rfl:x= .str i:=d1
  obtain rfl:y= .str j:=d2
  exact Ak pins s σ H _ _ v u Q I rx ry ⟨i,j,rfl,rfl,cl _ _ _ _ h rfl rp .refl⟩
 ·exact h.elim
theorem Hl:iJ X (dM .Add) (gf X.K yp):=by
 intro pins s σ H x y v u Q I rx ry h
 obtain⟨p,q,G,Q2,d1,d2,rp,h,cl⟩:=h
 unfold yp at h
 split at h
 ·rename_i i j
  obtain rfl:x= .int i:=d1
  obtain rfl:y= .int j:=d2
  exact IS pins s σ H _ _ v u Q I rx ry ⟨i,j,rfl,rfl,cl _ _ _ _ h rfl rp .refl⟩
 ·rename_i i j
  obtain rfl:x= .str i:=d1
  obtain rfl:y= .str j:=d2
  exact xI pins s σ H _ _ v u Q I rx ry ⟨i,j,rfl,rfl,big h.1,cl _ _ _ _ h.2 rfl rp .refl⟩
 ·rename_i xs ys
  obtain⟨a,vs,rfl,sa,da⟩:=d1
  obtain⟨b,us,rfl,sb,db⟩:=d2
  obtain⟨ne,hl,hq⟩:=h
  have la:=da.length
  have lb:=db.length
  refine Fn pins s σ H _ _ v u Q I rx ry ⟨a,b,vs,us,rfl,rfl,sa,sb,?_,by rw[la,lb];exact big hl,λe=> ?_,λ_ c hc=> ?_⟩
  ·intro e;subst e
   exact ne (sv (by rw[<-la];rfl))
  ·subst e
   have ey:ys=[]:=sv (by rw[<-lb];rfl)
   subst ey
   rw[dS]at hq
   exact cl _ _ _ _ hq ⟨a,vs,rfl,sa,da⟩ rp .refl
  ·have kn:Keep X.K H (upd H c (.tup (vs++us))):=cg hc
   exact cl _ _ _ _ hq ⟨c,_,rfl,.of cw,(da.append db).keep kn⟩ (rp.tup hc) kn
 ·rename_i a b
  split at h
  ·rename_i ps qs e1 e2
   obtain⟨hl,hq⟩:=h
   obtain rfl:x= .ref a:=d1
   obtain rfl:y= .ref b:=d2
   obtain⟨vs,sa,da⟩:=fU rp e1
   obtain⟨us,sb,db⟩:=fU rp e2
   refine zm pins s σ H _ _ v u Q I rx ry ⟨a,b,vs,us,rfl,rfl,sa,sb,by rw[da.length,db.length];exact big hl,λc hc=> ?_⟩
   exact cl _ _ _ _ (hq c (rp.none hc)) rfl (rp.new hc (da.append db)) (cg hc)
  ·exact h.elim
 ·rename_i a qs
  split at h
  ·rename_i ps e1
   obtain⟨hl,hq⟩:=h
   obtain rfl:x= .ref a:=d1
   obtain⟨b,us,rfl,sb,db⟩:=d2
   obtain⟨vs,sa,da⟩:=fU rp e1
   refine zm pins s σ H _ _ v u Q I rx ry ⟨a,b,vs,us,rfl,rfl,sa,sb.sq,by rw[da.length,db.length];exact big hl,λc hc=> ?_⟩
   exact cl _ _ _ _ (hq c (rp.none hc)) rfl (rp.new hc (da.append db)) (cg hc)
  ·exact h.elim
 ·exact h.elim
theorem Dvs.rep{K:PySem.W.Frag}{H:Hp}{ps:List PV}{vs:List V}(d:Dvs K H ps vs):∀n,Dvs K H (bI n ps).flatten (bI n vs).flatten
 |0=>rfl
 |n+1=>by
  rw[dA,dA,dP,dP]
  exact d.append (Dvs.rep d n)
theorem LF:iJ X (dM .Mult) (gf X.K FG):=by
 intro pins s σ H x y v u Q I rx ry h
 obtain⟨p,q,G,Q2,d1,d2,rp,h,cl⟩:=h
 unfold FG at h
 split at h
 ·rename_i i j
  obtain rfl:x= .int i:=d1
  obtain rfl:y= .int j:=d2
  exact IN pins s σ H _ _ v u Q I rx ry ⟨i,j,rfl,rfl,h.1,cl _ _ _ _ h.2 rfl rp .refl⟩
 ·rename_i a k
  split at h
  ·rename_i ps e
   obtain⟨hk,hl,hq⟩:=h
   obtain rfl:x= .ref a:=d1
   obtain rfl:y= .int k:=d2
   obtain⟨vs,ha,da⟩:=rp.lst e
   refine IL pins s σ H _ _ v u Q I rx ry ⟨a,k,vs,rfl,rfl,ha,hk.1,hk.2,by rw[da.length];exact big hl,λc hc=> ?_⟩
   exact cl _ _ _ _ (hq c (rp.none hc)) rfl (rp.new hc (da.rep _)) (cg hc)
  ·exact h.elim
 ·exact h.elim
end
noncomputable abbrev Mp:B2:=λp q G Q=>match p,q with
 | .non,.non=>Q (.bl true) G
 |_,.non=>Q (.bl false) G
 |_,_=>False
noncomputable def kS:PV->Bool
 | .non=>true
 | .bl _=>true
 | .int _=>true
 | .str _=>true
 |_=>false
noncomputable def Kh(x:PV)(ps:List PV):Bool:=ps.any λy=>kr y x
noncomputable def Mq(neg:Bool):B2:=λp q G Q=>match q with
 | .tup ps=>kS p=true/\ps.all kS=true/\Q (.bl (if neg then !Kh p ps else Kh p ps)) G
 | .ref a=>match lk G a with
  |some ps=>kS p=true/\ps.all kS=true/\Q (.bl (if neg then !Kh p ps else Kh p ps)) G
  |none=>False
 | .str j=>match p with
  | .str i=>Q (.bl (if neg then !(!(gC j i 0 j.length 1).isEmpty)else !(gC j i 0 j.length 1).isEmpty)) G
  |_=>False
 |_=>False
section
variable{X:Cx}
theorem yd{K:PySem.W.Frag}{H:Hp}{p:PV}{v:V}(f:kS p=true)(d:Dv K H p v):lP v=true:=by
 cases p with
 |non=>obtain rfl:v= .non:=d;rfl
 |bl b=>obtain rfl:v= .bl b:=d;rfl
 |int b=>obtain rfl:v= .int b:=d;rfl
 |str b=>obtain rfl:v= .str b:=d;rfl
 |_=>cases f
theorem GC{K:PySem.W.Frag}{H:Hp}{p q:PV}{v u:V}(f1:kS p=true)(f2:kS q=true)(d1:Dv K H p v)(d2:Dv K H q u):GD v u=kr p q:=by
 cases p with
 |non=>
  obtain rfl:v= .non:=d1
  cases q with
  |non=>obtain rfl:u= .non:=d2;rfl
  |bl b=>obtain rfl:u= .bl b:=d2;rfl
  |int b=>obtain rfl:u= .int b:=d2;rfl
  |str b=>obtain rfl:u= .str b:=d2;rfl
  |_=>cases f2
 |bl a=>
  obtain rfl:v= .bl a:=d1
  cases q with
  |non=>obtain rfl:u= .non:=d2;rfl
  |bl b=>obtain rfl:u= .bl b:=d2;rfl
  |int b=>obtain rfl:u= .int b:=d2;rfl
  |str b=>obtain rfl:u= .str b:=d2;rfl
  |_=>cases f2
 |int a=>
  obtain rfl:v= .int a:=d1
  cases q with
  |non=>obtain rfl:u= .non:=d2;rfl
  |bl b=>obtain rfl:u= .bl b:=d2;rfl
  |int b=>obtain rfl:u= .int b:=d2;rfl
  |str b=>obtain rfl:u= .str b:=d2;rfl
  |_=>cases f2
 |str a=>
  obtain rfl:v= .str a:=d1
  cases q with
  |non=>obtain rfl:u= .non:=d2;rfl
  |bl b=>obtain rfl:u= .bl b:=d2;rfl
  |int b=>obtain rfl:u= .int b:=d2;rfl
  |str b=>obtain rfl:u= .str b:=d2;rfl
  |_=>cases f2
 |_=>cases f1
theorem uP{K:PySem.W.Frag}{H:Hp}{x:PV}{xv:V}(fx:kS x=true)(dx:Dv K H x xv):∀{ps:List PV} {vs:List V},ps.all kS=true->Dvs K H ps vs->vs.all lP=true/\No xv vs=Kh x ps
 |[],vs,_,d=>by rw[show vs=[]from d];exact⟨rfl,rfl⟩
 |p::ps,vs,f,d=>by
  obtain⟨v,r,rfl,d1,d2⟩:=d
  rw[kh,bp]at f
  obtain⟨h1,h2⟩:=uP fx dx f.2 d2
  refine⟨by rw[kh,yd f.1 d1,h1];rfl,?_⟩
  unfold No Kh at h2⊢
  rw[cR,cR,GC f.1 fx d1 dx,h2]
theorem N8:iJ X (bV .In) (gf X.K (Mq false)):=by
 intro pins s σ H x y v u Q I rx ry h
 obtain⟨p,q,G,Q2,d1,d2,rp,h,cl⟩:=h
 unfold Mq at h
 split at h
 ·rename_i ps
  obtain⟨f1,f2,hq⟩:=h
  obtain⟨b,us,rfl,sb,db⟩:=d2
  obtain⟨g1,g2⟩:=uP f1 d1 f2 db
  refine sZ pins s σ H _ _ v u Q I rx ry ⟨b,us,rfl,.inr sb,yd f1 d1,g1,?_⟩
  rw[g2]
  exact cl _ _ _ _ hq rfl rp .refl
 ·rename_i b
  split at h
  ·rename_i ps e
   obtain⟨f1,f2,hq⟩:=h
   obtain rfl:y= .ref b:=d2
   obtain⟨us,sb,db⟩:=fU rp e
   obtain⟨g1,g2⟩:=uP f1 d1 f2 db
   refine sZ pins s σ H _ _ v u Q I rx ry ⟨b,us,rfl,.inl sb,yd f1 d1,g1,?_⟩
   rw[g2]
   exact cl _ _ _ _ hq rfl rp .refl
  ·exact h.elim
 ·rename_i j
  split at h
  ·rename_i i
   obtain rfl:x= .str i:=d1
   obtain rfl:y= .str j:=d2
   exact Al pins s σ H _ _ v u Q I rx ry ⟨i,j,rfl,rfl,cl _ _ _ _ h rfl rp .refl⟩
  ·exact h.elim
 ·exact h.elim
theorem FE{K:PySem.W.Frag}{H:Hp}{p:PV}{v:V}(d:Dv K H p v):(v= .non)↔(p= .non):=by
 cases p with
 |non=>obtain rfl:v= .non:=d;simp
 |tup ps=>obtain⟨a,vs,rfl,_⟩:=d;simp
 |bl b=>obtain rfl:v= .bl b:=d;simp
 |int b=>obtain rfl:v= .int b:=d;simp
 |str b=>obtain rfl:v= .str b:=d;simp
 |ref b=>obtain rfl:v= .ref b:=d;simp
 |ty b=>obtain rfl:v= .ty b:=d;simp
 |ro b=>obtain⟨a,vs,rfl,_⟩:=d;simp
theorem LH:iJ X (bV .Is) (gf X.K Mp):=by
 intro pins s σ H x y v u Q I rx ry h
 obtain⟨p,q,G,Q2,d1,d2,rp,h,cl⟩:=h
 have z:=FE d1
 cases q with
 |non=>
  obtain rfl:y= .non:=d2
  refine IQ pins s σ H _ _ v u Q I rx ry ⟨rfl,?_⟩
  cases p with
  |non=>rw[decide_eq_true (z.mpr rfl)];exact cl _ _ _ _ h rfl rp .refl
  |_=>rw[decide_eq_false (λe=>nomatch (z.mp e))];exact cl _ _ _ _ h rfl rp .refl
 |_=>cases p<;>exact bQ h
end
noncomputable def ra:B2:=λp q G Q=>match p,q with
 | .tup ps,.int i=>match qh ps i with
  |some x=>Q x G
  |none=>False
 | .ref a,.int i=>match lk G a with
  |some ps=>match qh ps i with
   |some x=>Q x G
   |none=>False
  |none=>False
 | .str z,.int i=>z.length<=16000000/\match qh z.cps.toList i with
  |some c=>Q (.str ⟨#[c]⟩) G
  |none=>False
 |_,_=>False
theorem Eb{K:PySem.W.Frag}{H:Hp}{ps:List PV}{vs:List V}{i:Int}{p:PV}(d:Dvs K H ps vs)(h:qh ps i=some p):∃v,qh vs i=some v/\Dv K H p v:=by
 unfold qh at h⊢
 rw[d.length]
 cases e:AI ps.length i with
 |none=>rw[e]at h;cases h
 |some j=>
  rw[e]at h
  exact d.at h
theorem KS{X:Cx}:KR X (gf X.K ra):=by
 intro va sl pins s σ H x y v u Q I rx ry h hs
 obtain⟨p,q,G,Q2,d1,d2,rp,h,cl⟩:=h
 unfold ra at h
 split at h
 ·rename_i ps i
  split at h
  ·rename_i z e
   obtain⟨a,vs,rfl,sa,da⟩:=d1
   obtain rfl:y= .int i:=d2
   obtain⟨w,ew,dw⟩:=Eb da e
   exact J0 va sl pins s σ H _ _ v u Q I rx ry ⟨a,vs,i,w,rfl,rfl,sa,ew,cl _ _ _ _ h dw rp .refl⟩ hs
  ·exact h.elim
 ·rename_i a i
  split at h
  ·rename_i ps e0
   split at h
   ·rename_i z e
    obtain rfl:x= .ref a:=d1
    obtain rfl:y= .int i:=d2
    obtain⟨vs,sa,da⟩:=fU rp e0
    obtain⟨w,ew,dw⟩:=Eb da e
    exact Gn va sl pins s σ H _ _ v u Q I rx ry ⟨a,vs,i,w,rfl,rfl,sa,ew,cl _ _ _ _ h dw rp .refl⟩ hs
   ·exact h.elim
  ·exact h.elim
 ·rename_i z i
  obtain⟨hz,h⟩:=h
  split at h
  ·rename_i c e
   obtain rfl:x= .str z:=d1
   obtain rfl:y= .int i:=d2
   exact J6 va sl pins s σ H _ _ v u Q I rx ry ⟨z,i,c,rfl,rfl,big hz,e,cl _ _ _ _ h rfl rp .refl⟩ hs
  ·exact h.elim
 ·exact h.elim
noncomputable def jy:C2:=λps G Q=>match ps with
 |[.tup xs]=>Q (.int xs.length) G
 |[.ref a]=>match lk G a with
  |some xs=>Q (.int xs.length) G
  |none=>False
 |[.str z]=>z.length<=16000000/\Q (.int z.length) G
 |_=>False
theorem fR{K:PySem.W.Frag}{H:Hp}{p:PV}{vs:List V}(d:Dvs K H [p] vs):∃v,vs=[v]/\Dv K H p v:=by
 obtain⟨v,r,rfl,d1,d2⟩:=d
 obtain rfl:r=[]:=d2
 exact⟨v,rfl,d1⟩
theorem uf{K:PySem.W.Frag}{H:Hp}{p q:PV}{vs:List V}(d:Dvs K H [p,q] vs):∃v u,vs=[v,u]/\Dv K H p v/\Dv K H q u:=by
 obtain⟨v,r,rfl,d1,d2⟩:=d
 obtain⟨u,rfl,d3⟩:=fR d2
 exact⟨v,u,rfl,d1,d3⟩
section
variable{X:Cx}
theorem M0:iF X (.builtin "len") (qT X.K jy):=by
 intro pins s σ H xs us Q I rs h
 obtain⟨ps,G,Q2,d,rp,h,cl⟩:=h
 unfold jy at h
 split at h
 ·rename_i ys
  obtain⟨v,rfl,dv⟩:=fR d
  obtain⟨a,vs,rfl,sa,da⟩:=dv
  refine nP pins s σ H _ us Q I rs ⟨a,vs,rfl,.inr sa,?_⟩
  rw[da.length]
  exact cl _ _ _ _ h rfl rp .refl
 ·rename_i a
  split at h
  ·rename_i ys e
   obtain⟨v,rfl,dv⟩:=fR d
   obtain rfl:v= .ref a:=dv
   obtain⟨vs,sa,da⟩:=fU rp e
   refine nP pins s σ H _ us Q I rs ⟨a,vs,rfl,.inl sa,?_⟩
   rw[da.length]
   exact cl _ _ _ _ h rfl rp .refl
  ·exact h.elim
 ·rename_i z
  obtain⟨v,rfl,dv⟩:=fR d
  obtain rfl:v= .str z:=dv
  exact vc pins s σ H _ us Q I rs ⟨z,rfl,big h.1,cl _ _ _ _ h.2 rfl rp .refl⟩
 ·exact h.elim
noncomputable def Db:C2:=λps G Q=>match ps with
 |[.int i,.int j]=>Q (.int (if j>i then j else i)) G
 |_=>False
theorem Kw(hc:X.calm=true):iF X (.builtin "max") (qT X.K Db):=by
 intro pins s σ H xs us Q I rs h
 obtain⟨ps,G,Q2,d,rp,h,cl⟩:=h
 unfold Db at h
 split at h
 ·rename_i i j
  obtain⟨v,u,rfl,dv,du⟩:=uf d
  obtain rfl:v= .int i:=dv
  obtain rfl:u= .int j:=du
  exact AX hc pins s σ H _ us Q I rs ⟨i,j,rfl,cl _ _ _ _ h rfl rp .refl⟩
 ·exact h.elim
noncomputable def lZ:C2:=λps G Q=>match ps with
 |[.tup xs]=>Q (.tup xs) G
 |[.ref a]=>match lk G a with
  |some xs=>Q (.tup xs) G
  |none=>False
 |_=>False
theorem GO:iF X (.type "tuple") (qT X.K lZ):=by
 intro pins s σ H xs us Q I rs h
 obtain⟨ps,G,Q2,d,rp,h,cl⟩:=h
 unfold lZ at h
 split at h
 ·rename_i ys
  obtain⟨v,rfl,dv⟩:=fR d
  obtain⟨a,vs,rfl,sa,da⟩:=dv
  exact lU pins s σ H _ us Q I rs ⟨a,vs,rfl,.inr ⟨sa,cl _ _ _ _ h ⟨a,vs,rfl,sa,da⟩ rp .refl⟩⟩
 ·rename_i a
  obtain⟨v,rfl,dv⟩:=fR d
  obtain rfl:v= .ref a:=dv
  split at h
  ·rename_i ys e
   obtain⟨vs,sa,da⟩:=fU rp e
   refine lU pins s σ H _ us Q I rs ⟨a,vs,rfl,.inl ⟨sa,λc hc=> ?_⟩⟩
   have kn:Keep X.K H (upd H c (.tup vs)):=cg hc
   exact cl _ _ _ _ h ⟨c,vs,rfl,.of cw,da.keep kn⟩ (rp.tup hc) kn
  ·exact h.elim
 ·exact h.elim
noncomputable def me:List PV->Option (List Int)
 |[]=>some []
 | .int b::r=>(me r).map (b::·)
 |_=>none
theorem wu{K:PySem.W.Frag}{H:Hp}:∀{ps:List PV} {bs:List Int} {vs:List V},me ps=some bs->Dvs K H ps vs->vs=bs.map V.int
 |[],bs,vs,h,d=>by cases h;exact d
 |p::ps,bs,vs,h,d=>by
  obtain⟨v,r,rfl,d1,d2⟩:=d
  cases p with
  |int b=>
   unfold me at h
   cases e:me ps with
   |none=>rw[e]at h;cases h
   |some cs=>
    rw[e]at h
    cases h
    obtain rfl:v= .int b:=d1
    rw[wu e d2]
    rfl
  |_=>cases h
theorem ya(ns:List Int):me (ns.map PV.int)=some ns:=by
 induction ns with
 |nil=>rfl
 |cons n ns ih=>rw[aw];unfold me;rw[ih];rfl
theorem zB{K:PySem.W.Frag}{H:Hp}:∀(l:List Int),Dvs K H (l.map PV.int) (l.map V.int)
 |[]=>rfl
 |i::l=>⟨_,_,rfl,rfl,zB l⟩
noncomputable def z7:C2:=λps G Q=>match ps with
 |[.ref a]=>match lk G a with
  |some xs=>match me xs with
   |some ns=>Q (.int ns.sum) G
   |none=>False
  |none=>False
 |_=>False
theorem MZ(hc:X.calm=true):iF X (.builtin "sum") (qT X.K z7):=by
 intro pins s σ H xs us Q I rs h
 obtain⟨ps,G,Q2,d,rp,h,cl⟩:=h
 unfold z7 at h
 split at h
 ·rename_i a
  split at h
  ·rename_i ys e
   split at h
   ·rename_i ns eb
    obtain⟨v,rfl,dv⟩:=fR d
    obtain rfl:v= .ref a:=dv
    obtain⟨vs,sa,da⟩:=fU rp e
    obtain rfl:=wu eb da
    obtain⟨u,rfl,ru⟩:=rs.one
    cases ru
    obtain⟨its,r,pl,_⟩:=I.list sa
    have hi:=yb r
    obtain⟨zs,ez⟩:=hi.allInts.items
    refine sum_intListG (I.ok.hd hc) (xs:=zs) (by rw[<-ez];exact pl.isList) λh' tk t' hk=> ?_
    refine⟨.int ns.sum,H,I.kept (t':=tk) λb o e=>hk b o e,⟨t',?_⟩,cl _ _ _ _ h rfl rp .refl⟩
    have e1:numsOf its=ns:=hi.numsOf
    have e2:its.toArray.toList=its:=rfl
    rw[<-e2,ez,nums_intItems]at e1
    rw[preSum_eq,im (by simp)]
    rw[<-e1]
   ·exact h.elim
  ·exact h.elim
 ·exact h.elim
end
noncomputable def Nn(p:PV)(G:Gp):Prop:=match p with
 | .ref a=>∃ps,G a=some (.lst ps)
 |_=>False
noncomputable abbrev uT(r:M2)(to:E2)(t:A2):E2:=λτ G Q=>to τ G λx G1=>Nn x G1/\t τ G1 λps G2=>r x ps G2 Q
noncomputable abbrev Hw(r:M2)(to:E2):E2:=λτ G Q=>to τ G λx G1=>Nn x G1/\r x [] G1 Q
noncomputable abbrev GG(r:M2)(to:E2)(t:A2):E2:=λτ G Q=>to τ G λx G1=>match x with
 | .str _=>t τ G1 λps G2=>r x ps G2 Q
 |_=>False
section
variable{X:Cx}{o e:Expr}{es:List Expr}{to:E2}{t:A2}{name:Str}{apos cpos:Pos}{id:String}{r:M2}
theorem DE{K:PySem.W.Frag}{H:Hp}{p:PV}{v:V}{G:Gp}(h:Nn p G)(d:Dv K H p v)(rp:Rep K H G):Nh K "list" v H:=by
 cases p with
 |ref a=>
  obtain⟨ps,e⟩:=h
  obtain rfl:v= .ref a:=d
  obtain⟨vs,hv,_⟩:=rp.lst e
  exact .inl ⟨rfl,vs,.of hv⟩
 |_=>exact h.elim
theorem Ho(slot:Slot "list" name id)(hty:typeOf (.builtin id)=pure (.type "method_descriptor"))(hm:Ej X id (xV X.K r))(ho:JE X o to)(ha:JA X (e::es) t)
  (hbase:cy o name X.env (eval o X.env)=eval o X.env:=by rfl)
  (hfew:((bT cpos (au (e::es) X.env)).all (λx=> !x.1)&&(ic cpos (eL [] X.env)).all (λx=>x.1.isSome)&&decide ((e::es).length+([]:List gA).length+(if([]:List gA).isEmpty then 0 else 1)<30))=true:=by rfl)
  (hline:(apos.endLine==cpos.line)=true:=by rfl) (hs:au (e::es) X.env=(false,eval e X.env)::au es X.env:=by rfl) (hplain:(bT cpos (au es X.env)).any (·.1)=false:=by rfl):
  JE X (.Call (.Attribute o name apos) (e::es) [] cpos) (uT r to t):= .of (Hk PySem.F.plainAttrs_list slot hty hm ho.h ha.h hbase hfew hline hs hplain) λσ H Q ⟨τ,G,Q2,rs,rp,q,cl⟩=>by
 refine⟨τ,G,_,rs,rp,q,λp G1 v H1 q1 d1 r1 k1=>⟨DE q1.1 d1 r1,τ,G1,_,rs.keep k1,r1,q1.2,λps G2 vs H2 q2 d2 r2 k2=> ?_⟩⟩
 exact⟨p,ps,G2,Q2,d1.keep k2,d2,r2,q2,cl.keep (k1.trans k2)⟩
theorem JN(slot:Slot "list" name id)(hty:typeOf (.builtin id)=pure (.type "method_descriptor"))(hm:Ej X id (xV X.K r))(ho:JE X o to)
  (hbase:cy o name X.env (eval o X.env)=eval o X.env:=by rfl) (hline:(apos.endLine==cpos.line)=true:=by rfl):
  JE X (.Call (.Attribute o name apos) [] [] cpos) (Hw r to):= .of (IH PySem.F.plainAttrs_list slot hty hm ho.h hbase hline) λσ H Q ⟨τ,G,Q2,rs,rp,q,cl⟩=>by
 refine⟨τ,G,_,rs,rp,q,λp G1 v H1 q1 d1 r1 k1=>⟨DE q1.1 d1 r1,?_⟩⟩
 exact⟨p,[],G1,Q2,d1,.nil,r1,q1.2,cl.keep k1⟩
theorem Mg(slot:Slot "str" name id)(hty:typeOf (.builtin id)=pure (.type "method_descriptor"))(hm:Ej X id (xV X.K r))(ho:JE X o to)(ha:JA X (e::es) t)
  (hbase:cy o name X.env (eval o X.env)=eval o X.env:=by rfl)
  (hfew:((bT cpos (au (e::es) X.env)).all (λx=> !x.1)&&(ic cpos (eL [] X.env)).all (λx=>x.1.isSome)&&decide ((e::es).length+([]:List gA).length+(if([]:List gA).isEmpty then 0 else 1)<30))=true:=by rfl)
  (hline:(apos.endLine==cpos.line)=true:=by rfl) (hs:au (e::es) X.env=(false,eval e X.env)::au es X.env:=by rfl) (hplain:(bT cpos (au es X.env)).any (·.1)=false:=by rfl):
  JE X (.Call (.Attribute o name apos) (e::es) [] cpos) (GG r to t):= .of (Hk PySem.F.plainAttrs_str slot hty hm ho.h ha.h hbase hfew hline hs hplain) λσ H Q ⟨τ,G,Q2,rs,rp,q,cl⟩=>by
 refine⟨τ,G,_,rs,rp,q,λp G1 v H1 q1 d1 r1 k1=> ?_⟩
 cases p with
 |str z=>
  obtain rfl:v= .str z:=d1
  refine⟨rfl,τ,G1,_,rs.keep k1,r1,q1,λps G2 vs H2 q2 d2 r2 k2=> ?_⟩
  exact⟨.str z,ps,G2,Q2,rfl,d2,r2,q2,cl.keep (k1.trans k2)⟩
 |_=>exact bQ q1
noncomputable def j9:M2:=λp ps G Q=>match p,ps with
 | .ref a,[y]=>match G a with
  |some (.lst xs)=>xs.length<16000000/\Q .non (up G a (.lst (xs++[y])))
  |_=>False
 |_,_=>False
theorem De:Ej X "list.append" (xV X.K j9):=by
 intro pins s σ H x xs v us Q I rx rs h
 obtain⟨p,ps,G,Q2,d,ds,rp,h,cl⟩:=h
 unfold j9 at h
 split at h
 ·rename_i a y
  split at h
  ·rename_i zs e
   obtain rfl:x= .ref a:=d
   obtain⟨w,rfl,dw⟩:=fR ds
   obtain⟨vs,hv,dv⟩:=rp.lst e
   exact oN pins s σ H _ _ v us Q I rx rs ⟨a,vs,w,rfl,rfl,hv,by rw[dv.length];exact D8 (iE h.1),cl _ _ _ _ h.2 rfl (rp.put hv (dv.append (.cons dw .nil))) (gl hv)⟩
  ·exact h.elim
 ·exact h.elim
noncomputable def gU:M2:=λp ps G Q=>match p,ps with
 | .ref a,[.tup ys]=>match G a with
  |some (.lst xs)=>xs.length+ys.length<=16000000/\Q .non (up G a (.lst (xs++ys)))
  |_=>False
 | .ref a,[.ref b]=>match G a,G b with
  |some (.lst xs),some (.lst ys)=>xs.length+ys.length<=16000000/\Q .non (up G a (.lst (xs++ys)))
  |_,_=>False
 |_,_=>False
theorem Dd:Ej X "list.extend" (xV X.K gU):=by
 intro pins s σ H x xs v us Q I rx rs h
 obtain⟨p,ps,G,Q2,d,ds,rp,h,cl⟩:=h
 unfold gU at h
 split at h
 ·rename_i a ys
  split at h
  ·rename_i zs e
   obtain rfl:x= .ref a:=d
   obtain⟨w,rfl,dw⟩:=fR ds
   obtain⟨b,ws,rfl,sb,db⟩:=dw
   obtain⟨vs,hv,dv⟩:=rp.lst e
   exact xQ pins s σ H _ _ v us Q I rx rs ⟨a,b,vs,ws,rfl,rfl,hv,sb,by rw[dv.length,db.length];exact big h.1,cl _ _ _ _ h.2 rfl (rp.put hv (dv.append db)) (gl hv)⟩
  ·exact h.elim
 ·rename_i a b
  split at h
  ·rename_i zs ys e1 e2
   obtain rfl:x= .ref a:=d
   obtain⟨w,rfl,dw⟩:=fR ds
   obtain rfl:w= .ref b:=dw
   obtain⟨vs,hv,dv⟩:=rp.lst e1
   obtain⟨ws,hb,db⟩:=rp.lst e2
   exact As pins s σ H _ _ v us Q I rx rs ⟨a,b,vs,ws,rfl,rfl,hv,hb,by rw[dv.length,db.length];exact big h.1,cl _ _ _ _ h.2 rfl (rp.put hv (dv.append db)) (gl hv)⟩
  ·exact h.elim
 ·exact h.elim
noncomputable def Cg:M2:=λp ps G Q=>match p,ps with
 | .ref a,[]=>match G a with
  |some (.lst xs)=>match xs[xs.length-1]? with
   |some y=>Q y (up G a (.lst xs.dropLast))
   |none=>False
  |_=>False
 |_,_=>False
theorem Dvs.dropLast{K:PySem.W.Frag}{H:Hp}{ps:List PV}{vs:List V}(d:Dvs K H ps vs):Dvs K H ps.dropLast vs.dropLast:=by
 rw[List.dropLast_eq_take,List.dropLast_eq_take,d.length]
 exact d.take _
theorem LM:Ej X "list.pop" (xV X.K Cg):=by
 intro pins s σ H x xs v us Q I rx rs h
 obtain⟨p,ps,G,Q2,d,ds,rp,h,cl⟩:=h
 unfold Cg at h
 split at h
 ·rename_i a
  split at h
  ·rename_i zs e
   split at h
   ·rename_i y ey
    obtain rfl:x= .ref a:=d
    obtain rfl:xs=[]:=ds
    obtain⟨vs,hv,dv⟩:=rp.lst e
    obtain⟨w,ew,dw⟩:=dv.at ey
    refine Jd pins s σ H _ _ v us Q I rx rs ⟨a,vs,w,rfl,rfl,hv,by rw[dv.length];exact ew,cl _ _ _ _ h (dw.keep (gl hv)) (rp.put hv dv.dropLast) (gl hv)⟩
   ·exact h.elim
  ·exact h.elim
 ·exact h.elim
noncomputable def l5:List PV->Option (List Str)
 |[]=>some []
 | .str b::r=>(l5 r).map (b::·)
 |_=>none
theorem vF{K:PySem.W.Frag}{H:Hp}:∀{ps:List PV} {bs:List Str} {vs:List V},l5 ps=some bs->Dvs K H ps vs->vs=bs.map V.str
 |[],bs,vs,h,d=>by cases h;exact d
 |p::ps,bs,vs,h,d=>by
  obtain⟨v,r,rfl,d1,d2⟩:=d
  cases p with
  |str b=>
   unfold l5 at h
   cases e:l5 ps with
   |none=>rw[e]at h;cases h
   |some cs=>
    rw[e]at h
    cases h
    obtain rfl:v= .str b:=d1
    rw[vF e d2]
    rfl
  |_=>cases h
theorem xp(ns:List Str):l5 (ns.map PV.str)=some ns:=by
 induction ns with
 |nil=>rfl
 |cons n ns ih=>rw[aw];unfold l5;rw[ih];rfl
noncomputable def qY:M2:=λp ps G Q=>match p,ps with
 | .str z,[.ref a]=>match lk G a with
  |some xs=>match l5 xs with
   |some ys=>(ys.map (·.length)).sum+ys.length*z.length<=16000000/\Q (.str (i8 z ys)) G
   |none=>False
  |none=>False
 |_,_=>False
theorem Jf:Ej X "str.join" (xV X.K qY):=by
 intro pins s σ H x xs v us Q I rx rs h
 obtain⟨p,ps,G,Q2,d,ds,rp,h,cl⟩:=h
 unfold qY at h
 split at h
 ·rename_i z a
  split at h
  ·rename_i ws e
   split at h
   ·rename_i ys ey
    obtain rfl:x= .str z:=d
    obtain⟨w,rfl,dw⟩:=fR ds
    obtain rfl:w= .ref a:=dw
    obtain⟨vs,sa,da⟩:=fU rp e
    obtain rfl:=vF ey da
    exact FH pins s σ H _ _ v us Q I rx rs ⟨z,a,ys,rfl,rfl,sa,aR h.1 (by decide),cl _ _ _ _ h.2 rfl rp .refl⟩
   ·exact h.elim
  ·exact h.elim
 ·exact h.elim
end
noncomputable abbrev O2:=iS->Gp->(Option Int->Gp->Prop)->Prop
noncomputable def Ob(K:PySem.W.Frag)(t:O2):TO:=λσ H Q=>∃τ G Q2,RSt K H σ τ/\Rep K H G/\t τ G Q2/\∀o G' H',Q2 o G'->Rep K H' G'->Keep K H H'->Q o H'
structure JO(X:Cx)(e:Option Expr)(t:O2):Prop where
 h:PO X e (Ob X.K t)
noncomputable abbrev Nl:O2:=λ_ G Q=>Q none G
noncomputable abbrev zn(t:E2):O2:=λτ G Q=>t τ G λx G1=>match x with
 | .int i=>Q (some i) G1
 |_=>False
noncomputable def sh(xs:List PV)(lo hi:Option Int):List PV:=(xs.drop (HT.sIx xs.length 0 lo)).take (HT.sIx xs.length xs.length hi-HT.sIx xs.length 0 lo)
noncomputable def Em:PV->Option Int->Option Int->Gp->K2->Prop:=λp lo hi G Q=>match p with
 | .tup xs=>¬(HT.sIx xs.length 0 lo=0/\HT.sIx xs.length xs.length hi=xs.length)/\Q (.tup (sh xs lo hi)) G
 | .ref a=>match lk G a with
  |some xs=>∀c,G c=none->Q (.ref c) (up G c (.lst (sh xs lo hi)))
  |none=>False
 | .str z=>z.length<=16000000/\Q (.str (Txt.slice z lo hi)) G
 |_=>False
noncomputable def Hn(K:PySem.W.Frag)(r:PV->Option Int->Option Int->Gp->K2->Prop):V->Option Int->Option Int->Hp->VK->Prop:=λx lo hi H Q=>∃p G Q2,Dv K H p x/\Rep K H G/\r p lo hi G Q2/\Cl K H Q2 Q
noncomputable abbrev eSl(te:E2)(tl th:O2):E2:=λτ G Q=>te τ G λx G1=>tl τ G1 λl G2=>th τ G2 λu G3=>Em x l u G3 Q
section
variable{X:Cx}{e:Expr}{te:E2}{lo hi:Option Expr}{tl th:O2}{pos p2:Pos}
theorem F0:JO X none Nl:=⟨λpins s σ H Q I ⟨τ,G,Q2,rs,rp,q,cl⟩=>E4 pins s σ H Q I (cl _ _ _ q rp .refl)⟩
theorem FZ(h:JE X e te):JO X (some e) (zn te):=⟨λpins s σ H Q I ⟨τ,G,Q2,rs,rp,q,cl⟩=>E3 h.h pins s σ H Q I ⟨τ,G,_,rs,rp,q,λp G1 v H1 q1 d1 r1 k1=>by
 cases p with
 |int i=>
  obtain rfl:v= .int i:=d1
  exact⟨i,rfl,cl _ _ _ q1 r1 k1⟩
 |_=>exact bQ q1⟩⟩
theorem Hz{K:PySem.W.Frag}{H:Hp}{ps:List PV}{vs:List V}(d:Dvs K H ps vs)(lo hi:Option Int):Dvs K H (sh ps lo hi) (uY vs lo hi):=by
 unfold sh uY
 rw[d.length]
 exact(d.drop _).take _
theorem BY:KD X (Hn X.K Em):=by
 intro pins s σ H x v vl vu lo hi sl Q I rx hs pl pu h
 obtain⟨p,G,Q2,d,rp,h,cl⟩:=h
 unfold Em at h
 split at h
 ·rename_i xs
  obtain⟨a,vs,rfl,sa,da⟩:=d
  refine HS pins s σ H _ v vl vu lo hi sl Q I rx hs pl pu ⟨a,vs,rfl,sa,by rw[da.length];exact h.1,λc hc=> ?_⟩
  have kn:Keep X.K H (upd H c (.tup (uY vs lo hi))):=cg hc
  exact cl _ _ _ _ h.2 ⟨c,_,rfl,.of cw,(Hz da lo hi).keep kn⟩ (rp.tup hc) kn
 ·rename_i a
  split at h
  ·rename_i xs e
   obtain rfl:x= .ref a:=d
   obtain⟨vs,sa,da⟩:=fU rp e
   exact ED pins s σ H _ v vl vu lo hi sl Q I rx hs pl pu ⟨a,vs,rfl,sa,λc hc=>cl _ _ _ _ (h c (rp.none hc)) rfl (rp.new hc (Hz da lo hi)) (cg hc)⟩
  ·exact h.elim
 ·rename_i z
  obtain rfl:x= .str z:=d
  exact HU pins s σ H _ v vl vu lo hi sl Q I rx hs pl pu ⟨z,rfl,big h.1,cl _ _ _ _ h.2 rfl rp .refl⟩
 ·exact h.elim
theorem Gk(he:JE X e te)(hl:JO X lo tl)(hu:JO X hi th):JE X (.Subscript e (.Slice lo hi none p2) pos) (eSl te tl th):= .of (vW BY he.h hl.h hu.h) λσ H Q hPl=>by
 obtain⟨τ,G,Q2,rs,rp,q,cl⟩:=hPl
 refine⟨τ,G,_,rs,rp,q,λp G1 v H1 q1 d1 r1 k1=>⟨τ,G1,_,rs.keep k1,r1,q1,λl G2 H2 q2 r2 k2=>⟨τ,G2,_,rs.keep (k1.trans k2),r2,q2,λu G3 H3 q3 r3 k3=> ?_⟩⟩⟩
 exact⟨p,G3,Q2,d1.keep (k2.trans k3),r3,q3,cl.keep ((k1.trans k2).trans k3)⟩
end
theorem Ag(its:Array ae):slicePick its none none (some (-1))=its.toList.reverse.toArray:=by
 rw[<-HT.pick_rev its]
 unfold slicePick
 show(List.filterMap (λx=>its[x]?) (sliceRange ((its.size:Int)-1) (-1) (-1))).toArray=_
 have e:sliceRange ((its.size:Int)-1) (-1) (-1)=(bJ its.size).map fun(k:Nat)=>((its.size:Int)-1+(-1)*(k:Int)).toNat:=by
  unfold sliceRange
  have c:(if(-1:Int)>0 then(if((its.size:Int)-1)< -1 then(-1-((its.size:Int)-1)+ -1-1)/ -1 else 0)else(if((its.size:Int)-1)> -1 then(((its.size:Int)-1)- -1- -1-1)/(-(-1))else 0)).toNat=its.size:=by
   rw[if_neg (by decide),show(-(-1:Int))=1 from rfl,Int.ediv_one]
   split<;>ac_nf
  simp only[c]
 rw[e,List.filterMap_map]
 have f:((λx=>its[x]?)∘fun(k:Nat)=>((its.size:Int)-1+(-1)*(k:Int)).toNat)=fun(m:Nat)=>its[((its.size:Int)-1+(m:Int)*(-1)).toNat]? :=by
  funext m
  show its[((its.size:Int)-1+(-1)*(m:Int)).toNat]? =_
  rw[Int.mul_comm]
 rw[f]
noncomputable abbrev Oq(te:E2):E2:=λτ G Q=>te τ G λx G1=>match x with
 | .tup xs=>Q (.tup xs.reverse) G1
 | .ref a=>match lk G1 a with
  |some xs=>∀c,G1 c=none->Q (.ref c) (up G1 c (.lst xs.reverse))
  |none=>False
 |_=>False
section
variable{X:Cx}
theorem Mc{e:Expr}{te:E2}{k:Nat}{p1 p2 p3 pos:Pos}(he:JE X e te):JE X (.Subscript e (.Slice none none (some (.UnaryOp .USub (.Constant (.int 1) k p1) p3)) p2) pos) (Oq te):=⟨by
 intro pins s σ H Q I h
 obtain⟨τ,G,Q2,rs,rp,h,cl⟩:=h
 refine PyProof.Rows.Subscript_ (eD (he.h pins s σ H (λv H1=>∃p G1,Dv X.K H1 p v/\Rep X.K H1 G1/\Keep X.K H H1/\(match p with
  | .tup xs=>Q2 (.tup xs.reverse) G1
  | .ref a=>match lk G1 a with
   |some xs=>∀c,G1 c=none->Q2 (.ref c) (up G1 c (.lst xs.reverse))
   |none=>False
  |_=>False)) I ⟨τ,G,_,rs,rp,h,λp G1 v H1 q d r k=>⟨p,G1,d,r,k,q⟩⟩) λv s1 ⟨x,H1,I1,r1,q,G1,d1,rp1,k1,q1⟩=> ?_)
 refine wpAny_Slice ?_
 rw[evalPart_none]
 refine aq (aq ?_)
 have hm:PE X (.UnaryOp .USub (.Constant (.int 1) k p1) p3) (tUn (rU λi=> .int (-i)) (tC (.int 1))):=Hj Bp Ck
 refine eD (hm pins s1 σ H1 (λv H'=>v= .int (-1)/\H'=H1) I1 ⟨1,rfl,rfl,rfl⟩) λst s3 hPl=> ?_
 obtain⟨v3,H3,I3,r3,e3,eh⟩:=hPl
 subst e3 eh
 obtain⟨tk,rfl⟩:=r3
 have I4:=I3.kept (t':=s3.toks) (h':=s3.heap.push {cls:= .type "slice",data:= .fields #[.none,.none,.int (-1) tk]}) λb ob q=>af _ q
 have hfr:=I4.hok.fresh (ao _)
 cases q with
 |tup ps=>
  obtain⟨a,xs,rfl,hq,da⟩:=d1
  cases r1
  obtain⟨its,rv,pl,hz⟩:=I4.tuple hq
  have hl:=rv.length
  refine PyProof.Rows.tail_any (ops:=[.ref a,.ref s3.heap.objs.size]) pl.typeIs bw.lookup ?_ (by with_unfolding_all rfl)
  refine HT.getItem_tuple_rev pl (ky ..) ?_ (by rw[ax]<;>ac_nf)
  have kn:=cg (K:=X.K) (o:= .tup xs.reverse) hfr
  refine⟨.ref _,_,I4.laid (t':=s3.toks) (o:= .tup xs.reverse) (λb ob q=>af _ q) (ao _) ?_,rfl,cl _ _ _ _ q1 ⟨_,_,rfl,.of cw,da.reverse.keep kn⟩ (rp1.tup hfr) (k1.trans kn)⟩
  exact⟨by rw[dW];exact hz,its.reverse,rv.reverse,⟨_,aK _ rfl,rfl,0,by simp⟩⟩
 |ref a=>
  dsimp only at q1
  split at q1
  ·rename_i ps e
   obtain rfl:x= .ref a:=d1
   cases r1
   obtain⟨xs,hq,da⟩:=fU rp1 e
   obtain⟨its,rv,pl,hz⟩:=I4.list hq
   have hl:=rv.length
   refine PyProof.Rows.tail_any (ops:=[.ref a,.ref s3.heap.objs.size]) pl.isList.typeIs ur.lookup ?_ (by with_unfolding_all rfl)
   refine Bl pl.isList (ky ..) .none .none (.int (-1) tk) (by simp) ?_ (by rw[ax]<;>ac_nf)
   rw[Ag]
   refine⟨.ref _,_,I4.laid (t':=s3.toks) (o:= .lst xs.reverse) (λb ob q=>af _ q) (ao _) ?_,rfl,cl _ _ _ _ (q1 _ (rp1.none hfr)) rfl (rp1.new hfr da.reverse) (k1.trans (cg hfr))⟩
   exact⟨by rw[dW];exact hz,its.reverse,0,rv.reverse,by rw[aK _ rfl]⟩
  ·exact q1.elim
 |_=>exact bQ q1⟩
end
noncomputable def NA(p:PV)(G:Gp):Option String:=match p with
 | .non=>some "NoneType"
 | .bl _=>some "bool"
 | .int _=>some "int"
 | .str _=>some "str"
 | .tup _=>some "tuple"
 | .ref a=>match G a with
  |some (.lst _)=>some "list"
  |some (.dK _)=>some "dict"
  |_=>none
 |_=>none
noncomputable def Nm(ty T:String):Bool:=ty==T||(ty== "bool" &&T== "int")
noncomputable abbrev tys:List String:=["NoneType", "bool", "int", "str", "tuple", "list", "dict"]
noncomputable abbrev Ow:List String:=["bool", "int", "str", "tuple", "list"]
theorem md{K:PySem.W.Frag}{ty T:String}(h1:ty∈tys)(h2:T∈Ow):PySem.W.kitOne K (.type ty) (.type T)=some (Nm ty T):=by
 simp only[aI,bC,or_false]at h1 h2
 rcases h1 with rfl|rfl|rfl|rfl|rfl|rfl|rfl<;>rcases h2 with rfl|rfl|rfl|rfl|rfl<;>kernel_rfl
noncomputable def wv:C2:=λps G Q=>match ps with
 |[p,.ty T]=>match NA p G with
  |some ty=>T∈Ow/\Q (.bl (Nm ty T)) G
  |none=>False
 |_=>False
section
variable{X:Cx}
theorem Kx:iF X (.builtin "isinstance") (qT X.K wv):=by
 intro pins s σ H xs us Q I rs h
 obtain⟨ps,G,Q2,d,rp,h,cl⟩:=h
 unfold wv at h
 split at h
 ·rename_i p T
  split at h
  ·rename_i ty e
   obtain⟨hT,hq⟩:=h
   obtain⟨v,w,rfl,dv,dw⟩:=uf d
   obtain rfl:w= .ty T:=dw
   cases rs with
   |cons r1 rs=>
    obtain⟨u,rfl,ru⟩:=Vals.one rs
    cases ru
    have fin:∀tk,EP X pins σ Q (.bool (Nm ty T)) {s with toks:=tk}:=λtk=>⟨.bl _,H,I.tok tk,rfl,cl _ _ _ _ hq rfl rp .refl⟩
    unfold NA at e
    split at e
    ·cases e;obtain rfl:v= .non:=dv;cases r1;exact PySem.W.kia_one PySem.W.kitx_none I.kIn cE (md (by decide) hT) (λz=>nomatch z) fin
    ·cases e;rename_i b;obtain rfl:v= .bl b:=dv;cases r1;exact PySem.W.kia_one PySem.W.kitx_bool I.kIn cE (md (by decide) hT) (λz=>nomatch z) fin
    ·cases e;rename_i b;obtain rfl:v= .int b:=dv;obtain⟨t,rfl⟩:=r1;exact PySem.W.kia_one PySem.W.kitx_int I.kIn cE (md (by decide) hT) (λz=>nomatch z) fin
    ·cases e;rename_i b;obtain rfl:v= .str b:=dv;obtain⟨t,rfl⟩:=r1;exact PySem.W.kia_one PySem.W.kitx_str I.kIn cE (md (by decide) hT) (λz=>nomatch z) fin
    ·cases e
     obtain⟨a,vs,rfl,sq,_⟩:=dv
     cases r1
     obtain⟨its,_,pl,_⟩:=I.tuple sq
     obtain⟨o,h1,h2,_⟩:=pl
     exact PySem.W.kia_one PySem.W.kitx_tuple I.kIn ⟨o,h1,h2⟩ (md (by decide) hT) (λz=>nomatch z) fin
    ·rename_i a
     split at e
     ·cases e
      rename_i qs eg
      obtain rfl:v= .ref a:=dv
      cases r1
      obtain⟨vs,hv,_⟩:=rp.lst eg
      obtain⟨_,_,n,_,h1⟩:=(show ObjOk X.prog X.w H s.heap a (.lst vs)from I.hok a _ hv)
      exact PySem.W.kia_one PySem.W.kitx_list I.kIn ⟨_,h1,rfl⟩ (md (by decide) hT) (λz=>nomatch z) fin
     ·cases e
      rename_i qs eg
      obtain rfl:v= .ref a:=dv
      obtain⟨vs,hv,_⟩:=rp a _ eg
      exact AK I r1 (.dK hv) (md (by decide) hT) fin
     ·cases e
    ·cases e
  ·exact h.elim
 ·exact h.elim
end
end L3
namespace PySem.SeqAt
open AutoSeq1 (wpAny_loadPart')
open MeetsSeq MeetsSeq2 MeetsSeq3 SeqRoads2
open Builtin Builtin.Range
end PySem.SeqAt
namespace L3
open PySem L2
section
end
noncomputable def Itd(lo:Int)(n:Nat):It:=⟨λi _=>i<n,λi H x H'=>H'=H/\x= .int (lo-i),λi _=>n<=i⟩
noncomputable def jP(lo:Int)(n:Nat):List PV:=(bJ n).map fun(i:Nat)=> .int (lo-i)
theorem Gs{K:PySem.W.Frag}{H1:Hp}(lo:Int)(n:Nat):wN K H1 (Itd lo n) (jP lo n) (λ_=>True):=λi H G k r _=>by
 have hl:(jP lo n).length=n:=by unfold jP;simp
 refine⟨λhi=> ?_,λhi=> ?_,λx H' hi y=> ?_⟩
 ·show i<n
  ac_nf
 ·show n<=i
  ac_nf
 ·obtain⟨rfl,rfl⟩:=y
  refine⟨.int (lo-i),?_,.refl,r,rfl⟩
  unfold jP
  rw[aC,dB (by ac_nf)]
  rfl
theorem zW{P:aJ}{w:aV}{K:PySem.W.Frag}{tg:Expr}(it:Addr)(lo:Int)(n:Nat):sr P w K tg (Itd lo n) [it] it (λi h=>IsRangeIter h it (lo+(i:Nat)*(-1)) ((n:Int)-(i:Nat)) (-1)) where
 mem:=by simp
 obj:=λi h st b hb=>by
  have e:b=it:=by simpa using hb
  subst e
  exact⟨_,st,λv z=>by
   have z':dD _=rS v:=z
   cases z'⟩
 keep:=λi h h' st k=>k it (by simp) _ st
 item:=by
  intro X hP hw hK hc i pins s σ H E I hf st hg
  subst hP hw hK
  obtain⟨f0,f1,f2,f3,f4,f5⟩:=hf it (by simp)
  have W:=Walks.range (prog:=X.prog) (w:=X.w) (I.ok.hd hc) it lo (-1) n
  refine W.item i s _ _ hg st λv h' tk hv st' kk=> ?_
  obtain⟨t,rfl⟩:=hv
  have I1:Inv X pins σ H {s with heap:=h',toks:=tk}:=I.turned (λb o hb e=>kk b o (by simpa using hb) e) f0 f1 f3 f4 f5
  refine⟨_,rfl,wx (s:={s with heap:=h',toks:=tk}) (n:= "range_iterator") st' rfl rfl (by decide) ⟨.int (lo-i),H,I1,⟨t,?_⟩,⟨rfl,rfl⟩,st',λb hb=>(hf b hb).1⟩⟩
  rw[show lo+(i:Int)*(-1)=lo-i by ac_nf]
 done:=by
  intro X hP hw hK hc i pins s σ H E I hf st hg
  subst hP hw hK
  obtain⟨f0,f1,f2,f3,f4,f5⟩:=hf it (by simp)
  exact wpAny_pyNext_range_end (I.ok.hd hc) st (by have:n<=i:=hg;ac_nf) λh' eb=>⟨rfl,I.turned (t':=s.toks) (λb o hb e=>eb b o hb e) f0 f1 f3 f4 f5⟩
 self:=λ_ _ _ _ _ st h=>wpAny_pyIter_rangeiter st h
theorem kH(a b:Int):gj a b (-1)=(((a-b).toNat:Nat):Int):=by
 unfold gj
 rw[if_neg (by decide),show(-(-1:Int))=1 from rfl,Int.ediv_one]
 split<;>ac_nf
theorem xA{a b:Int}(ha: -(2^62)<=a)(ha':a<2^62)(hb: -(2^62)<=b)(hb':b<2^62):cu.Range.small a b (-1)=true:=by
 unfold cu.Range.small
 rw[kH]
 simp only[cu.Range.rangeFitsLong,bp,Bool.or_eq_true,decide_eq_true_eq,beq_iff_eq,show¬((-1:Int)>0)by decide,if_false]
 ac_nf
noncomputable abbrev itD(t:A2):su:=λτ G R=>t τ G λps G1=>match ps with
 |[.int a,.int b,.int c]=>c= -1/\(-(2^62)<=a/\a<2^62/\-(2^62)<=b/\b<2^62)/\R (jP a (a-b).toNat) (λ_=>True) G1
 |_=>False
section
variable{X:Cx}{tg a b c:Expr}{ta:A2}{p pos:Pos}
theorem AG(hm:X.mg "range" =none)(ha:JA X [a,b,c] ta)(hg:Gl X "range" :=by rfl)(hs:au [a,b,c] X.env=(false,eval a X.env)::au [b,c] X.env:=by rfl)(hs2:(bT pos (au [b,c] X.env)).any (·.1)=false:=by rfl):
  JI X tg (.Call (.Name "range" p) [a,b,c] [] pos) (itD ta):=⟨by
 intro pins s σ H R I h
 obtain⟨τ,G,R2,rs,rp,h,cl⟩:=h
 refine PyProof.Rows.Call_ (oP I hg hm PyProof.Rows.boot_range (fE (eD (ha.h pos pins s σ H (λvs H1=>∃ps G1,Dvs X.K H1 ps vs/\Rep X.K H1 G1/\Keep X.K H H1/\(match ps with
  |[.int a,.int b,.int c]=>c= -1/\(-(2^62)<=a/\a<2^62/\-(2^62)<=b/\b<2^62)/\R2 (jP a (a-b).toNat) (λ_=>True) G1
  |_=>False)) I ⟨τ,G,_,rs,rp,h,λps G1 vs H1 q d r k=>⟨ps,G1,d,r,k,q⟩⟩) λus s1 ⟨vs,H1,I1,r1,ps,G1,d1,rp1,k1,q1⟩=> ?_) hs hs2))
 split at q1
 ·rename_i a b c
  obtain⟨rfl,⟨b1,b2,b3,b4⟩,q⟩:=q1
  obtain⟨v1,z,rfl,e1,d1⟩:=d1
  obtain⟨v2,v3,rfl,e2,e3⟩:=uf d1
  obtain rfl:v1= .int a:=e1
  obtain rfl:v2= .int b:=e2
  obtain rfl:v3= .int (-1):=e3
  cases r1 with
  |cons r1 r2=>
   cases r2 with
   |cons r2 r3=>
    cases r3 with
    |cons r3 r4=>
     cases r4
     obtain⟨t1,rfl⟩:=r1
     obtain⟨t2,rfl⟩:=r2
     obtain⟨t3,rfl⟩:=r3
     refine call_range_3 (by decide) ?_ (.inl (PyProof.noPylong_small (by decide)))
     refine wpAny_pyIter_range (IsRange.new ..) (xA b1 b2 b3 b4) ?_
     have I2:Inv X pins σ H1 {s1 with heap:=s1.heap.push {cls:= .type "range",data:= .fields #[.int a t1,.int b t2,.int (-1) t3]},toks:=s1.toks}:=I1.kept λb o e=>af _ e
     refine⟨(s1.heap.push {cls:= .type "range",data:= .fields #[.int a t1,.int b t2,.int (-1) t3]}).objs.size,[(s1.heap.push {cls:= .type "range",data:= .fields #[.int a t1,.int b t2,.int (-1) t3]}).objs.size],_,_,H1,rfl,
      I2.kept (t':=s1.toks) λb o e=>af _ e,zW _ a (a-b).toNat,?_,λad hb=> ?_,cl _ _ _ _ _ q rp1 k1 (Gs _ _)⟩
     ·have e1:a+((0:Nat):Int)*(-1)=a:=by simp
      show IsRangeIter _ _ (a+((0:Nat):Int)*(-1)) ((((a-b).toNat:Nat):Int)-((0:Nat):Int)) (-1)
      rw[e1,show(((a-b).toNat:Nat):Int)-((0:Nat):Int)=gj a b (-1)by rw[kH];simp]
      exact aK _ rfl
     ·rw[aA.mp hb]
      exact I2.fpOk (ao _) (I2.hok.fresh (ao _))
 ·exact q1.elim⟩
end
noncomputable abbrev Oa:U2:=λp G Q=>match p with
 | .int i=>Q (.int (-i)) G
 |_=>False
theorem KY{X:Cx}:Nf X (unaryOp .USub) (LO X.K Oa):=by
 intro pins s σ H x v Q I rx h
 obtain⟨p,G,Q2,d,rp,h,cl⟩:=h
 cases p with
 |int i=>
  obtain rfl:x= .int i:=d
  exact Bp pins s σ H _ v Q I rx ⟨i,rfl,cl _ _ _ _ h rfl rp .refl⟩
 |_=>exact bQ h
noncomputable abbrev Ht:B2:=Ki λi j=> .int (i+j)
theorem qK{X:Cx}:KQ X .Add (gf X.K Ht):=by
 intro pins s σ H x y v u Q I rx ry h
 obtain⟨p,q,G,Q2,d1,d2,rp,h,cl⟩:=h
 unfold Ht Ki at h
 split at h
 ·rename_i i j
  obtain rfl:x= .int i:=d1
  obtain rfl:y= .int j:=d2
  exact Kd pins s σ H _ _ v u Q I rx ry ⟨i,j,rfl,rfl,cl _ _ _ _ h rfl rp .refl⟩
 ·exact h.elim
noncomputable def Go:B2:=λp q G Q=>match p,q with
 | .ref a,.int i=>match lk G a with
  |some ps=>match qh ps i with
   |some x=>Q x G
   |none=>False
  |none=>False
 |_,_=>False
theorem Mv{X:Cx}:KE X (gf X.K Go):=by
 intro pins s σ H o i ov iv Q I r1 r2 h
 obtain⟨p,q,G,Q2,d1,d2,rp,h,cl⟩:=h
 unfold Go at h
 split at h
 ·rename_i a k
  split at h
  ·rename_i ps e0
   split at h
   ·rename_i z e
    obtain rfl:o= .ref a:=d1
    obtain rfl:i= .int k:=d2
    obtain⟨vs,sa,da⟩:=fU rp e0
    obtain⟨w,ew,dw⟩:=Eb da e
    cases r1
    obtain⟨t,rfl⟩:=r2
    obtain⟨its,r,pl,hz⟩:=I.list sa
    obtain⟨j,h1,h2,h3,h4,h5⟩:=qf ew
    obtain⟨u,eu,ru⟩:=r.get h2
    have hl:=r.length
    have hn:=ma
    have fin:EP X pins σ Q u s:=⟨w,H,I,ru,cl _ _ _ _ h dw rp .refl⟩
    by_cases h0:0<=k
    ·have hj:k.toNat=j:=by
      rw[PySem.seqIndex_of h0 h5]at h1
      exact bf h1
     exact wpAny_getItem_list pl.isList h0 (by ac_nf) (by rw[hj];simpa using eu) fin
    ·have hj:(k+(its.toArray.size:Int)).toNat=j:=by
      rw[PySem.seqIndex_neg (by ac_nf) h4]at h1
      rw[ax,<-hl]
      exact bf h1
     exact wpAny_getItem_list_neg pl.isList (by ac_nf) (by rw[ax];ac_nf) (by ac_nf) (by rw[hj];simpa using eu) fin
   ·exact h.elim
  ·exact h.elim
 ·exact h.elim
theorem Jb{M:Model}{A:Around}{E:ae->ai->Prop}{s:ai}{T:String}{vs:List ae}{Q:ae->ai->Prop}(h:Q (.ref s.heap.objs.size) {s with heap:=s.heap.push {cls:= .type T,dict:=none,data:= .fields vs.toArray}})(hs:sizeOk (.fields vs.toArray)):
  wpAny M A (cu.SmallTypes.newRecord (.type T) vs) Q E s:=by
 show wpAny M A (newObj (.type T) (.fields vs.toArray)) Q E s
 exact bH h hs
theorem nd5(n:Nat):[n+4,n+2,n+3,n,n+1].Nodup:=by
 simp only[aZ,aI,bC,or_false,not_or,not_false_eq_true,List.nodup_nil,and_true]
 ac_nf
end L3
namespace L2
open PySem PySem.Spec PyProof.Rows
noncomputable abbrev GV(x y:Str)(px py:Pos)(kt:Nat)(pt:Pos):Expr:= .Tuple [.Name x px,.Name y py] kt pt
structure ip(scope:er)(M:List Str)(ix:List (Option Nat))(j2:Nat)(y:Str):Prop where
 tgt:M[j2]? =some y
 loc:scope.names.lookup y=some .local
 own:ix[j2]? =some none
theorem Ab{c:St}{j j2:Nat}{v u:V}(h:c[j]? =some none)(h2:c[j2]? =some none):∀(i:Nat) (z:V),c[i]? =some (some z)->((c.set j (some v)).set j2 (some u))[i]? =some (some z):=λi z e=>by
 have n1:j≠i:=λq=>by subst q;rw[h]at e;cases e
 have n2:j2≠i:=λq=>by subst q;rw[h2]at e;cases e
 rw[cq n2,cq n1];exact e
noncomputable def zO(K:PySem.W.Frag)(J:It)(ix:List (Option Nat))(j j2:Nat)(σ:St)(tf:TT)(te:TE)(Q:VK)(H1:Hp)(acc:Addr):Prop:=∃W:Nat->Nat->Hp->Prop,(∃m,W 0 m (upd H1 acc (.lst [])))/\∀i m H',W i m H'->
 (J.stop i H'/\Q (.ref acc) H')\/(J.go i H'/\∀x H2,J.yld i H' x H2->∃a u1 u2,x= .ref a/\SqT K H2 a [u1,u2]/\tf (((kY ix σ).set j (some u1)).set j2 (some u2)) H2 λb H3=>
  if b=true then te (((kY ix σ).set j (some u1)).set j2 (some u2)) H3 λy H4=>∃ys,H4 acc=some (.lst ys)/\ys.length<aO/\∃m',m'<m/\W (i+1) m' (upd H4 acc (.lst (ys++[y])))
  else∃m',m'<m/\W (i+1) m' H3)
noncomputable def Bz(K:PySem.W.Frag)(wi:TI)(ix:List (Option Nat))(j j2:Nat)(tf:TT)(te:TE):TE:=λσ H Q=>wi σ H λJ H1=>∀acc,H1 acc=none->zO K J ix j j2 σ tf te Q H1 acc
section
variable{X:Cx}{scope:er}{M:List Str}{ix:List (Option Nat)}{j:Nat}{x:Str}
theorem wF{elt iter:Expr}{px py pt:Pos}{kt j2:Nat}{y:Str}{ifs:List Expr}{pos:Pos}{tf:TT}{te:TE}{pins:List (Addr×Obj)}{σ:St}{H:Hp}{s:ai}{fp:List Addr}{it:Addr}{tn:Nat->Heap->Prop}{J:It}{h1:Heap}{tk:Nat}{Q:VK}{R:Result->ai->Prop}
  (S:ie X.env.scope X.N scope M ix j x) (S2:ip scope M ix j2 y) (hc:X.calm=true) (I:Inv X pins σ H s)
  (hF:PF (cb X M scope (s.heap.objs.size+1) s H fp) ifs tf) (hE:PE (cb X M scope (s.heap.objs.size+1) s H fp) elt te)
  (T:sr X.prog X.w X.K (GV x y px py kt pt) J fp it tn) (st:tn 0 s.heap) (hf:∀b∈fp,pR X pins H b)
  (I0:Inv (cb X M scope (s.heap.objs.size+1) s H fp) [] (kY ix σ) (upd H s.heap.objs.size (.lst [])) {s with heap:=h1,toks:=tk}) (old:∀b o,s.heap.get? b=some o->h1.get? b=some o)
  (q:zO X.K J ix j j2 σ tf te Q H s.heap.objs.size)
  (hR:∀H' s',Inv (cb X M scope (s.heap.objs.size+1) s H fp) [] (kY ix σ) H' s'->Q (.ref s.heap.objs.size) H'->R (.ok .next) s'):
  codeAny (aQ X.prog X.w) X.A (.compLoop (.ListComp elt [⟨GV x y px py kt pt,iter,ifs,0⟩] scope pos) 0 (.ref it) (.ref s.heap.objs.size) (compEnvC scope (lF X.env.cells scope.names []) (s.heap.objs.size+1) X.env)) R {s with heap:=h1,toks:=tk}:=by
 obtain⟨W,⟨m0,w0⟩,turn⟩:=q
 have hD:s.heap.objs.size∉fp:=λz=>by
  obtain⟨o,e,_⟩:=T.obj 0 s.heap st _ z
  exact absurd (aB e) (c7 _)
 have hlt:∀b∈fp,b<s.heap.objs.size:=λb hb=>by
  obtain⟨o,e,_⟩:=T.obj 0 s.heap st b hb
  exact aB e
 have stat:∀{H':Hp},(∀b∈fp,H' b=none)->∀b∈fp,pR (cb X M scope (s.heap.objs.size+1) s H fp) [] H' b:=λhn b hb=>
  ⟨hn b hb,aN (dj (hlt b hb)),I0.ok.exfs b hb,.inl hb,(I0.ok.exf b hb).2,λp hp=>absurd (show p∈([]:List (Addr×Obj))from hp) (by simp)⟩
 have own:=u0 S.own σ
 have own2:=u0 S2.own σ
 refine nK rfl (λn s'=>∃i H',Inv (cb X M scope (s.heap.objs.size+1) s H fp) [] (kY ix σ) H' s'/\tn i s'.heap/\(∀b∈fp,H' b=none)/\W i n H') ?_ m0
  ⟨0,_,I0,T.keep 0 _ _ st λb _ o e=>old b o e,λb hb=>by rw[bD (aN (hlt b hb))];exact(hf b hb).1,w0⟩
 rintro n s3 ⟨i,H3,I3,st3,fr3,w3⟩
 rcases turn i n H3 w3 with⟨stop,qn⟩|⟨go,step⟩
 ·refine bj (T.done (cb X M scope (s.heap.objs.size+1) s H fp) rfl rfl rfl hc i [] s3 (kY ix σ) H3 (λ_ _=>False) I3 (stat fr3) st3 stop) (λr s4 hPl=> ?_) (λ_ _ z=>z.elim)
  obtain⟨hr,I4⟩:=hPl
  subst hr
  exact hR H3 s4 I4 qn
 ·refine bj (T.item (cb X M scope (s.heap.objs.size+1) s H fp) rfl rfl rfl hc i [] s3 (kY ix σ) H3 (λ_ _=>False) I3 (stat fr3) st3 go) (λr s4 hPl=> ?_) (λ_ _ z=>z.elim)
  obtain⟨u,hr,h4⟩:=hPl
  subst hr
  refine bj h4 (λ_ s5 hPl=> ?_) (λ_ _ z=>z.elim)
  obtain⟨yv,H5,I5,r5,y5,st5,fr5⟩:=hPl
  have I5':=I5.pinned (stat fr5) (T.obj _ _ st5)
  have pg:PG (cb X M scope (s.heap.objs.size+1) s H fp) (GV x y px py kt pt) (Mw X.K 2 (DK (rh j) (DK (rh j2) Mz))):=
   xG hc (iw (ik S.nd S.tgt (.inl (by show(relabel scope X.env).names.lookup x=some .local;exact fq S.loc)) (.inr (by show(relabel scope X.env).names.lookup x=some .local;exact fq S.loc)))
    (iw (ik S.nd S2.tgt (.inl (by show(relabel scope X.env).names.lookup y=some .local;exact fq S2.loc)) (.inr (by show(relabel scope X.env).names.lookup y=some .local;exact fq S2.loc))) ux))
  obtain⟨ta,u1,u2,et,sq,step⟩:=step yv _ y5
  refine bj (pg _ s5 (kY ix σ) H5 yv u (λσ2 H2=>σ2=((kY ix σ).set j (some u1)).set j2 (some u2)/\H2=H5) I5' r5 ⟨ta,[u1,u2],et,sq,rfl,u1,[u2],rfl,u2,[],rfl,rfl,rfl,rfl⟩) (λ_ s6 hPl=> ?_) (λ_ _ z=>z.elim)
  obtain⟨σ6,H6,I6,e6,eh6⟩:=hPl
  subst e6;subst eh6
  have again:∀{H7:Hp} {s7:ai},Inv (cb X M scope (s.heap.objs.size+1) s H fp) ([]++oI fp s5.heap) (((kY ix σ).set j (some u1)).set j2 (some u2)) H7 s7->(∃m',m'<n/\W (i+1) m' H7)->
    ∃m,m<n/\∃i H',Inv (cb X M scope (s.heap.objs.size+1) s H fp) [] (kY ix σ) H' s7/\tn i s7.heap/\(∀b∈fp,H' b=none)/\W i m H':=fun{H7 s7} I7 ⟨m',hm,w7⟩=>by
   have Iw:Inv (cb X M scope (s.heap.objs.size+1) s H fp) [] (kY ix σ) H7 s7:=(Inv.unpinned (pins:=[]) I7).weak (by simp) (Ab own own2)
   refine⟨m',hm,i+1,H7,Iw,T.keep _ _ _ st5 λb hb o e=>(I7.pin (b,o) (aY _ (aY _ (ia hb e)))).1,λb hb=> ?_,w7⟩
   obtain⟨o,e,d⟩:=T.obj _ _ st5 b hb
   exact(I7.pin (b,o) (aY _ (aY _ (ia hb e)))).2.1
  refine bj (hF _ s6 _ _ _ I6 step) (λb s7 hPl=> ?_) (λ_ _ z=>z.elim)
  obtain⟨H7,I7,q7⟩:=hPl
  cases b with
  |false=>
   simp only[pF,if_false]at q7⊢
   exact again I7 q7
  |true=>
   simp only[if_true]at q7⊢
   refine bj (hE _ s7 _ H7 _ I7 q7) (λv s8 hPl=> ?_) (λ_ _ z=>z.elim)
   obtain⟨z,H8,I8,r8,ys,hy,hz,q8⟩:=hPl
   refine bj (oN (X:=cb X M scope (s.heap.objs.size+1) s H fp) _ s8 _ H8 (.ref s.heap.objs.size) [z] (.ref s.heap.objs.size) [v] (λ_ H'=>H'=upd H8 s.heap.objs.size (.lst (ys++[z]))) I8 rfl (.cons r8 .nil) ⟨s.heap.objs.size,ys,z,rfl,rfl,hy,hz,rfl⟩) (λw s9 hPl=> ?_) (λ_ _ z=>z.elim)
   obtain⟨_,H9,I9,_,e9⟩:=hPl
   subst e9
   exact again I9 q8
theorem Cp{elt iter:Expr}{px py pt:Pos}{kt j2:Nat}{y:Str}{ifs:List Expr}{pos:Pos}{wi:TI}{tf:TT}{te:TE}(S:ie X.env.scope X.N scope M ix j x)(S2:ip scope M ix j2 y)(hc:X.calm=true)(hi:PI X (GV x y px py kt pt) iter wi)
  (hb:∀C s H fp,PF (cb X M scope C s H fp) ifs tf/\PE (cb X M scope C s H fp) elt te) (hs:∀x,en iter X.env x=pure x:=by intro _;rfl):
  PE X (.ListComp elt [⟨GV x y px py kt pt,iter,ifs,0⟩] scope pos) (Bz X.K wi ix j j2 tf te):=by
 intro pins s σ H Q I h
 rw[eval_ListComp]
 refine lA (use:=none) rfl hs (jz λy hy e=>I.ok.has y.1 (S.free y hy e)) S.kind S.names (bj (hi pins s σ H _ I h) (λxv s₁ h₁=>bj h₁ (λit s₂ h₂=> ?_) λ_ _ e=>e) λ_ _ e=>e)
 obtain⟨it,fp,tn,J,H2,rfl,I2,T,st2,f2,q⟩:=h₂
 refine bH (pI S.nocell (by intro y hy;simp at hy) (λh₁ hns₁ hsb₁=> ?_) S.kind)
 dsimp only at hns₁ hsb₁⊢
 have hC:(s₂.heap.push {cls:= .type "list",dict:=none,data:= .seq ([]:List ae).toArray}).objs.size=s₂.heap.objs.size+1:=cS ..
 rw[hC]at hns₁ hsb₁⊢
 have below:∀b,b<s₂.heap.objs.size->b≠s₂.heap.objs.size+1:=λb hb=>aN (dj hb)
 have old:∀b o,s₂.heap.get? b=some o->h₁.get? b=some o:=λb o e=>hsb₁.extBut b o (below b (aB e)) (af _ (af _ e))
 have hD:h₁.get? s₂.heap.objs.size=some {cls:= .type "list",data:= .seq ([]:List ae).toArray 0}:=hsb₁.extBut _ _ (aN (fF _)) (af _ (aK _ rfl))
 have ns:h₁.Ns (s₂.heap.objs.size+1) λ_=>none:=hns₁
 have hft:∀b∈fp,b<s₂.heap.objs.size:=λb hb=>by
  obtain⟨o,e,_⟩:=T.obj 0 s₂.heap st2 b hb
  exact aB e
 have I0:=(mh (h1:=h₁) S I2 f2 hft old hD ns).tok s₂.toks
 have hfr:H2 s₂.heap.objs.size=none:=I2.hok.fresh (ao _)
 have loop:codeAny (aQ X.prog X.w) X.A (.compLoop (.ListComp elt [⟨GV x y px py kt pt,iter,ifs,0⟩] scope pos) 0 (.ref it) (.ref s₂.heap.objs.size) (compEnvC scope (lF X.env.cells scope.names []) (s₂.heap.objs.size+1) X.env))
   (compPost (aQ X.prog X.w) X.A X.xe none (EP X pins σ Q) (.ref s₂.heap.objs.size) (s₂.heap.objs.size+1)) {s₂ with heap:=h₁,toks:=s₂.toks}:=by
  refine wF (Q:=Q) S S2 hc I2 (hb _ _ _ _).1 (hb _ _ _ _).2 T st2 f2 I0 old (q _ hfr) λH' s' I' qq=> ?_
  obtain⟨m,hn,_⟩:=I'.loc
  exact⟨m,hn,λh' hb'=>⟨.ref s₂.heap.objs.size,H',rF I2 (gu _) f2 I' hb',rfl,qq⟩⟩
 exact nN loop (T.self _ 0 _ _ _ (T.keep 0 _ _ st2 λb _ o e=>old b o e) loop)
end
end L2
namespace L3
open PySem L2
theorem fk{k:Nat}{A:Around}(r:Room k A):A.units+200<iG:=by have:=r.un;ac_nf
theorem j3{α:Type}{P Q:α->Prop}{t:α}(a:P t)(b:Q t):∃t,P t/\Q t:=⟨t,a,b⟩
theorem pD:cA "isinstance" =some (.builtin "isinstance"):=by decide+kernel
theorem rM:cA "tuple" =some (.type "tuple"):=by decide+kernel
theorem AZ:cA "list" =some (.type "list"):=by decide+kernel
theorem D0:cA "max" =some (.builtin "max"):=by decide+kernel
theorem DZ:cA "sum" =some (.builtin "sum"):=by decide+kernel
theorem wI:cA "sorted" =some (.builtin "sorted"):=by decide+kernel
noncomputable def D7:List Str:=["isinstance", "int", "bool", "str", "tuple", "list", "range", "all", "any", "max", "sum", "sorted", "len", "enumerate", "min", "zip", "set", "dict"]
noncomputable def BN(mg:Str->Option ae):Prop:=∀x:Str,D7.contains x=true->mg x=none
theorem BN.len{mg:Str->Option ae}(h:BN mg):mg "len" =none:=h _ (by decide+kernel)
theorem BN.isinstance{mg:Str->Option ae}(h:BN mg):mg "isinstance" =none:=h _ (by decide+kernel)
theorem BN.tuple{mg:Str->Option ae}(h:BN mg):mg "tuple" =none:=h _ (by decide+kernel)
theorem BN.list{mg:Str->Option ae}(h:BN mg):mg "list" =none:=h _ (by decide+kernel)
theorem BN.range{mg:Str->Option ae}(h:BN mg):mg "range" =none:=h _ (by decide+kernel)
theorem BN.max{mg:Str->Option ae}(h:BN mg):mg "max" =none:=h _ (by decide+kernel)
theorem BN.sum{mg:Str->Option ae}(h:BN mg):mg "sum" =none:=h _ (by decide+kernel)
theorem BN.sorted{mg:Str->Option ae}(h:BN mg):mg "sorted" =none:=h _ (by decide+kernel)
section
variable{X:Cx}{e:Expr}{es:List Expr}{t:A2}{p pos:Pos}
theorem Jy(B:BN X.mg)(ha:JA X (e::es) t)(hg:Gl X "len" :=by rfl)(he:au (e::es) X.env=(false,eval e X.env)::au es X.env:=by rfl)(hpl:(bT pos (au es X.env)).any (·.1)=false:=by rfl):JE X (.Call (.Name "len" p) (e::es) [] pos) (uU jy t):=ll M0 B.len PySem.boot_len ha hg (by decide) (by decide) he hpl
theorem Ge(B:BN X.mg)(ha:JA X (e::es) t)(hg:Gl X "isinstance" :=by rfl)(he:au (e::es) X.env=(false,eval e X.env)::au es X.env:=by rfl)(hpl:(bT pos (au es X.env)).any (·.1)=false:=by rfl):JE X (.Call (.Name "isinstance" p) (e::es) [] pos) (uU wv t):=ll Kx B.isinstance pD ha hg (by decide) (by decide) he hpl
theorem Jx(B:BN X.mg)(hc:X.calm=true)(ha:JA X (e::es) t)(hg:Gl X "max" :=by rfl)(he:au (e::es) X.env=(false,eval e X.env)::au es X.env:=by rfl)(hpl:(bT pos (au es X.env)).any (·.1)=false:=by rfl):JE X (.Call (.Name "max" p) (e::es) [] pos) (uU Db t):=ll (Kw hc) B.max D0 ha hg (by decide) (by decide) he hpl
theorem Jw(B:BN X.mg)(hc:X.calm=true)(ha:JA X (e::es) t)(hg:Gl X "sum" :=by rfl)(he:au (e::es) X.env=(false,eval e X.env)::au es X.env:=by rfl)(hpl:(bT pos (au es X.env)).any (·.1)=false:=by rfl):JE X (.Call (.Name "sum" p) (e::es) [] pos) (uU z7 t):=ll (MZ hc) B.sum DZ ha hg (by decide) (by decide) he hpl
theorem Du(B:BN X.mg)(ha:JA X (e::es) t)(hg:Gl X "tuple" :=by rfl)(he:au (e::es) X.env=(false,eval e X.env)::au es X.env:=by rfl)(hpl:(bT pos (au es X.env)).any (·.1)=false:=by rfl):JE X (.Call (.Name "tuple" p) (e::es) [] pos) (uU lZ t):=wq GO B.tuple rM ha hg (by decide) (by decide) he hpl
theorem Dq(B:BN X.mg)(hg:Gl X "tuple" :=by rfl):JE X (.Name "tuple" pos) (eC (.ty "tuple")):=L9 B.tuple rM hg
end
section
variable{X:Cx}{a b:Expr}{ta tb:E2}{pos:Pos}
theorem JL(ha:JE X a ta)(hb:JE X b tb):JE X (.BinOp a .Add b pos) (iP yp ta tb):=xZ Hl ha hb
theorem Jz(ha:JE X a ta)(hb:JE X b tb):JE X (.BinOp a .Sub b pos) (iP HQ ta tb):=xZ LC ha hb
theorem JJ(ha:JE X a ta)(hb:JE X b tb):JE X (.BinOp a .Mult b pos) (iP FG ta tb):=xZ LF ha hb
theorem JK(ha:JE X a ta)(hb:JE X b tb):JE X (.BinOp a .Mod b pos) (iP LL ta tb):=xZ LG ha hb
theorem Gf(ha:JE X a ta)(hb:JE X b tb):JE X (.BinOp a .FloorDiv b pos) (iP DN ta tb):=xZ IZ ha hb
theorem JC(ha:JE X a ta)(hb:JE X b tb):JE X (.BinOp a .Pow b pos) (iP Lp ta tb):=xZ LD ha hb
theorem L6(hu:X.A.units+200<iG)(ha:JE X a ta)(hb:JE X b tb):JE X (.Compare a [.NotEq] [b] pos) (iP Jc ta tb):=DB (Cr hu) ha hb (kJ _)
theorem L7(ha:JE X a ta)(hb:JE X b tb):JE X (.Compare a [.Lt] [b] pos) (iP LN ta tb):=DB IY ha hb (kJ _)
theorem L8(ha:JE X a ta)(hb:JE X b tb):JE X (.Compare a [.GtE] [b] pos) (iP oX ta tb):=DB LI ha hb (kJ _)
theorem LY(hu:X.A.units+200<iG)(ha:JE X a ta)(hb:JE X b tb):JT X (.Compare a [.Eq] [b] pos) (vB (iP Hv ta tb)):=kR (IR hu) ha hb (kJ _)
theorem LS(hu:X.A.units+200<iG)(ha:JE X a ta)(hb:JE X b tb):JT X (.Compare a [.NotEq] [b] pos) (vB (iP Jc ta tb)):=kR (Cr hu) ha hb (kJ _)
theorem LU(ha:JE X a ta)(hb:JE X b tb):JT X (.Compare a [.Lt] [b] pos) (vB (iP LN ta tb)):=kR IY ha hb (kJ _)
theorem LW(ha:JE X a ta)(hb:JE X b tb):JT X (.Compare a [.Gt] [b] pos) (vB (iP Om ta tb)):=kR N9 ha hb (kJ _)
theorem LX(ha:JE X a ta)(hb:JE X b tb):JT X (.Compare a [.GtE] [b] pos) (vB (iP oX ta tb)):=kR LI ha hb (kJ _)
theorem LV(ha:JE X a ta)(hb:JE X b tb)(hm:gi .In b=false):JT X (.Compare a [.In] [b] pos) (vB (iP (Mq false) ta tb)):=kR N8 ha hb hm
theorem Jp(ha:JE X a ta)(hb:JE X b tb)(hm:gi .Is b=false):JT X (.Compare a [.Is] [b] pos) (vB (iP Mp ta tb)):=kR LH ha hb hm
theorem Mi(ha:JE X a ta)(hb:JE X b tb)(hs:vj b:=by exact λ_ _=>rfl):JE X (.Subscript a b pos) (iP ra ta tb):=Oh KS ha hb hs
theorem Oe(h:JW X a tA):JT X a tA:=h.jt
end
section
variable{X:Cx}{o e:Expr}{to:E2}{t:A2}{apos cpos:Pos}
theorem AF(ho:JE X o to)(ha:JA X [e] t)
  (hbase:cy o "append" X.env (eval o X.env)=eval o X.env:=by rfl) (hfew:((bT cpos (au [e] X.env)).all (λx=> !x.1)&&(ic cpos (eL [] X.env)).all (λx=>x.1.isSome)&&decide (([e]:List Expr).length+([]:List gA).length+(if([]:List gA).isEmpty then 0 else 1)<30))=true:=by rfl)
  (hline:(apos.endLine==cpos.line)=true:=by rfl) (hs:au [e] X.env=(false,eval e X.env)::au [] X.env:=by rfl):JE X (.Call (.Attribute o "append" apos) [e] [] cpos) (uT j9 to t):=Ho PySem.F.slot_list_append PySem.F.type_list_append De ho ha hbase hfew hline hs rfl
theorem AE(ho:JE X o to)(ha:JA X [e] t)
  (hbase:cy o "extend" X.env (eval o X.env)=eval o X.env:=by rfl) (hfew:((bT cpos (au [e] X.env)).all (λx=> !x.1)&&(ic cpos (eL [] X.env)).all (λx=>x.1.isSome)&&decide (([e]:List Expr).length+([]:List gA).length+(if([]:List gA).isEmpty then 0 else 1)<30))=true:=by rfl)
  (hline:(apos.endLine==cpos.line)=true:=by rfl) (hs:au [e] X.env=(false,eval e X.env)::au [] X.env:=by rfl):JE X (.Call (.Attribute o "extend" apos) [e] [] cpos) (uT gU to t):=Ho PySem.F.slot_list_extend PySem.F.type_list_extend Dd ho ha hbase hfew hline hs rfl
theorem Ga(ho:JE X o to)(ha:JA X [e] t)
  (hbase:cy o "join" X.env (eval o X.env)=eval o X.env:=by rfl) (hfew:((bT cpos (au [e] X.env)).all (λx=> !x.1)&&(ic cpos (eL [] X.env)).all (λx=>x.1.isSome)&&decide (([e]:List Expr).length+([]:List gA).length+(if([]:List gA).isEmpty then 0 else 1)<30))=true:=by rfl)
  (hline:(apos.endLine==cpos.line)=true:=by rfl) (hs:au [e] X.env=(false,eval e X.env)::au [] X.env:=by rfl):JE X (.Call (.Attribute o "join" apos) [e] [] cpos) (GG qY to t):=Mg PySem.F.slot_str_join PySem.F.type_str_join Jf ho ha hbase hfew hline hs rfl
theorem Jt(ho:JE X o to)(hbase:cy o "pop" X.env (eval o X.env)=eval o X.env:=by rfl)(hline:(apos.endLine==cpos.line)=true:=by rfl):JE X (.Call (.Attribute o "pop" apos) [] [] cpos) (Hw Cg to):=JN PySem.F.slot_list_pop PySem.F.type_list_pop LM ho hbase hline
end
noncomputable def Ky(items:List PV)(c:Gp->Prop)(ix:List (Option Nat))(j j2:Nat)(τ:iS)(tf:T2)(te:E2)(Q:K2)(G1:Gp)(acc:Addr):Prop:=
 ∃W:Nat->List PV->Gp->Prop,W 0 [] (up G1 acc (.lst []))/\(∀i ys G,i<=items.length->W i ys G->c G/\G acc=some (.lst ys)/\ys.length<16000000)/\
  (∀i ys G x,items[i]? =some x->W i ys G->∃p q,x= .tup [p,q]/\tf (st (st (kX ix τ) j (some p)) j2 (some q)) G λb G2=>og b (te (st (st (kX ix τ) j (some p)) j2 (some q)) G2 λy G3=>G3 acc=some (.lst ys)/\W (i+1) (ys++[y]) (up G3 acc (.lst (ys++[y])))) (W (i+1) ys G2))/\∀ys G,W items.length ys G->Q (.ref acc) G
noncomputable abbrev o4(ti:su)(ix:List (Option Nat))(j j2:Nat)(tf:T2)(te:E2):E2:=λτ G Q=>ti τ G λitems c G1=>∀acc,G1 acc=none->Ky items c ix j j2 τ tf te Q G1 acc
section
variable{X:Cx}
theorem Av{ti:su}{ix:List (Option Nat)}{j j2:Nat}{tf:T2}{te:E2}{σ:L2.St}{H:Hp}{Q:VK}(q:lD X.K (o4 ti ix j j2 tf te) σ H Q):Bz X.K (FL X.K ti) ix j j2 (wb X.K tf) (lD X.K te) σ H Q:=by
 obtain⟨τ,G,Q2,rs,rp,q,cl⟩:=q
 refine⟨τ,G,_,rs,rp,q,λitems c G1 J H1 q1 r1 k1 ok acc hacc=> ?_⟩
 obtain⟨W,w0,hW,turn,done⟩:=q1 acc (r1.none hacc)
 have kn:Keep X.K H1 (upd H1 acc (.lst [])):=cg hacc
 refine⟨λi m H'=>m=items.length-i/\i<=items.length/\∃ys G',W i ys G'/\Rep X.K H' G'/\Keep X.K H1 H',⟨_,rfl,bt _,[],_,w0,r1.new hacc .nil,kn⟩,?_⟩
 rintro i m H2 ⟨rfl,hi,ys,G2,w2,r2,k2⟩
 obtain⟨hc,hacc2,hys⟩:=hW i ys G2 hi w2
 obtain⟨o1,o2,o3⟩:=ok i H2 G2 k2 r2 hc
 by_cases hlt:i<items.length
 ·refine .inr ⟨o1 hlt,λx H3 y=> ?_⟩
  obtain⟨p,ep,k3,r3,d3⟩:=o3 x H3 hlt y
  obtain⟨pa,pb,rfl,turn'⟩:=turn i ys G2 p ep w2
  obtain⟨ta,vs,rfl,sq,u1,vr,rfl,du1,u2,vr2,rfl,du2,e3⟩:=d3
  obtain rfl:vr2=[]:=e3
  have k13:=k2.trans k3
  refine⟨ta,u1,u2,rfl,sq,?_⟩
  have rs3:RSt X.K H3 (((kY ix σ).set j (some u1)).set j2 (some u2)) (st (st (kX ix τ) j (some pa)) j2 (some pb)):=((zK ix (rs.keep (k1.trans k13))).set du1 j).set du2 j2
  refine⟨_,G2,_,rs3,r3,turn',λb G4 H4 q4 r4 k4=> ?_⟩
  have k14:=k13.trans k4
  cases b with
  |false=>exact se ⟨items.length-(i+1),by ac_nf,rfl,hlt,ys,G4,q4,r4,k14⟩
  |true=>
   refine sd ⟨_,G4,_,rs3.keep k4,r4,q4,λy G5 v H5 q5 d5 r5 k5=> ?_⟩
   obtain⟨ea,w5⟩:=q5
   obtain⟨vs,hv,dv⟩:=r5.lst ea
   refine⟨vs,hv,by rw[dv.length];exact D8 (iE hys),items.length-(i+1),by ac_nf,rfl,hlt,ys++[y],_,w5,r5.put hv (dv.append (.cons d5 .nil)),(k14.trans k5).trans (gl hv)⟩
 ·have e:i=items.length:=by ac_nf
  subst e
  exact .inl ⟨o2 rfl,cl _ _ _ _ (done ys G2 w2) rfl r2 (k1.trans k2)⟩
theorem jY{scope:er}{M:List Str}{ix:List (Option Nat)}{j j2 kt:Nat}{x y:Str}{elt iter:Expr}{px py pt pos:Pos}{ifs:List Expr}{ti:su}{tf:T2}{te:E2}(S:dJ X.env.scope X.N scope M ix j x=true)(S2:ip scope M ix j2 y)(hc:X.calm=true)(hi:JI X (GV x y px py kt pt) iter ti)
  (hb:∀C s H fp,JF (cb X M scope C s H fp) ifs tf/\JE (cb X M scope C s H fp) elt te) (hs:∀x,en iter X.env x=pure x:=by intro _;rfl):
  JE X (.ListComp elt [⟨GV x y px py kt pt,iter,ifs,0⟩] scope pos) (o4 ti ix j j2 tf te):= .of (Cp (DW S) S2 hc hi.h (λC s H fp=>⟨(hb C s H fp).1.h,(hb C s H fp).2.h⟩) hs) λσ H Q q=>Av q
end
noncomputable abbrev yf(r r':B2)(ta tb tc:E2):E2:=λτ G Q=>ta τ G λx G1=>tb τ G1 λy G2=>r x y G2 λz G3=>match z with
 | .bl k=>og k (tc τ G3 λw G4=>r' y w G4 Q) (Q (.bl false) G3)
 |_=>False
section
variable{X:Cx}{a b c:Expr}{ta tb tc:E2}{pos:Pos}
theorem Aw{r r':B2}{σ:L2.St}{H:Hp}{Q:VK}(q:lD X.K (yf r r' ta tb tc) σ H Q):BB (gf X.K r) (gf X.K r') (lD X.K ta) (lD X.K tb) (lD X.K tc) σ H Q:=by
 obtain⟨τ,G,Q2,rs,rp,q,cl⟩:=q
 refine⟨τ,G,_,rs,rp,q,λx G1 vx H1 q1 d1 r1 k1=>⟨τ,G1,_,rs.keep k1,r1,q1,λy G2 vy H2 q2 d2 r2 k2=>⟨x,y,G2,_,d1.keep k2,d2,r2,q2,λz G3 vz H3 q3 d3 r3 k3=> ?_⟩⟩⟩
 split at q3
 ·rename_i k
  obtain rfl:vz= .bl k:=d3
  refine⟨k,rfl,?_⟩
  cases k with
  |false=>exact se (cl _ _ _ _ q3 rfl r3 ((k1.trans k2).trans k3))
  |true=>
   exact sd ⟨τ,G3,_,rs.keep ((k1.trans k2).trans k3),r3,q3,λw' G4 vw H4 q4 d4 r4 k4=>⟨y,w',G4,Q2,d2.keep (k3.trans k4),d4,r4,q4,cl.keep (((k1.trans k2).trans k3).trans k4)⟩⟩
 ·exact q3.elim
theorem Dl{op op':CmpOp}{r r':B2}(ho:iJ X (bV op) (gf X.K r))(ho':iJ X (bV op') (gf X.K r'))(ha:JE X a ta)(hb:JE X b tb)(hc:JE X c tc)(hm:lastMarks [op,op'] [b,c]=false:=by with_unfolding_all rfl):
  JT X (.Compare a [op,op'] [b,c] pos) (vB (yf r r' ta tb tc)):= .of (Ca ho ho' ha.h hb.h hc.h hm) λσ H Q q=>uB (λσ H Q q=>Aw q) q
end
section
end
theorem BN.zip{mg:Str->Option ae}(h:BN mg):mg "zip" =none:=h _ (by decide+kernel)
theorem JU{X:Cx}{x:Str}{i:Int}{t:Tok}{pos:Pos}(hm:X.mg x=some (.int i t))(hg:Gl X x:=by rfl)(hd:(x==("__debug__" :Str))=false:=by decide):JE X (.Name x pos) (eC (.int i)):=DA (v:= .int i) hm ⟨t,rfl⟩ (λ_=>rfl) hg hd
theorem cW{n:Nat}(h:Nat.ble n 1000=true:=by rfl):n<=1000:=ba h
theorem aM{G:Gp}{a:Addr}{ps:List PV}(h:G a=some (.lst ps)):lk G a=some ps:=by unfold lk;rw[h]
theorem nj{G:Gp}{a:Addr}{ps:List PV}:lk (up G a (.lst ps)) a=some ps:=aM aj
theorem eI{G:Gp}{a b:Addr}{o:MO}(h:up G a o b=none):b≠a/\G b=none:=by
 have ne:b≠a:=λz=>by subst z;rw[aj]at h;cases h
 exact⟨ne,by rw[aH ne]at h;exact h⟩
theorem yE{G:Gp}{a b:Addr}{o u:MO}(h:a≠b):up (up G a o) b u=up (up G b u) a o:=by
 funext c;unfold up
 by_cases h1:c=b
 ·subst h1;simp[aG h]
 ·simp[h1]
theorem GE.mod{G0 G:Gp}{a:Addr}{o:MO}(h:GE G0 G)(n:G0 a=none):GE G0 (up G a o):=λb u q=>by
 have:b≠a:=λz=>by subst z;rw[n]at q;cases q
 rw[aH this];exact h b u q
theorem GE.at{G0 G:Gp}{a:Addr}{o:MO}(h:GE G0 G)(n:G a=some o):GE (up G0 a o) G:=λb u q=>by
 by_cases hb:b=a
 ·subst hb;rw[aj]at q;cases q;exact n
 ·rw[aH hb]at q;exact h b u q
section
variable{G:Gp}{a b:Addr}{xs ys:List PV}{x y:PV}{i k:Int}{j:Nat}{Q:K2}
theorem Lq(h:G a=some (.lst (xs++[y])))(q:Q y (up G a (.lst xs))):Cg (.ref a) [] G Q:=by
 unfold Cg
 simp only[h]
 rw[aP,bS (by simp)]
 simp only[aU,List.length_nil,Nat.add_sub_cancel,lG,yw,List.dropLast_concat]
 exact q
theorem gW(h:G a=some (.lst xs))(hl:xs.length<16000000)(q:Q .non (up G a (.lst (xs++[y])))):j9 (.ref a) [y] G Q:=by
 unfold j9;simp only[h];exact⟨hl,q⟩
theorem Km(h:G a=some (.lst xs))(hl:xs.length+ys.length<=16000000)(q:Q .non (up G a (.lst (xs++ys)))):gU (.ref a) [.tup ys] G Q:=by
 unfold gU;simp only[h];exact⟨hl,q⟩
theorem rn(h:G a=some (.lst xs))(h2:G b=some (.lst ys))(hl:xs.length+ys.length<=16000000)(q:Q .non (up G a (.lst (xs++ys)))):gU (.ref a) [.ref b] G Q:=by
 unfold gU;simp only[h,h2];exact⟨hl,q⟩
theorem nq(h:lk G a=some xs)(q:Q (.int xs.length) G):jy [.ref a] G Q:=by
 unfold jy;simp only[h];exact q
theorem cj(h:lk G a=some xs)(e:qh xs i=some x)(q:Q x G):ra (.ref a) (.int i) G Q:=by
 unfold ra;simp only[h,e];exact q
theorem Mo(h:lk G a=some xs)(e:qh xs i=some x)(q:Q x G):Go (.ref a) (.int i) G Q:=by
 unfold Go;simp only[h,e];exact q
theorem KB(h:lk G a=some xs)(hl:xs.length+ys.length<=16000000)(q:∀c,G c=none->Q (.ref c) (up G c (.lst (xs++ys)))):yp (.ref a) (.ro ys) G Q:=by
 unfold yp;simp only[h];exact⟨hl,q⟩
theorem eO(e:qh xs i=some x)(q:Q x G):ra (.tup xs) (.int i) G Q:=by
 unfold ra;simp only[e];exact q
theorem pr{z:Str}{c:Nat}(hz:z.length<=16000000)(e:qh z.cps.toList i=some c)(q:Q (.str ⟨#[c]⟩) G):ra (.str z) (.int i) G Q:=by
 unfold ra;simp only[e];exact⟨hz,q⟩
theorem gE{v:PV}{R:Gp->Prop}(h:G a=some (.lst xs))(e:AI xs.length k=some j)(q:R (up G a (.lst (xs.set j v)))):EG (.ref a) (.int k) v G R:=by
 unfold EG;simp only[h,e];exact q
theorem MI(h:lk G a=some xs)(h2:lk G b=some ys)(f1:c8 100 xs=true)(f2:c8 100 ys=true)(q:Q (.bl (j6 xs ys)) G):Hv (.ref a) (.ref b) G Q:=by
 unfold Hv;simp only[h,h2];exact⟨f1,f2,q⟩
theorem LK(h:lk G a=some xs)(h2:lk G b=some ys)(f1:c8 100 xs=true)(f2:c8 100 ys=true)(q:Q (.bl (!j6 xs ys)) G):Jc (.ref a) (.ref b) G Q:=by
 unfold Jc;simp only[h,h2];exact⟨f1,f2,q⟩
theorem qt(h:lk G a=some xs)(q:Q (.tup xs) G):lZ [.ref a] G Q:=by
 unfold lZ;simp only[h];exact q
theorem BC{ns:List Int}(h:lk G a=some (ns.map PV.int))(q:Q (.int ns.sum) G):z7 [.ref a] G Q:=by
 unfold z7;simp only[h,ya];exact q
theorem uI{z:Str}{zs:List Str}(h:lk G a=some (zs.map PV.str))(hl:(zs.map (·.length)).sum+zs.length*z.length<=16000000)(q:Q (.str (i8 z zs)) G):qY (.str z) [.ref a] G Q:=by
 unfold qY;simp only[h,xp];exact⟨hl,q⟩
end
noncomputable def Ch(l:List Addr)(G G':Gp):Prop:=∀c o,c∉l->G c=some o->G' c=some o
theorem Ch.refl{l:List Addr}{G:Gp}:Ch l G G:=λ_ _ _ h=>h
theorem Ch.trans{l:List Addr}{G G1 G2:Gp}(a:Ch l G G1)(b:Ch l G1 G2):Ch l G G2:=λc o n h=>b c o n (a c o n h)
theorem Ch.new{l:List Addr}{G G1:Gp}{a:Addr}{o:MO}(h:Ch l G G1)(n:G1 a=none):Ch l G (up G1 a o):=λb u hb q=>by
 have:=h b u hb q
 have ne:b≠a:=λz=>by subst z;rw[n]at this;cases this
 rw[aH ne];exact this
theorem Ch.put{l:List Addr}{G G1:Gp}{a:Addr}{o:MO}(h:Ch l G G1)(n:a∈l):Ch l G (up G1 a o):=λb u hb q=>by
 have ne:b≠a:=λz=>by subst z;exact hb n
 rw[aH ne];exact h b u hb q
theorem Ch.mod'{l:List Addr}{G G1:Gp}{a:Addr}{o:MO}(h:Ch l G G1)(n:G a=none):Ch l G (up G1 a o):=λb u hb q=>by
 have ne:b≠a:=λz=>by subst z;rw[n]at q;cases q
 rw[aH ne];exact h b u hb q
theorem Ch.mono{l l':List Addr}{G G1:Gp}(h:Ch l G G1)(s:∀a∈l,a∈l'):Ch l' G G1:=λb u hb q=>h b u (λz=>hb (s b z)) q
theorem GE.ch{l:List Addr}{G G1:Gp}(h:GE G G1):Ch l G G1:=λb u _ q=>h b u q
noncomputable def Pool(G:Gp)(a:Addr):Prop:=∃x y z:Int,G a=some (.lst [.int x,.int y,.int z])/\0<=x
theorem Pool.new{G:Gp}{a b:Addr}{o:MO}(h:Pool G a)(n:G b=none):Pool (up G b o) a:=by
 obtain⟨x,y,z,e,hx⟩:=h
 exact⟨x,y,z,by rw[aH (λq=>by subst q;rw[n]at e;cases e)];exact e,hx⟩
theorem Pool.ne{G:Gp}{a b:Addr}{o:MO}(h:Pool G a)(n:b≠a):Pool (up G b o) a:=by
 obtain⟨x,y,z,e,hx⟩:=h
 exact⟨x,y,z,by rw[aH (aG n)];exact e,hx⟩
theorem aX{G:Gp}{a b:Addr}{o:MO}(h:G a=some o)(n:G b=none):a≠b:=λz=>by subst z;rw[h]at n;cases n
theorem Pool.some{G:Gp}{a:Addr}(h:Pool G a):∃o,G a=some o:=by obtain⟨x,y,z,e,_⟩:=h;exact⟨_,e⟩
theorem kK{P:aJ}{w:aV}{K:PySem.W.Frag}{mg:Str->Option ae}{base:Heap}{k:Nat}{f:Addr}{fd:aW}{ps:List Str}{sp:iH}(h:∀as G Q,¬sp as G Q):i9 P w K mg base k f fd ps sp:=
 ⟨λvs H Q E ⟨as,G,Q2,_,_,q,_⟩=>absurd q (h as G Q2),λA outer s H args us vs Q E _ _ _ _ ⟨as,G,Q2,_,_,q,_⟩=>absurd q (h as G Q2)⟩
noncomputable def xw:iH:=λps G Q=>∃c:Int,ps=[.int c]/\∀a G',G a=none->Pool G' a->Ch [a] G G'->Q (.ref a) G'
noncomputable def gD:iH:=λps G Q=>∃(a:Addr) (b:Int),ps=[.ref a,.int b]/\Pool G a/\1<=b/\b<=1000000/\∀(n:Int) G',0<=n->n<b->Pool G' a->Ch [a] G G'->Q (.int n) G'
inductive Pt where
 |none|blank|sign (s:Str)|row (ps:List Pt)|pick (ps:List Pt)|again (p:Pt)|held (n:Str) (p:Pt)|price (n:Int) (p:Pt)
mutual
noncomputable def ib:Pt->PV
 | .none=> .tup [.str "none"]
 | .blank=> .tup [.str "blank"]
 | .sign s=> .tup [.str "sign",.str s]
 | .row ps=> .tup [.str "row",.tup (cL ps)]
 | .pick ps=> .tup [.str "pick",.tup (cL ps)]
 | .again p=> .tup [.str "again",ib p]
 | .held n p=> .tup [.str "held",.str n,ib p]
 | .price n p=> .tup [.str "price",.int n,ib p]
noncomputable def cL:List Pt->List PV
 |[]=>[]
 |p::ps=>ib p::cL ps
end
theorem gn:∀ps:List Pt,cL ps=ps.map ib
 |[]=>rfl
 |p::ps=>by show ib p::cL ps=_;rw[gn ps];rfl
theorem iA(ps qs:List Pt):cL (ps++qs)=cL ps++cL qs:=by rw[gn,gn,gn,a8]
theorem uR(ps:List Pt):cL ps.reverse=(cL ps).reverse:=by rw[gn,gn,List.map_reverse]
theorem cx(ps:List Pt):(cL ps).length=ps.length:=by rw[gn,ak]
noncomputable def cz:Pt->List Pt
 | .row ps=>ps
 | .pick ps=>ps
 | .again p=>[p]
 | .held _ p=>[p]
 | .price _ p=>[p]
 |_=>[]
mutual
noncomputable def size:Pt->Nat
 | .row ps=>1+cf ps
 | .pick ps=>1+cf ps
 | .again p=>1+size p
 | .held _ p=>1+size p
 | .price _ p=>1+size p
 |_=>1
noncomputable def cf:List Pt->Nat
 |[]=>0
 |p::ps=>size p+cf ps
end
theorem i0(p:Pt):size p=1+cf (cz p):=by
 cases p<;>simp[size,cz,cf]
theorem fC(p:Pt):0<size p:=by rw[i0];ac_nf
theorem mX(ps qs:List Pt):cf (ps++qs)=cf ps+cf qs:=by
 induction ps with
 |nil=>simp[cf]
 |cons p ps ih=>simp[cf,ih];ac_nf
theorem cK:∀ps:List Pt,ps.length<=cf ps
 |[]=>bt _
 |p::ps=>by
  have:=cK ps
  have:=fC p
  simp[cf];ac_nf
mutual
noncomputable def makes:Pt->List Pt
 | .row ps=> .row ps::dH ps
 | .pick ps=> .pick ps::dH ps
 | .again p=> .again p::makes p
 | .held n p=> .held n p::makes p
 | .price n p=> .price n p::makes p
 |p=>[p]
noncomputable def dH:List Pt->List Pt
 |[]=>[]
 |p::ps=>makes p++dH ps
end
theorem jl(p:Pt):makes p=p::dH (cz p):=by
 cases p<;>simp[makes,cz,dH]
theorem lN(ps qs:List Pt):dH (ps++qs)=dH ps++dH qs:=by
 induction ps with
 |nil=>simp[dH]
 |cons p ps ih=>simp[dH,ih]
mutual
theorem bY:∀p:Pt,(makes p).length=size p
 | .row ps=>by simp[makes,size,fH ps];ac_nf
 | .pick ps=>by simp[makes,size,fH ps];ac_nf
 | .again p=>by simp[makes,size,bY p];ac_nf
 | .held n p=>by simp[makes,size,bY p];ac_nf
 | .price n p=>by simp[makes,size,bY p];ac_nf
 | .none=>rfl
 | .blank=>rfl
 | .sign s=>rfl
theorem fH:∀ps:List Pt,(dH ps).length=cf ps
 |[]=>rfl
 |p::ps=>by simp[dH,cf,bY p,fH ps]
end
noncomputable def eM(c:Nat):Str:=⟨#[c]⟩
theorem wo:∀zs:List Str,(Str.join (aF "") zs).cps.toList=(zs.map λz=>z.cps.toList).flatten
 |[]=>rfl
 |[z]=>by simp[Str.join]
 |z::y::r=>by
  show(z++aF "" ++Str.join (aF "") (y::r)).cps.toList=_
  have h:=wo (y::r)
  rw[aw,dP,<-h]
  show(z.cps++(aF "").cps++(Str.join (aF "") (y::r)).cps).toList=_
  rw[Array.toList_append,Array.toList_append]
  simp[show(aF "").cps.toList=[]from rfl]
theorem tz(zs:List Str):(i8 (aF "") zs).cps.toList=(zs.map λz=>z.cps.toList).flatten:=by
 have e:i8 (aF "") zs=Str.join (aF "") zs:=StrLaws.glued_eq_join _ _
 rw[e,wo]
theorem jX(cs:List Nat):(i8 (aF "") (cs.map eM)).cps.toList=cs:=by
 rw[tz]
 induction cs with
 |nil=>rfl
 |cons c cs ih=>rw[aw,aw,dP,ih];rfl
theorem BJ{z:Str}{i:Nat}{x:PV}(h:(jr z)[i]? =some x):∃c,z.cps.toList[i]? =some c/\x= .str (eM c):=by
 unfold jr at h
 rw[aC]at h
 cases e:z.cps.toList[i]? with
 |none=>rw[e]at h;cases h
 |some c=>rw[e]at h;cases h;exact⟨c,rfl,rfl⟩
theorem Ae(cs:List Nat):c8 100 (cs.map λc=> .str (eM c))=true:=by
 induction cs with
 |nil=>rfl
 |cons c cs ih=>rw[aw];unfold c8;rw[ih];rfl
theorem vC(cs:List Nat):((cs.map eM).map (·.length)).sum=cs.length:=by
 induction cs with
 |nil=>rfl
 |cons c cs ih=>rw[aw,aw,bn,ih,aU];show 1+cs.length=_;ac_nf
mutual
noncomputable def depth:Pt->Nat
 | .row ps=>1+bd ps
 | .pick ps=>1+bd ps
 | .again p=>1+depth p
 | .held _ p=>1+depth p
 | .price _ p=>1+depth p
 |_=>1
noncomputable def bd:List Pt->Nat
 |[]=>0
 |p::ps=>max (depth p) (bd ps)
end
mutual
noncomputable def bN:Pt->Bool
 | .none=>false
 | .blank=>true
 | .sign _=>false
 | .row ps=>iB ps
 | .pick ps=>jg ps
 | .again _=>true
 | .held _ p=>bN p
 | .price _ p=>bN p
noncomputable def iB:List Pt->Bool
 |[]=>true
 |p::ps=>bN p&&iB ps
noncomputable def jg:List Pt->Bool
 |[]=>false
 |p::ps=>bN p||jg ps
end
theorem lQ(ps qs:List Pt):bd (ps++qs)=max (bd ps) (bd qs):=by
 induction ps with
 |nil=>simp[bd]
 |cons p ps ih=>simp[bd,ih,Nat.max_assoc]
theorem wJ(ps qs:List Pt):jg (ps++qs)=(jg ps||jg qs):=by
 induction ps with
 |nil=>simp[jg]
 |cons p ps ih=>simp[jg,ih,Bool.or_assoc]
theorem zM:∀{ps:List Pt} {i:Nat} {p:Pt},ps[i]? =some p->iB ps=true->bN p=true
 |[],_,_,h,_=>by simp at h
 |p::ps,0,q,h,e=>by
  simp at h;subst h
  simp[iB]at e;exact e.1
 |p::ps,i+1,q,h,e=>by
  simp[iB]at e
  exact zM (i:=i) (by simpa using h) e.2
theorem jJ(p:Pt):depth p=1+bd (cz p):=by
 cases p<;>simp[depth,cz,bd]
theorem mq{α:Type}{xs:List α}{n:Int}(h0:0<=n)(h1:n<xs.length):∃x,qh xs n=some x/\x∈xs:=by
 have hl:n.toNat<xs.length:=by ac_nf
 refine⟨xs[n.toNat],?_,List.getElem_mem hl⟩
 have:=bF (xs:=xs) (j:=n.toNat) (v:=xs[n.toNat]) (al hl)
 rwa [show((n.toNat:Nat):Int)=n by ac_nf]at this
theorem o7(p:Pt):1<=depth p:=by rw[jJ];ac_nf
noncomputable def cN:Nat->List Pt->List Nat
 |_,[]=>[]
 |b,p::ps=>b::cN (b+size p) ps
theorem lR(b:Nat)(ps qs:List Pt):cN b (ps++qs)=cN b ps++cN (b+cf ps) qs:=by
 induction ps generalizing b with
 |nil=>simp[cN,cf]
 |cons p ps ih=>simp[cN,cf,ih,Nat.add_assoc]
theorem eN(b:Nat)(ps:List Pt):(cN b ps).length=ps.length:=by
 induction ps generalizing b with
 |nil=>rfl
 |cons p ps ih=>simp[cN,ih]
mutual
theorem KL:∀(p:Pt) (j:Nat) (q:Pt),(makes p)[j]? =some q->∃r,(makes p).drop j=makes q++r
 | .row ps,j,q,h=>by
  cases j with
  |zero=>simp[makes]at h;subst h;exact⟨[],by simp⟩
  |succ j=>simp[makes]at h⊢;exact HV ps j q h
 | .pick ps,j,q,h=>by
  cases j with
  |zero=>simp[makes]at h;subst h;exact⟨[],by simp⟩
  |succ j=>simp[makes]at h⊢;exact HV ps j q h
 | .again p,j,q,h=>by
  cases j with
  |zero=>simp[makes]at h;subst h;exact⟨[],by simp⟩
  |succ j=>simp[makes]at h⊢;exact KL p j q h
 | .held n p,j,q,h=>by
  cases j with
  |zero=>simp[makes]at h;subst h;exact⟨[],by simp⟩
  |succ j=>simp[makes]at h⊢;exact KL p j q h
 | .price n p,j,q,h=>by
  cases j with
  |zero=>simp[makes]at h;subst h;exact⟨[],by simp⟩
  |succ j=>simp[makes]at h⊢;exact KL p j q h
 | .none,j,q,h=>by
  cases j with
  |zero=>simp[makes]at h;subst h;exact⟨[],by simp⟩
  |succ j=>simp[makes]at h
 | .blank,j,q,h=>by
  cases j with
  |zero=>simp[makes]at h;subst h;exact⟨[],by simp⟩
  |succ j=>simp[makes]at h
 | .sign s,j,q,h=>by
  cases j with
  |zero=>simp[makes]at h;subst h;exact⟨[],by simp⟩
  |succ j=>simp[makes]at h
theorem HV:∀(ps:List Pt) (j:Nat) (q:Pt),(dH ps)[j]? =some q->∃r,(dH ps).drop j=makes q++r
 |[],j,q,h=>by simp[dH]at h
 |p::ps,j,q,h=>by
  simp only[dH]at h⊢
  by_cases hj:j<(makes p).length
  ·rw[bW hj]at h
   obtain⟨r,e⟩:=KL p j q h
   refine⟨r++dH ps,?_⟩
   rw[List.drop_append_of_le_length (iE hj),e,eX]
  ·rw[bS (by ac_nf)]at h
   obtain⟨r,e⟩:=HV ps _ q h
   refine⟨r,?_⟩
   rw[List.drop_append,List.drop_of_length_le (by ac_nf),List.nil_append,e]
end
theorem Ac{p q:Pt}{j:Nat}(h:(makes p)[j]? =some q):∃r,(makes p).drop (j+1)=dH (cz q)++r:=by
 obtain⟨r,e⟩:=KL p j q h
 refine⟨r,?_⟩
 have:(makes p).drop (j+1)=((makes p).drop j).drop 1:=by rw[List.drop_drop]
 rw[this,e,jl q]
 rfl
theorem vK{p q c:Pt}{j:Nat}{pre post:List Pt}(h:(makes p)[j]? =some q)(hi:cz q=pre++c::post):(makes p)[j+1+cf pre]? =some c:=by
 obtain⟨r,e⟩:=Ac h
 have e2:((makes p).drop (j+1))[cf pre]? =some c:=by
  rw[e,hi,lN,eX,bS (by rw[fH];exact ao _),fH,lG]
  simp only[dH]
  rw[jl c]
  rfl
 rw[List.getElem?_drop]at e2
 exact e2
theorem vJ{p q:Pt}{j:Nat}(h:(makes p)[j]? =some q):j+size q<=size p:=by
 obtain⟨r,e⟩:=KL p j q h
 have:=congrArg iV e
 rw[List.length_drop,aP,bY,bY]at this
 have hj:=(am.mp h).1
 rw[bY]at hj
 ac_nf
noncomputable def gh(n:Nat):PV:= .int n
noncomputable def gF(p:Pt):List PV:=(bJ (size p)).map λj=> .tup ((cN (j+1) (cz ((makes p).getD j .none))).map gh)
theorem rY(p:Pt):(gF p).length=size p:=by unfold gF;simp
theorem fQ{p q:Pt}{j:Nat}(h:(makes p)[j]? =some q):(gF p)[j]? =some (.tup ((cN (j+1) (cz q)).map gh)):=by
 have hj:=(am.mp h).1
 rw[bY]at hj
 unfold gF
 rw[aC,dB hj]
 show some (PV.tup ((cN (j+1) (cz ((makes p).getD j .none))).map gh))=_
 rw[eF,h]
 rfl
mutual
theorem rE:∀(n:Nat) (p:PV),dN n p=true->kr p p=true
 |_,.non,_=>rfl
 |_,.bl b,_=>by unfold kr;simp
 |_,.int b,_=>by unfold kr;simp
 |_,.str b,_=>by unfold kr;simp
 |n,.tup xs,h=>by
  cases n with
  |zero=>cases h
  |succ n=>unfold kr;exact tI n xs h
 |n,.ref _,h=>by cases n<;>cases h
 |n,.ty _,h=>by cases n<;>cases h
 |n,.ro _,h=>by cases n<;>cases h
theorem tI:∀(n:Nat) (xs:List PV),c8 n xs=true->j6 xs xs=true
 |_,[],_=>rfl
 |n,x::xs,h=>by
  unfold c8 at h
  rw[bp]at h
  unfold j6
  rw[rE n x h.1,tI n xs h.2]
  rfl
end
section
variable{G:Gp}{a:Addr}{xs:List PV}{x y p:PV}{i:Int}{j:Nat}{Q:K2}
theorem DG(f1:kS p=true)(f2:xs.all kS=true)(q:Q (.bl (Kh p xs)) G):Mq false p (.tup xs) G Q:=⟨f1,f2,q⟩
theorem Ke{ty T:String}(h:NA p G=some ty)(hT:T∈Ow)(q:Q (.bl (Nm ty T)) G):wv [p,.ty T] G Q:=by
 unfold wv;simp only[h];exact⟨hT,q⟩
theorem C8(f1:dN 100 x=true)(f2:dN 100 y=true)(q:Q (.bl (!kr x y)) G):Jc x y G Q:=by
 cases x with
 |ref a=>cases f1
 |ty a=>cases f1
 |ro a=>cases f1
 |_=>cases y with
  |ref a=>cases f2
  |ty a=>cases f2
  |ro a=>cases f2
  |_=>exact⟨f1,f2,q⟩
theorem fD(f1:dN 100 x=true)(f2:dN 100 y=true)(q:Q (.bl (kr x y)) G):Hv x y G Q:=by
 cases x with
 |ref a=>cases f1
 |ty a=>cases f1
 |ro a=>cases f1
 |_=>cases y with
  |ref a=>cases f2
  |ty a=>cases f2
  |ro a=>cases f2
  |_=>exact⟨f1,f2,q⟩
theorem rO{i j:Int}(q:Q (.int (i+j)) G):yp (.int i) (.int j) G Q:=q
end
end L3
namespace PyProof.Rows
open PySem
section
end
end PyProof.Rows
namespace PySem
open Sem (wp)
open Builtin
end PySem
namespace L3
open PySem L2
theorem zT{ns:List Str}{us:List ae}(h:PyProof.Rows.StrsAre us ns):Vals (ns.map V.str) us:=by
 induction h with
 |nil=>exact .nil
 |cons n t _ ih=>exact .cons ⟨t,rfl⟩ ih
theorem BD{K:PySem.W.Frag}{H:Hp}:∀(l:List Str),Dvs K H (l.map PV.str) (l.map V.str)
 |[]=>rfl
 |i::l=>⟨_,_,rfl,rfl,BD l⟩
section
noncomputable def lm:ae->Bool
 | .none=>true
 |_=>false
theorem C7{K:PySem.W.Frag}{H:Hp}{p:PV}{v:V}{u:ae}(f:dN 100 p=true)(d:Dv K H p v)(r:RelV v u):lm u=kr p .non:=by
 cases p with
 |non=>obtain rfl:v= .non:=d;cases r;rfl
 |bl b=>obtain rfl:v= .bl b:=d;cases r;rfl
 |int b=>obtain rfl:v= .int b:=d;obtain⟨t,rfl⟩:=r;rfl
 |str b=>obtain rfl:v= .str b:=d;obtain⟨t,rfl⟩:=r;rfl
 |tup ps=>obtain⟨a,vs,rfl,_⟩:=d;cases r;rfl
 |ref a=>cases f
 |ty a=>cases f
 |ro a=>cases f
end
end L3
namespace PySem
open PyProof.Rows (StrsAre)
theorem ph:∀{vs:List ae} {ss:List Str},StrsAre vs ss->vs.length=ss.length
 |_,_,.nil=>rfl
 |_,_,.cons _ _ h=>by rw[aU,aU,ph h]
section
end
end PySem
namespace PySem
open PyProof.Rows (StrsAre)
section
end
section
end
end PySem
namespace PySem
open PyProof.Rows (StrsAre)
section
end
namespace F
end F
end PySem
namespace PySem
open PyProof.Rows (StrsAre)
section
end
end PySem
namespace PySem
open PyProof.Rows (StrsAre)
section
end
end PySem
namespace PySem
open PyProof.Rows (StrsAre)
section
end
end PySem
namespace PySem
open PyProof.Rows
section
variable{prog:aJ}{w:aV}{A:Around}{E:ae->ai->Prop}{s:ai}{ks:List Str}
theorem z9{Q:ae->ai->Prop}(v:ae)
  (hc:∀(R:List ae->ai->Prop),(∀(s':ai) (acc:Array ae) (ks':List Str),(∀b o,s.heap.get? b=some o->s'.heap.get? b=some o)->s'.gens=s.gens->s'.os=s.os->StrsAre acc.toList ks'->ks'.Perm ks->R acc.toList s')->wpAny (aQ prog w) A.in1 (collect v) R E s)
  (h64:ks.length<64)
  (h:∀(s':ai) (l:Addr) (out:Array ae) (ss':List Str) (e:Nat),(∀b o,s.heap.get? b=some o->s'.heap.get? b=some o)->s'.gens=s.gens->s'.os=s.os->s.heap.get? l=none->s'.heap.get? l=some (seqObj "list" out e)->StrsAre out.toList ss'->ss'.Perm ks->sortedS ss'=true->Q (.ref l) s'):
  wpAny (aQ prog w) A (call (.builtin "sorted") [v]) Q E s:=by
 refine Calls.call_function_entry kind_sorted plain_sorted entry_sorted (args_sorted1 _) ?_
 unfold cu.«sorted»
 refine aa (m:=checkCount "sorted" 1 1 _) (aq ?_)
 refine aa (hc _ λs' acc ks' hk hg ho hS hp=> ?_)
 have hl:acc.toList.length<64:=by rw[ph hS,hp.length_eq];exact h64
 refine aa (wpAny_newList ?_)
 have hoL:(s'.heap.push (seqObj "list" acc.toList.toArray 0)).get? s'.heap.objs.size=some (seqObj "list" acc.toList.toArray 0):=aK _ rfl
 have hle:s.heap.get? s'.heap.objs.size=none:=by
  cases e:s.heap.get? s'.heap.objs.size with
  |none=>rfl
  |some o=>
   have:=hk _ o e
   rw[Heap.get?_none_of_le (ao _)]at this
   cases this
 show wpAny _ _ _ _ _ {s' with heap:=s'.heap.push (seqObj "list" acc.toList.toArray 0)}
 refine aa (cJ (cY slot_list_sort ⟨_,hoL,rfl⟩ entry_list_sort (list_sort_treeK strKind_oneLt hoL hS.keysOf (λv₁ v₂ rest e=>keyKind_strs (by rw[<-e];exact hS)) hl λst' a1 a2=>⟨_,rfl,?_⟩) (args_list_sort _)))
 obtain⟨ss',h1,h2,h3⟩:=sorted_out_str hS a1 a2
 obtain⟨e,he⟩:=sortedHeap_at (out:=(arrOf st').map (·.2)) hoL
 refine aq ⟨_,rfl,h _ s'.heap.objs.size _ ss' e (λb o q=> ?_) hg ho hle he h1 (h2.trans hp) h3⟩
 have q':=hk b o q
 have hb:b<s'.heap.objs.size:=aB q'
 show(sortedHeap _ _ _ _).get? b=some o
 rw[sortedHeap_old (aN hb) (aB (af _ q'))]
 exact af _ q'
end
end PySem
namespace L3
open PySem L2
section
end
end L3
namespace PySem
open Sem (wp)
open Builtin
end PySem
namespace L3
open PySem L2
section
end
noncomputable abbrev KN(t:E2):su:=λτ G R=>t τ G λp G1=>match p with
 | .ref a=>match lk G1 a with
  |some ps=>R ps (λG=>lk G a=some ps) G1
  |none=>False
 |_=>False
theorem zx{X:Cx}{l tg:Expr}{t:E2}(hl:JE X l t):JI X tg l (KN t):= .of (Fa hl.h) λσ H R hPl=>by
 obtain⟨τ,G,R2,rs,rp,h,cl⟩:=hPl
 refine⟨τ,G,_,rs,rp,h,λp G1 v H1 q d r k=> ?_⟩
 cases p with
 |ref a=>
  obtain rfl:v= .ref a:=d
  dsimp only at q
  split at q
  ·rename_i ps e
   obtain⟨vs,sq,dv⟩:=fU r e
   exact⟨a,rfl,⟨vs,sq⟩,cl _ _ _ _ _ q r k DD⟩
  ·exact q.elim
 |_=>exact q.elim
theorem vI:∀{ps:List Pt} {c:Pt},c∈ps->size c<=cf ps
 |p::ps,c,h=>by
  rcases aI.mp h with rfl|h
  ·simp only[cf];ac_nf
  ·have:=vI h;simp only[cf];ac_nf
theorem fJ:∀{ps:List Pt} {c:Pt},c∈ps->depth c<=bd ps
 |p::ps,c,h=>by
  rcases aI.mp h with rfl|h
  ·simp only[bd];ac_nf
  ·have:=fJ h;simp only[bd];ac_nf
inductive Tr where
 |blank|sign (s:Str)|row (ts:List Tr)|pick (k:Int) (t:Tr)|again (ts:List Tr)|held (n:Str) (t:Tr)|price (n:Int) (t:Tr)
mutual
noncomputable def jM:Tr->PV
 | .blank=> .tup [.str "blank"]
 | .sign s=> .tup [.str "sign",.str s]
 | .row ts=> .tup [.str "row",.tup (iL ts)]
 | .pick k t=> .tup [.str "pick",.int k,jM t]
 | .again ts=> .tup [.str "again",.tup (iL ts)]
 | .held n t=> .tup [.str "held",.str n,jM t]
 | .price n t=> .tup [.str "price",.int n,jM t]
noncomputable def iL:List Tr->List PV
 |[]=>[]
 |t::ts=>jM t::iL ts
end
theorem i5:∀ts:List Tr,iL ts=ts.map jM
 |[]=>rfl
 |t::ts=>by show jM t::iL ts=_;rw[i5 ts];rfl
theorem kT(ts us:List Tr):iL (ts++us)=iL ts++iL us:=by rw[i5,i5,i5,a8]
theorem pz(ts:List Tr):(iL ts).length=ts.length:=by rw[i5,ak]
mutual
noncomputable def ug:Tr->Nat
 | .row ts=>1+qw ts
 | .again ts=>1+qw ts
 | .pick _ t=>1+ug t
 | .held _ t=>1+ug t
 | .price _ t=>1+ug t
 |_=>1
noncomputable def qw:List Tr->Nat
 |[]=>0
 |t::ts=>max (ug t) (qw ts)
end
mutual
theorem kU:∀(p:Tr) (n:Nat),2*ug p<=n->dN n (jM p)=true
 | .blank,n,h=>by
  simp[ug]at h
  obtain⟨n,rfl⟩:∃m,n=m+1:=⟨n-1,by ac_nf⟩
  simp[jM,dN,c8]
 | .sign s,n,h=>by
  simp[ug]at h
  obtain⟨n,rfl⟩:∃m,n=m+1:=⟨n-1,by ac_nf⟩
  simp[jM,dN,c8]
 | .row ps,n,h=>by
  simp[ug]at h
  obtain⟨n,rfl⟩:∃m,n=m+2:=⟨n-2,by ac_nf⟩
  simp[jM,dN,c8,oZ ps n (by ac_nf)]
 | .again ps,n,h=>by
  simp[ug]at h
  obtain⟨n,rfl⟩:∃m,n=m+2:=⟨n-2,by ac_nf⟩
  simp[jM,dN,c8,oZ ps n (by ac_nf)]
 | .pick s p,n,h=>by
  simp[ug]at h
  obtain⟨n,rfl⟩:∃m,n=m+1:=⟨n-1,by ac_nf⟩
  simp[jM,dN,c8,kU p n (by ac_nf)]
 | .held s p,n,h=>by
  simp[ug]at h
  obtain⟨n,rfl⟩:∃m,n=m+1:=⟨n-1,by ac_nf⟩
  simp[jM,dN,c8,kU p n (by ac_nf)]
 | .price s p,n,h=>by
  simp[ug]at h
  obtain⟨n,rfl⟩:∃m,n=m+1:=⟨n-1,by ac_nf⟩
  simp[jM,dN,c8,kU p n (by ac_nf)]
theorem oZ:∀(ps:List Tr) (n:Nat),2*qw ps<=n->c8 n (iL ps)=true
 |[],n,h=>by simp[iL,c8]
 |p::ps,n,h=>by
  simp[qw]at h
  simp[iL,c8,kU p n (by ac_nf),oZ ps n (by ac_nf)]
end
section
end
end L3
namespace L2
open PySem PySem.Spec PyProof.Rows
section
end
end L2
namespace L3
open PySem L2
section
end
section
variable{prog:aJ}{w:aV}{A:Around}{E:ae->ai->Prop}{s:ai}
theorem jk{it l:Addr}{i:Nat}{items:Array ae}{x:ae}{Q:ae->ai->Prop}(hit:s.heap.IsTupleIter it l i)
  (hl:s.heap.IsTuple l items) (hx:items[i]? =some x)
  (hQ:∀h':Heap,h'.IsTupleIter it l (i+1)->eA it s.heap h'->Q x {s with heap:=h'}):
  wpAny (aQ prog w) A (bL (.ref it)) Q E s:=by
 obtain⟨o,ho,hc,hd⟩:=id hit
 obtain⟨ol,hol,_,nl,hdl⟩:=hl
 unfold bL
 refine aa (cF (name:=aF "__next__") hit.typeIs gI
  (cY gI hit.typeIs wV ?_ (wP _)))
 show wpAny _ _ (field (.ref it) 0>>=_) _ _ s
 refine aa (bG ho hd (x:= .ref l) rfl ?_)
 show wpAny _ _ (if(aE l==br)=true then _ else _) _ _ s
 rw[if_neg (show¬((aE l==br)=true)from bz)]
 show wpAny _ _ (field (.ref it) 1>>=_) _ _ s
 refine aa (bG ho hd (x:= .int i 0) rfl ?_)
 show wpAny _ _ (seqItems? (.ref l)>>=_) _ _ s
 refine aa (dU hol hdl ?_)
 simp only[fV,hx]
 refine aa (pH ho hd (by simp) (aq ⟨x,rfl,aq (hQ _ ?_ (eA.update ..))⟩))
 exact⟨_,dG _ ho (Obj.isFreed_of_fields (Obj.data_mapFields hd _)),(Obj.cls_mapFields ..).trans hc,by
  rw[Obj.data_mapFields hd];simp[rawInt]⟩
theorem oM{it l:Addr}{i:Nat}{items:Array ae}{Q:ae->ai->Prop}(hh:A.handled=none)
  (hit:s.heap.IsTupleIter it l i) (hl:s.heap.IsTuple l items) (hx:items[i]? =none)
  (hE:∀(h':Heap) (e:Addr),Heap.ExtBut it s.heap h'->(∃o,h'.get? e=some o/\o.cls= .type "StopIteration")->E (.ref e) {s with heap:=h'}):
  wpAny (aQ prog w) A (bL (.ref it)) Q E s:=by
 obtain⟨o,ho,hc,hd⟩:=id hit
 obtain⟨ol,hol,_,nl,hdl⟩:=hl
 unfold bL
 refine aa (cF (name:=aF "__next__") hit.typeIs gI
  (cY gI hit.typeIs wV ?_ (wP _)))
 show wpAny _ _ (field (.ref it) 0>>=_) _ _ s
 refine aa (bG ho hd (x:= .ref l) rfl ?_)
 show wpAny _ _ (if(aE l==br)=true then _ else _) _ _ s
 rw[if_neg (show¬((aE l==br)=true)from bz)]
 show wpAny _ _ (field (.ref it) 1>>=_) _ _ s
 refine aa (bG ho hd (x:= .int i 0) rfl ?_)
 show wpAny _ _ (seqItems? (.ref l)>>=_) _ _ s
 refine aa (dU hol hdl ?_)
 simp only[fV,hx]
 refine aa (iq (aa (pH ho hd (by simp) ?_)))
 show wpAny _ _ (newExc (.type "StopIteration") []>>=_) _ _ _
 refine aa ?_
 simp only[newExc,newTuple]
 refine aa (bH ?_ (by size_fits))
 refine aa (m:=firstArgMember _ _) (wpAny_of_eq (a:=br) (by first|rfl|(simp only[firstArgMember];rfl)) ?_)
 refine bH ?_ (by size_fits)
 simp only[raiseNew]
 refine aa (wpAny_handled ?_)
 first|rw[show A.in1.handled=none from hh]|rw[hh]
 refine aa (aq (wpAny_throw ?_))
 exact hE _ _ (((eA.update ..).extBut.push _).push _) ⟨_,aK _ rfl,rfl⟩
end
theorem A9{prog:aJ}{w:aV}{A:Around}{E:ae->ai->Prop}{s:ai}{z TI TO i1 i2 l1:Addr}{k:Nat}{xs:Array ae}{a b:ae}{Q:Fin->ai->Prop}
  (hh:A.handled=none) (d:[z,TI,TO,i1,i2].Nodup) (hz:kq s.heap z TI TO .none) (hTI:eB s.heap TI (.ref i1) (.ref i2)) (hTO:eB s.heap TO a b)
  (h1:s.heap.IsTupleIter i1 l1 k) (t1:s.heap.IsTuple l1 xs) (n1:l1∉[z,TI,TO,i1,i2]) (hx:xs[k]? =none)
  (hE:∀(h':Heap) (e:Addr),(∀c o,c≠z->c≠TO->c≠i1->c≠i2->s.heap.get? c=some o->h'.get? c=some o)->(∃o,h'.get? e=some o/\o.cls= .type "StopIteration")->E (.ref e) {s with heap:=h'}):
  wpAny (aQ prog w) A (cu.«zip.__next__» {pos:=[.ref z]}) Q E s:=by
 simp only[aZ,aI,bC,or_false,not_or]at d n1
 obtain⟨⟨zTI,zTO,z1,z2⟩,⟨TITO,TI1,su⟩,⟨TO1,TO2⟩,i12,_⟩:=d
 obtain⟨lz1,_,lO1,l11,l12⟩:=n1
 refine aa (show wpAny _ _ (pure (aE z,([]:List ae))) _ _ _ from aq ?_)
 refine aa (bG hz rfl rfl ?_)
 refine aa (bG hz rfl rfl ?_)
 refine aa (dU hTI rfl ?_)
 refine aa (aa (bG hz rfl rfl (aq ?_)))
 simp only[if_true]
 refine aa (iq (aa (bG hz rfl rfl ?_)))
 refine aa (eQ hz (by simp) λh₁ hz₁ hs₁=> ?_)
 have hz1:kq h₁ z TI TO .ellipsis:=hz₁
 refine aa ?_
 simp only[rR,tR,lH,vn]
 refine aa (aa (lz ?_))
 change wpAny _ _ (bind (bL (aE i1)) λx=>pure (some x)) _ _ _
 refine aa (oM hh (h1.extBut hs₁.extBut (aG z1)) (t1.extBut hs₁.extBut lz1) hx λh₄ e sb4 he=> ?_)
 have hz4:kq h₄ z TI TO .ellipsis:=sb4 _ _ z1 hz1
 obtain⟨o,ho,hc⟩:=he
 refine eQ hz4 (by simp) λh₅ hz5 sb5=>hE h₅ e (λc u n1 n2 n3 n4 q=> ?_) ⟨o,sb5.extBut _ _ (λq=> ?_) ho,hc⟩
 ·exact sb5.extBut _ _ n1 (sb4 _ _ n3 (hs₁.extBut _ _ n1 q))
 ·subst q
  rw[show h₄.get? e=_ from hz4]at ho
  cases ho
  exact absurd (bE.inj hc) (by decide)
theorem uy{prog:aJ}{w:aV}{A:Around}{E:ae->ai->Prop}{s:ai}{z TI TO i1 i2 l1:Addr}{k:Nat}{xs:Array ae}{a b:ae}{Q:Option ae->ai->Prop}
  (hh:A.handled=none) (d:[z,TI,TO,i1,i2].Nodup) (hz:kq s.heap z TI TO .none) (hTI:eB s.heap TI (.ref i1) (.ref i2)) (hTO:eB s.heap TO a b)
  (h1:s.heap.IsTupleIter i1 l1 k) (t1:s.heap.IsTuple l1 xs) (n1:l1∉[z,TI,TO,i1,i2]) (hx:xs[k]? =none)
  (hQ:∀h':Heap,(∀c o,c≠z->c≠TO->c≠i1->c≠i2->s.heap.get? c=some o->h'.get? c=some o)->Q none {s with heap:=h'}):
  wpAny (aQ prog w) A (pyNext (.ref z)) Q E s:=by
 have hT:s.TypeIs (.ref z) "zip" :=⟨_,hz,rfl⟩
 exact aa (lB (cF hT g7 (cY g7 hT vk
  (A9 hh d hz hTI hTO h1 t1 n1 hx λh' e hk ⟨o,ho,hc⟩=>aa (lY ⟨o,ho,hc⟩ isSubtype_stop (aq (hQ h' hk)))) (sw (aE z)))))
noncomputable def ju:List PV->List PV->List PV
 |x::xs,y::ys=> .tup [x,y]::ju xs ys
 |_,_=>[]
theorem oJ:∀{xs ys:List PV} {i:Nat} {x y:PV},xs[i]? =some x->ys[i]? =some y->(ju xs ys)[i]? =some (.tup [x,y])
 |a::xs,b::ys,0,x,y,h,g=>by
  cases h;cases g;rfl
 |a::xs,b::ys,i+1,x,y,h,g=>by
  show(ju xs ys)[i]? =_
  exact oJ (by simpa using h) (by simpa using g)
section
variable{X:Cx}{a b c:Expr}{ta tb tc:E2}{pos:Pos}
theorem FV(ha:JE X a ta)(hb:JE X b tb)(hc:JE X c tc)(hm:lastMarks [.LtE,.Lt] [b,c]=false:=by with_unfolding_all rfl):JT X (.Compare a [.LtE,.Lt] [b,c] pos) (vB (yf Oc LN ta tb tc)):=Dl N7 IY ha hb hc hm
end
@[reducible] noncomputable def g8 (kvs:List (Key×PV)) (k:Key):Option PV:=(kvs.find? λkv=>decide (kv.1=k)).map (·.2)
noncomputable def iu(kvs:List (Key×PV))(k:Key)(v:PV):List (Key×PV):=
 if(kvs.any λkv=>decide (kv.1=k))=true then kvs.map (λkv=>if kv.1=k then(kv.1,v)else kv)else kvs++[(k,v)]
@[reducible] noncomputable def uH:PV->Option Key
 | .int i=>some (.inl i)
 | .str x=>some (.inr x)
 |_=>none
noncomputable def kP:Key->PV
 | .inl i=> .int i
 | .inr x=> .str x
theorem uG{K:PySem.W.Frag}{H:Hp}{p:PV}{v:V}{k:Key}(h:uH p=some k)(d:Dv K H p v):v=kV k:=by
 cases p with
 |int i=>cases h;exact d
 |str x=>cases h;exact d
 |_=>cases h
theorem LQ{K:PySem.W.Frag}{H:Hp}(k:Key):Dv K H (kP k) (kV k):=by cases k<;>rfl
section
variable{K:PySem.W.Frag}{H:Hp}
theorem DKv.val:∀{ps:List (Key×PV)} {vs:List (Key×V)},DKv K H ps vs->∀k,(∀p,g8 ps k=some p->∃v,pJ vs k=some v/\Dv K H p v)/\(g8 ps k=none->pJ vs k=none)
 |[],vs,h,k=>by
  obtain rfl:vs=[]:=h
  exact⟨(λp e=>nomatch (show(none:Option PV)=some p from e)),λ_=>rfl⟩
 |(x,p)::ps,vs,h,k=>by
  obtain⟨v,r,rfl,d,z⟩:=h
  by_cases e:x=k
  ·have e1:g8 ((x,p)::ps) k=some p:=by simp[g8,eU,e]
   rw[e1,mH (p:=(x,v)) e]
   exact⟨λq hq=>by cases hq;exact⟨v,rfl,d⟩,λh=>by cases h⟩
  ·have e1:g8 ((x,p)::ps) k=g8 ps k:=by simp[g8,eU,e]
   rw[e1,mI (p:=(x,v)) e]
   exact DKv.val z k
theorem DKv.any:∀{ps:List (Key×PV)} {vs:List (Key×V)},DKv K H ps vs->∀k,(ps.any λkv=>decide (kv.1=k))=(vs.any λkv=>decide (kv.1=k))
 |[],vs,h,k=>by obtain rfl:vs=[]:=h;rfl
 |(x,p)::ps,vs,h,k=>by
  obtain⟨v,r,rfl,d,z⟩:=h
  rw[cR,cR,DKv.any z k]
theorem DKv.map{k:Key}{q:PV}{u:V}(dq:Dv K H q u):∀{ps:List (Key×PV)} {vs:List (Key×V)},DKv K H ps vs->DKv K H (ps.map λkv=>if kv.1=k then(kv.1,q)else kv) (vs.map λkv=>if kv.1=k then(kv.1,u)else kv)
 |[],vs,h=>by obtain rfl:vs=[]:=h;rfl
 |(x,p)::ps,vs,h=>by
  obtain⟨v,r,rfl,d,z⟩:=h
  rw[aw,aw]
  by_cases e:x=k
  ·rw[if_pos e,if_pos e]
   exact⟨u,_,rfl,dq,DKv.map dq z⟩
  ·rw[if_neg e,if_neg e]
   exact⟨v,_,rfl,d,DKv.map dq z⟩
theorem DKv.snoc{k:Key}{q:PV}{u:V}(dq:Dv K H q u):∀{ps:List (Key×PV)} {vs:List (Key×V)},DKv K H ps vs->DKv K H (ps++[(k,q)]) (vs++[(k,u)])
 |[],vs,h=>by obtain rfl:vs=[]:=h;exact⟨u,[],rfl,dq,rfl⟩
 |(x,p)::ps,vs,h=>by
  obtain⟨v,r,rfl,d,z⟩:=h
  exact⟨v,_,rfl,d,DKv.snoc dq z⟩
theorem DKv.put{k:Key}{q:PV}{u:V}(dq:Dv K H q u){ps:List (Key×PV)}{vs:List (Key×V)}(h:DKv K H ps vs):DKv K H (iu ps k q) (kj vs k u):=by
 unfold iu kj
 rw[h.any k]
 split
 ·exact h.map dq
 ·exact h.snoc dq
theorem DKv.length:∀{ps:List (Key×PV)} {vs:List (Key×V)},DKv K H ps vs->vs.length=ps.length
 |[],vs,h=>by obtain rfl:vs=[]:=h;rfl
 |(x,p)::ps,vs,h=>by
  obtain⟨v,r,rfl,d,z⟩:=h
  rw[aU,aU,DKv.length z]
theorem Rep.dK{G:Gp}{a:Addr}{kvs:List (Key×PV)}(r:Rep K H G)(e:G a=some (.dK kvs)):∃vs,H a=some (.dK vs)/\DKv K H kvs vs:=r a _ e
theorem Rep.newD{G:Gp}{p:Addr}{vs:List (Key×V)}{ps:List (Key×PV)}(r:Rep K H G)(h:H p=Option.none)(d:DKv K H ps vs):Rep K (L2.upd H p (.dK vs)) (up G p (.dK ps)):=by
 refine r.upd (cg h) (λa o e ne=>by rw[aH ne]at e;exact e) λo e=> ?_
 rw[aj]at e;cases e
 exact⟨vs,cw,d.keep (cg h)⟩
theorem Rep.putD{G:Gp}{p:Addr}{vs vs0:List (Key×V)}{ps:List (Key×PV)}(r:Rep K H G)(h:H p=jT (.dK vs0))(d:DKv K H ps vs):Rep K (L2.upd H p (.dK vs)) (up G p (.dK ps)):=by
 refine r.upd (lj h) (λa o e ne=>by rw[aH ne]at e;exact e) λo e=> ?_
 rw[aj]at e;cases e
 exact⟨vs,cw,d.keep (lj h)⟩
end
noncomputable abbrev MN:E2:=λ_ G Q=>∀p,G p=none->Q (.ref p) (up G p (.dK []))
noncomputable def EH:yt:=λo i v G Q=>match o with
 | .ref a=>match G a,uH i with
  |some (.dK kvs),some k=>kvs.length<16000000/\Q (up G a (.dK (iu kvs k v)))
  |_,_=>False
 |_=>False
theorem qD{a:Addr}{G:Gp}{q v:PV}{kvs:List (Key×PV)}{k:Key}{Q:Gp->Prop}(h:G a=some (.dK kvs))(hk:uH q=some k)(hl:kvs.length<16000000)(hq:Q (up G a (.dK (iu kvs k v)))):EH (.ref a) q v G Q:=by
 unfold EH
 simp only[h,hk]
 exact⟨hl,hq⟩
section
variable{X:Cx}{pos p:Pos}
theorem JY:JE X (.Dict [] [] pos) MN:= .of Cn λσ H Q ⟨τ,G,Q2,rs,rp,q,cl⟩ p hp=>
 cl _ _ _ _ (q p (rp.none hp)) rfl (rp.newD hp rfl) (cg hp)
theorem yS(hu:X.A.units+200<iG):PSet X (uD X.K EH):=λpins s σ H o i v ov iv z Q I r1 r2 r3 q=>by
 obtain⟨po,pi,pv,G,Q2,d1,d2,d3,rp,q,cl⟩:=q
 unfold EH at q
 split at q
 ·rename_i a
  split at q
  ·rename_i kvs k eg ek
   obtain rfl:o= .ref a:=d1
   obtain rfl:=uG ek d2
   cases r1
   obtain⟨vs,hv,dv⟩:=rp.dK eg
   exact AS (by ac_nf) I (DPut.k hv (by rw[dv.length,jq];ac_nf)) r2 r3 λs' I'=>⟨_,I',cl _ _ q.2 (rp.putD hv (dv.put d3)) (lj hv)⟩
  ·exact q.elim
 ·exact q.elim
end
section
end
noncomputable def i7:B2:=λp q G Q=>match p,q with
 | .tup [],.tup ys=>Q (.tup ys) G
 |p,q=>yp p q G Q
theorem vg{xs ys:List PV}{G:Gp}{Q:K2}(hl:xs.length+ys.length<=16000000)(q:Q (.tup (xs++ys)) G):i7 (.tup xs) (.tup ys) G Q:=by
 cases xs with
 |nil=>exact q
 |cons x xs=>exact⟨by simp,hl,q⟩
theorem GS{x y:Str}{G:Gp}{Q:K2}(hl:x.length+y.length<=16000000)(q:Q (.str (x++y)) G):i7 (.str x) (.str y) G Q:=⟨hl,q⟩
theorem ka{x y:Int}{G:Gp}{Q:K2}(q:Q (.int (x+y)) G):i7 (.int x) (.int y) G Q:=q
section
variable{X:Cx}{a b:Expr}{ta tb:E2}{pos:Pos}
theorem Ja:iJ X (dM .Add) (gf X.K i7):=by
 intro pins s σ H x y v u Q I rx ry h
 obtain⟨p,q,G,Q2,d1,d2,rp,h,cl⟩:=h
 unfold i7 at h
 split at h
 ·rename_i ys
  obtain⟨a,vs,rfl,sa,da⟩:=d1
  obtain⟨b,us,rfl,sb,db⟩:=d2
  obtain rfl:vs=[]:=da
  cases rx
  cases ry
  obtain⟨its,r1,p1,_⟩:=I.tuple sa
  obtain⟨its2,r2,p2,_⟩:=I.tuple sb
  obtain rfl:its=[]:=r1.nil_iff.mpr rfl
  obtain⟨⟨cls,dd,data,sl⟩,ho,hc,n,hd⟩:=id p1
  obtain⟨⟨cls2,dd2,data2,Em⟩,ho2,hc2,n2,hd2⟩:=id p2
  simp only at hc hd hc2 hd2
  subst hc hd hc2 hd2
  exact PySem.concat_meets ⟨_,ho,rfl⟩ ⟨_,ho2,rfl⟩ PySem.noFill_tuple_add PySem.seq_tuple_add PySem.F.slot_tuple_add PySem.F.entry_tuple_add (PySem.F.args_tuple_add_2 _ _)
   (PyProof.Rows.tuple_addW0 a b _ _ n n2 dd dd2 sl Em rfl) ⟨ho,ho2,.ref b,H,I,rfl,cl _ _ _ _ h ⟨b,us,rfl,sb,db⟩ rp .refl⟩
 ·exact Hl pins s σ H x y v u Q I rx ry ⟨p,q,G,Q2,d1,d2,rp,h,cl⟩
theorem Gh(ha:JE X a ta)(hb:JE X b tb):JE X (.BinOp a .Add b pos) (iP i7 ta tb):=xZ Ja ha hb
end
end L3
namespace PySem
open PyProof.Rows (StrsAre)
theorem pf:∀{vs:List ae} {zs:List Str},vs.length=zs.length->(∀(j:Nat) (v:ae) (z:Str),vs[j]? =some v->zs[j]? =some z->∃t,v= .str z t)->StrsAre vs zs
 |[],[],_,_=> .nil
 |v::vs,z::zs,hl,h=>by
  obtain⟨t,rfl⟩:=h 0 v z rfl rfl
  exact .cons z t (pf (by simpa using hl) λj v z hv hz=>h (j+1) v z (by simpa using hv) (by simpa using hz))
 |[],_::_,h,_=>by simp at h
 |_::_,[],h,_=>by simp at h
section
variable{prog:aJ}{w:aV}{A:Around}{E:ae->ai->Prop}{s:ai}{d:Addr}
theorem uZ{Q:List ae->ai->Prop}{kvs:List (L2.Key×ae)}{ep:Nat}{zs:List Str}(hh:A.handled=none)(hd:(d==eR)=false)(hm:s.heap.DictAt (L2.mixKind prog w) d kvs ep)(hz:kvs.map (·.1)=zs.map dE)(hn:kvs.length<=aO)
  (hQ:∀(s':ai) (acc:Array ae),(∀b o,s.heap.get? b=some o->s'.heap.get? b=some o)->s'.gens=s.gens->s'.os=s.os->StrsAre acc.toList zs->Q acc.toList s'):
  wpAny (aQ prog w) A (collect (.ref d)) Q E s:=by
 have hTy:s.TypeIs (.ref d) "dict" :=hm.dictOf.typeIs
 have hlt:d<s.heap.objs.size:=by obtain⟨o,es,ho,_⟩:=hm;exact aB ho
 unfold collect
 refine aa (wpAny_runValue (codeAny_builtin F.entry_proto_collect ?_))
 rw[Around.under_plainId F.plain_proto_collect _]
 show wpAny _ A.in1 (newList []>>=λl=>again (.builtin "list.__iadd__" ⟨[l,.ref d],[]⟩)) _ _ s
 refine aa (bH ?_)
 refine aq ⟨plainId_quiet F.plain_list_iadd _,codeAny_builtin F.entry_list_iadd ?_⟩
 rw[Around.under_plainId F.plain_list_iadd _]
 have hne:s.heap.objs.size≠d:=iC hlt
 have h1:fW (.ref s.heap.objs.size) (.ref d)=false:=by simp[fW,hne]
 show wpAny _ A.in1 (cP (.ref s.heap.objs.size) (.ref d) (.ref s.heap.objs.size)) _ _ _
 unfold cP
 have hm1:(s.heap.push {cls:= .type "list",data:= .seq ([]:List ae).toArray}).DictAt (L2.mixKind prog w) d kvs ep:=hm.at' λo e=>af _ e
 have hL1:(s.heap.push {cls:= .type "list",data:= .seq ([]:List ae).toArray}).get? s.heap.objs.size=some {cls:= .type "list",data:= .seq ([]:List ae).toArray}:=aK _ rfl
 have kp1:∀b o,s.heap.get? b=some o->(s.heap.push {cls:= .type "list",data:= .seq ([]:List ae).toArray}).get? b=some o:=λb o q=>af _ q
 have sz1:=cS s.heap {cls:= .type "list",data:= .seq ([]:List ae).toArray}
 generalize s.heap.push {cls:= .type "list",data:= .seq ([]:List ae).toArray}=g1 at hm1 hL1 kp1 sz1⊢
 have hT1:ai.TypeIs {s with heap:=g1} (.ref d) "dict" :=hm1.dictOf.typeIs
 refine aa (gP hT1 ?_)
 rw[if_neg (by rw[h1];decide)]
 refine aa (ud (s:={s with heap:=g1}) hd hm1 ?_)
 have hm2:(g1.push {cls:= .type "dict_keyiterator",data:= .fields #[.ref d,.int 0 0,.int kvs.length 0,.int ep 0]}).DictAt (L2.mixKind prog w) d kvs ep:=hm1.at' λo e=>af _ e
 have hI:(g1.push {cls:= .type "dict_keyiterator",data:= .fields #[.ref d,.int 0 0,.int kvs.length 0,.int ep 0]}).IsKeyIter g1.objs.size d 0 kvs.length ep:=⟨_,aK _ rfl,rfl,rfl⟩
 have kp2:∀b o,g1.get? b=some o->(g1.push {cls:= .type "dict_keyiterator",data:= .fields #[.ref d,.int 0 0,.int kvs.length 0,.int ep 0]}).get? b=some o:=λb o q=>af _ q
 generalize g1.push {cls:= .type "dict_keyiterator",data:= .fields #[.ref d,.int 0 0,.int kvs.length 0,.int ep 0]}=g2 at hm2 hI kp2⊢
 refine aa (cJ ?_)
 unfold pd
 have hT2:ai.TypeIs {s with heap:=g2} (.ref d) "dict" :=hm2.dictOf.typeIs
 refine aa (wpAny_specialOf hT2 F.slot_dict_len.lookup ?_)
 wp_delta
 refine aa (lY (T:= "dict") (v:= .ref d) (b:=true) hT2 (by rw[isSubtype_type];kernel_rfl) ?_)
 show wpAny _ A.in1 (typeOf (aE d)>>=_) _ _ _
 refine aa (gP hT2 ?_)
 refine aq ?_
 have nI:d≠g1.objs.size:=aN (by rw[sz1];exact dj hlt)
 have nL:s.heap.objs.size≠g1.objs.size:=by rw[sz1];exact aN (fF _)
 have hSf:s.heap.objs.size∉[g1.objs.size,d]:=by
  simp only[aI,bC,or_false,not_or]
  exact⟨nL,hne⟩
 show wpAny _ A.in1 (rule "list.extend.makes-room" >>=λ_=>cu.List.listTouch (.ref s.heap.objs.size)>>=λ_=>
  again (.builtin "list.extend.loop" ⟨[.ref s.heap.objs.size,.ref g1.objs.size,.ref s.heap.objs.size],[]⟩)) _ _ _
 refine aa (iq ?_)
 refine aa ?_
 show wpAny _ A.in1 (updateSeq s.heap.objs.size (·.push .none)>>=λ_=>updateSeq s.heap.objs.size (·.pop)) _ _ _
 have hL2:=kp2 _ _ hL1
 refine aa (ii (s:={s with heap:=g2}) hL2 rfl ?_)
 have hL3:=dG (c9 (·.push br)) hL2 rfl
 refine ii (hz:=by seq_fits) hL3 rfl ?_
 have hL4:=dG (c9 (·.pop)) hL3 rfl
 have oth:∀b o,b≠s.heap.objs.size->g2.get? b=some o->((g2.update s.heap.objs.size (c9 (·.push br))).update s.heap.objs.size (c9 (·.pop))).get? b=some o:=
  λb o hb e=>(bK _ _ (aG hb)).trans ((bK _ _ (aG hb)).trans e)
 have hh1:A.in1.handled=none:=by simp[hh]
 have W:=(Walks.dictKeys (prog:=prog) (w:=w) (knd:=L2.mixKind prog w) hh1 g1.objs.size d nI kvs ep).toS
 refine aq ⟨plainId_quiet F.plain_extend_loop _,codeAny_extend_loopS W hn _ hSf _ kvs.length 0 _ _ _ rfl (bt _)
  (W.frame 0 {s with heap:=g2} _ s.toks ⟨hI,hm2⟩ (ao _) λb hb o e=>oth b o (λh=>hSf (h▸hb)) e) hL4 (ItemsOf.nil _) λs' acc' c' hmv hS'' hacc=> ?_⟩
 show wpAny _ A (load s.heap.objs.size>>=_) _ _ s'
 refine aa (wpAny_load hS'' ?_)
 have hzl:zs.length=kvs.length:=by
  have:=congrArg iV hz
  simpa using this.symm
 refine aq (hQ s' acc' (λb o e=> ?_) hmv.gens hmv.os (pf (by rw[bu,hacc.1,hzl]) λj v z hv hzz=> ?_))
 ·have hbl:b<s.heap.objs.size:=aB e
  refine hmv.heap b o ?_ (oth b o (aN hbl) (kp2 b o (kp1 b o e)))
  simp only[aI,bC,or_false,not_or]
  exact⟨aN hbl,aN (by rw[sz1];exact dj hbl)⟩
 ·obtain⟨k,x,hkx,hkv⟩:=hacc.2 j v (by rw[<-lI];exact hv)
  have e1:(kvs.map (·.1))[j]? =some k:=by rw[aC,hkx];rfl
  rw[hz,aC,hzz]at e1
  obtain rfl:dE z=k:=by simpa using e1
  have hkv':nY z v=true:=hkv
  cases v with
  |str y t=>
   have:y=z:=beq_iff_eq.mp hkv'
   subst this
   exact⟨t,rfl⟩
  |_=>simp[nY]at hkv'
end
end PySem
namespace L3
open PySem L2
theorem FK{a b:Nat}:PySem.Spec.ltCps [a] [b]=decide (a<b):=by
 rw[PyProof.Rows.ltCps_eq]
 by_cases h:a<b
 ·rw[decide_eq_true h]
  exact decide_eq_true (List.Lex.rel h)
 ·rw[decide_eq_false h]
  refine decide_eq_false λhl=> ?_
  cases hl with
  |rel h'=>exact h h'
  |cons h'=>cases h'
theorem vU:∀{cs:List Nat} {a:Nat},PyProof.Rows.risingS (eM a) (cs.map eM)=true->(a::cs).Nodup->(a::cs).Pairwise (· <·)
 |[],a,_,_=>by simp
 |b::cs,a,h,hn=>by
  have h':(!PySem.Spec.ltCps [b] [a]&&PyProof.Rows.risingS (eM b) (cs.map eM))=true:=h
  rw[bp,FK]at h'
  have hab:a<b:=by
   have h1:¬b<a:=by simpa using h'.1
   have h2:a≠b:=by
    have:=(aZ.mp hn).1
    intro e;subst e;simp at this
   ac_nf
  have ih:=vU h'.2 (aZ.mp hn).2
  refine List.pairwise_cons.mpr ⟨λc hc=> ?_,ih⟩
  rcases aI.mp hc with rfl|hc
  ·exact hab
  ·have:=(List.pairwise_cons.mp ih).1 c hc
   ac_nf
theorem xy{cs:List Nat}(h:PyProof.Rows.sortedS (cs.map eM)=true)(hn:cs.Nodup):cs.Pairwise (· <·):=by
 cases cs with
 |nil=>simp
 |cons a l=>exact vU h hn
theorem Fp{ss:List Str}(h:∀z∈ss,∃c,z=eM c):∃cs:List Nat,ss=cs.map eM:=by
 induction ss with
 |nil=>exact⟨[],rfl⟩
 |cons z ss ih=>
  obtain⟨c,rfl⟩:=h z (by simp)
  obtain⟨cs,rfl⟩:=ih λy hy=>h y (by simp[hy])
  exact⟨c::cs,rfl⟩
theorem vY{a b:Nat}(h:eM a=eM b):a=b:=by
 have:=congrArg (λz:Str=>z.cps.getD 0 0) h
 exact this
theorem xM{cs:List Nat}(h:(cs.map eM).Nodup):cs.Nodup:=by
 induction cs with
 |nil=>exact .nil
 |cons a l ih=>
  rw[aw,aZ]at h
  exact aZ.mpr ⟨λha=>h.1 (aD.mpr ⟨a,ha,rfl⟩),ih h.2⟩
theorem lK{α:Type}[DecidableEq α]:∀{a b:List α},a.Nodup->(∀x∈a,x∈b)->a.length<=b.length
 |[],_,_,_=>bt _
 |x::a,b,hn,h=>by
  obtain⟨h1,h2⟩:=aZ.mp hn
  have hx:=h x (by simp)
  have ih:=lK (a:=a) (b:=b.erase x) h2 λy hy=>by
   have hne:y≠x:=λe=>by subst e;exact h1 hy
   exact(List.mem_erase_of_ne hne).mpr (h y (by simp[hy]))
  rw[List.length_erase_of_mem hx]at ih
  have:0<b.length:=List.length_pos_of_mem hx
  rw[aU]
  ac_nf
theorem nh{α β:Type}{f:α->β}:∀{l:List α},(l.map f).Nodup->l.Nodup
 |[],_=> .nil
 |a::l,h=>by
  rw[aw,aZ]at h
  exact aZ.mpr ⟨λha=>h.1 (aD.mpr ⟨a,ha,rfl⟩),nh h.2⟩
theorem FS{kvs:List (Key×V)}{vs:List (Key×ae)}(h:KV kvs vs):vs.map (·.1)=kvs.map (·.1):=by
 induction h with
 |nil=>rfl
 |cons h _ ih=>rw[aw,aw,ih,h.1]
theorem wB{K:PySem.W.Frag}{H:Hp}:∀{ps:List (Key×PV)} {vs:List (Key×V)},DKv K H ps vs->vs.map (·.1)=ps.map (·.1)
 |[],vs,h=>by obtain rfl:vs=[]:=h;rfl
 |(x,p)::ps,vs,h=>by
  obtain⟨v,r,rfl,d,z⟩:=h
  rw[aw,aw,wB z]
noncomputable def ir:C2:=λps G Q=>match ps with
 |[.ref a]=>match G a with
  |some (.dK kvs)=>kvs.length<64/\(∀kv∈kvs,∃c,kv.1=dE (eM c))/\∀(cs:List Nat) c,cs.Pairwise (· <·)->(∀x,x∈cs↔dE (eM x)∈kvs.map (·.1))->G c=none->Q (.ref c) (up G c (.lst (cs.map λc=> .str (eM c))))
  |_=>False
 |_=>False
section
variable{X:Cx}{e:Expr}
theorem xz{pins:List (Addr×Obj)}{σ:L2.St}{H:Hp}{s s':ai}{l:Addr}{out:Array ae}{cs:List Nat}{ev:Nat}{G:Gp}{Q:VK}{Q2:K2}{H0:Hp}(I:L2.Inv X pins σ H s)(hk:∀b o,s.heap.get? b=some o->s'.heap.get? b=some o)(hg:s'.gens=s.gens)(ho:s'.os=s.os)
  (hn:s.heap.get? l=none) (he:s'.heap.get? l=some (PyProof.Rows.seqObj "list" out ev)) (hs:PyProof.Rows.StrsAre out.toList (cs.map eM)) (hl:cs.length<64) (rp:Rep X.K H G) (cl:Cl X.K H0 Q2 Q) (k0:Keep X.K H0 H)
  (h:G l=none->Q2 (.ref l) (up G l (.lst (cs.map λc=> .str (eM c))))):EP X pins σ Q (.ref l) s':=by
 have hHl:H l=none:=I.hok.none_of hn
 obtain⟨hp',g',d',t',o'⟩:=s'
 obtain rfl:g'=s.gens:=hg
 obtain rfl:o'=s.os:=ho
 have e1:(cs.map eM).map V.str=cs.map λc=>V.str (eM c):=by rw[bx];rfl
 have e2:(cs.map eM).map PV.str=cs.map λc=>PV.str (eM c):=by rw[bx];rfl
 refine⟨.ref l,upd H l (.lst ((cs.map eM).map V.str)),I.call (ch:=[]) (Un.laidN hk hn hHl) (I.hok.laidN hk hHl ?_) I.bare (λb z=>absurd z (by simp)),rfl,cl _ _ _ _ (h (rp.none hHl)) rfl ?_ (k0.trans (cg hHl))⟩
 ·exact⟨by rw[ak,ak];exact big (by ac_nf),out.toList,ev,zT hs,by simpa using he⟩
 ·rw[<-e2]
  exact rp.new hHl (BD _)
theorem vd(hc:X.calm=true):iF X (.builtin "sorted") (qT X.K ir):=by
 intro pins s σ H xs us Q I rs h
 obtain⟨ps,G,Q2,d,rp,h,cl⟩:=h
 unfold ir at h
 split at h
 ·rename_i a
  split at h
  ·rename_i kvs eg
   obtain⟨h64,hall,h⟩:=h
   obtain⟨v,rfl,dv⟩:=fR d
   obtain rfl:v= .ref a:=dv
   obtain⟨u,rfl,ru⟩:=rs.one
   cases ru
   obtain⟨vs,hv,dvs⟩:=rp.dK eg
   obtain⟨hz,hsys,ws,kv,dd⟩:=(show ObjOk X.prog X.w H s.heap a (.dK vs)from I.hok a _ hv)
   obtain⟨o,es,ep,ho,hex,hdat,hkeys,hpairs,hnd⟩:=id dd
   have hkeys1:ws.map (·.1)=kvs.map (·.1):=by
    rw[FS kv]
    exact wB dvs
   obtain⟨cs0,e0⟩:∃cs0:List Nat,kvs.map (·.1)=(cs0.map eM).map dE:=by
    clear h eg dvs hkeys1
    induction kvs with
    |nil=>exact⟨[],rfl⟩
    |cons p l ih=>
     obtain⟨c,hc'⟩:=hall p (by simp)
     obtain⟨cs,hcs⟩:=ih (by simp at h64;ac_nf) λq hq=>hall q (by simp[hq])
     exact⟨c::cs,by rw[aw,hc',hcs];rfl⟩
   have hlk:cs0.length=kvs.length:=by
    have:=congrArg iV e0
    simpa using this.symm
   have hlw:ws.length=kvs.length:=by
    have:=congrArg iV hkeys1
    simpa using this
   have hnd0:(cs0.map eM).Nodup:=by
    rw[hkeys1,e0]at hnd
    exact nh hnd
   have hda:s.heap.DictAt (mixKind X.prog X.w) a ws ep:=⟨o,es,ho,hex,hdat,hkeys,hpairs,hnd⟩
   refine z9 (ks:=cs0.map eM) (.ref a) (λR hR=>uZ (zs:=cs0.map eM) (by simp[I.ok.hd hc]) hsys hda (by rw[hkeys1,e0]) (by rw[hlw];exact big (by ac_nf)) λs' acc k g o hst=>hR s' acc _ k g o hst (.refl _)) (by rw[ak];ac_nf) λs' l out ss ev hk hg' ho' hn' he' hst hp hsrt=> ?_
   obtain⟨cs,rfl⟩:=Fp (ss:=ss) λy hy=>by
    obtain⟨c,_,e⟩:=aD.mp (hp.mem_iff.mp hy)
    exact⟨c,e.symm⟩
   have hlen2:cs.length<64:=by
    have:=hp.length_eq
    rw[ak,ak]at this
    ac_nf
   refine xz I hk hg' ho' hn' he' hst hlen2 rp cl .refl λhGl=>h cs l (xy hsrt (xM (hp.nodup_iff.mpr hnd0))) (λx=> ?_) hGl
   rw[e0]
   constructor
   ·intro hx
    exact aD.mpr ⟨eM x,hp.mem_iff.mp (aD.mpr ⟨x,hx,rfl⟩),rfl⟩
   ·intro hx
    obtain⟨y,hy,ey⟩:=aD.mp hx
    have:y=eM x:=by simpa using ey
    subst this
    obtain⟨c,hc',ec⟩:=aD.mp (hp.mem_iff.mpr hy)
    rw[<-vY ec]
    exact hc'
  ·exact h.elim
 ·exact h.elim
theorem r9{es:List Expr}{t:A2}{p pos:Pos}(B:BN X.mg)(hc:X.calm=true)(ha:JA X (e::es) t)(hg:Gl X "sorted" :=by rfl)(he:au (e::es) X.env=(false,eval e X.env)::au es X.env:=by rfl)(hpl:(bT pos (au es X.env)).any (·.1)=false:=by rfl):JE X (.Call (.Name "sorted" p) (e::es) [] pos) (uU ir t):=ll (vd hc) B.sorted wI ha hg (by decide) (by decide) he hpl
end
end L3
namespace L2
open PySem PySem.Spec PyProof.Rows
theorem zC(h:Heap):∀S:List Addr,∃b:Heap,(∀a∈S,b.get? a=none)/\∀a,a∉S->b.get? a=h.get? a
 |[]=>⟨h,by simp,λ_ _=>rfl⟩
 |x::S=>by
  obtain⟨b,h1,h2⟩:=zC h S
  refine⟨b.update x λo=>{o with data:= .freed},λa ha=> ?_,λa ha=> ?_⟩
  ·by_cases e:x=a
   ·subst e
    cases hq:(b.update x λo=>{o with data:= .freed}).get? x with
    |none=>rfl
    |some o=>
     obtain⟨e1,e2⟩:=Heap.get?_some_iff.mp hq
     obtain⟨objs,l⟩:=b
     have e3:(objs.modify x λo=>{o with data:= .freed})[x]? =some o:=e1
     rw[Array.getElem?_modify,if_pos rfl]at e3
     cases hx:objs[x]? with
     |none=>rw[hx]at e3;cases e3
     |some u=>
      rw[hx]at e3
      cases e3
      cases e2
   ·rw[bK _ _ e]
    exact h1 a ((aI.mp ha).resolve_left (aG e))
  ·rw[bK _ _ λe=>ha (by simp[e])]
   exact h2 a λhm=>ha (by simp[hm])
theorem lr{h base b:Heap}:∀{l:List Env},h.FunFrames base l->(∀a∈lq l,b.get? a=none)->h.FunFrames b l
 |[],_,_=>trivial
 |env::l,⟨hk,⟨L,o,hf,hn,ho,hd⟩,hr⟩,q=>by
  have e:lq (env::l)=L::lq l:=by unfold lq;rw[gM,hf]
  rw[e]at q
  exact⟨hk,⟨L,o,hf,q L (by simp),ho,hd⟩,lr hr λa ha=>q a (by simp[ha])⟩
noncomputable def Nd(h:Heap)(e T:Addr)(cls:ae):Prop:=∃oe vs oT ts,h.get? e=some oe/\oe.cls=cls/\oe.data= .fields vs/\vs[1]? =some (.ref T)/\T≠e/\h.get? T=some oT/\oT.data= .fields ts/\ts[3]? =some .none
noncomputable def wM(l:List Env)(e:Addr)(S:List Addr)(cls:ae)(h h':Heap):Prop:=
 (∃T,Nd h' e T cls/\(T∈S\/h.get? T=none))/\(∀b o,b∉lq l->b≠e->b∉S->h.get? b=some o->h'.get? b=some o)/\∀b o,b∈lq l->h.get? b=some o->∃sl,h'.get? b=some {o with slots:=sl}
section
variable{M:Model}{A:Around}{E:ae->ai->Prop}{s:ai}
theorem qW{B base:Heap}{l:List Env}{e:Addr}{S:List Addr}{cls:ae}{h h':Heap}(b2:∀a,a∉e::(S++lq l)->B.get? a=h.get? a)(hl:h.FunFrames base l)(x:Heap.Left B l e cls h h'):wM l e S cls h h':=by
 obtain⟨x1,x2,⟨oe,vs,T,oT,ts,h1,h2,h3,h4,h5,h6,h7,h8,h9⟩,x4⟩:=x
 refine⟨⟨T,⟨oe,vs,oT,ts,h1,h2,h3,h4,h6,h7,h8,h9⟩,?_⟩,λb o n1 n2 n3 q=>x1 b o ?_,λb o hb q=> ?_⟩
 ·by_cases hS:T∈S
  ·exact .inl hS
  ·refine .inr ?_
   rw[<-b2 T ?_]
   ·exact h5
   ·intro hm
    rcases aI.mp hm with e1|hm
    ·exact h6 e1
    ·rcases bo.mp hm with hm|hm
     ·exact hS hm
     ·obtain⟨_,o,ho,hnf⟩:=x2.mem hm
      rw[h7]at ho
      cases ho
      exact hnf ts h8
 ·rw[b2 b (by simp[n1,n2,n3])];exact q
 ·obtain⟨_,o',ho',hnf⟩:=hl.mem hb
  rw[q]at ho'
  cases ho'
  exact x4 b o q hnf
theorem xX{base:Heap}{env:Env}{outer:List Env}{e T:Addr}{cls:ae}{Q:Unit->ai->Prop}
  (hfr:A.frames=some (env::outer)) (hl:s.heap.FunFrames base (env::outer)) (ht:Nd s.heap e T cls)
  (h:∀h',wM (env::outer) e [T] cls s.heap h'->Q () {s with heap:=h'}):wpAny M A (leaving env (.ref e)) Q E s:=by
 obtain⟨B,b1,b2⟩:=zC s.heap (e::([T]++lq (env::outer)))
 obtain⟨oe,vs,oT,ts,h1,h2,h3,h4,h6,h7,h8,h9⟩:=ht
 obtain⟨L,_,hf,_⟩:=hl.2.1
 refine wpAny_leaving_next (base:=B) hfr (lr hl λa ha=>b1 a (by simp[ha])) hf ⟨oe,vs,T,oT,ts,h1,h2,h3,h4,b1 T (by simp),h6,h7,h8,h9⟩ (λb o q=> ?_) (b1 e (by simp)) λh' x=>h h' (qW b2 hl x)
 by_cases hm:b∈e::([T]++lq (env::outer))
 ·rw[b1 b hm]at q;cases q
 ·rw[<-b2 b hm];exact q
theorem we{base:Heap}{env:Env}{outer:List Env}{e:Addr}{oe:Obj}{vs:Array ae}{Q:Unit->ai->Prop}
  (hfr:A.frames=some (env::outer)) (hl:s.heap.FunFrames base (env::outer)) (he:s.heap.get? e=some oe) (hd:oe.data= .fields vs) (h1:vs[1]? =some .none)
  (h:∀h',wM (env::outer) e [] oe.cls s.heap h'->Q () {s with heap:=h'}):wpAny M A (leaving env (.ref e)) Q E s:=by
 obtain⟨B,b1,b2⟩:=zC s.heap (e::([]++lq (env::outer)))
 obtain⟨L,_,hf,_⟩:=hl.2.1
 refine wpAny_leaving_first (base:=B) hfr (lr hl λa ha=>b1 a (by simp[ha])) hf he (λb o q=> ?_) (b1 e (by simp)) hd h1 λh' x=>h h' (qW b2 hl x)
 by_cases hm:b∈e::([]++lq (env::outer))
 ·rw[b1 b hm]at q;cases q
 ·rw[<-b2 b hm];exact q
end
noncomputable def n9(P:aJ)(w:aV)(C:Addr):A7:=λouter H s E e s'=>∃x T H',e= .ref x/\Nd s'.heap x T (.ref C)/\s.heap.get? x=none/\s.heap.get? T=none/\H' x=none/\H' T=none/\s'.os=s.os/\ly s'.gens/\
 Un (lq outer) [] H H' s.heap s'.heap/\HOk P w H' s'.heap/\E (.ref C) none H'
section
variable{X:Cx}{pins:List (Addr×Obj)}{σ:St}{H1:Hp}{s1:ai}{x:Addr}{S:List Addr}{C:Addr}{h':Heap}{E:XK}
theorem wc(J:Inv X pins σ H1 s1)(hex:X.ex=[])(hloc:X.s₀.heap.get? X.env.locals=none)(hx:H1 x=none)(hx0:X.s₀.heap.get? x=none)(hS:∀t∈S,H1 t=none/\X.s₀.heap.get? t=none)
  (hL:wM X.stack x S (.ref C) s1.heap h') (hE:E (.ref C) none H1):n9 X.prog X.w C X.outer X.H₀ X.s₀ E (.ref x) {s1 with heap:=h'}:=by
 obtain⟨⟨T,tr,hT⟩,k1,k2⟩:=hL
 have nst:∀b o,X.s₀.heap.get? b=some o->b∉X.fs->b∉lq X.stack:=λb o q n hm=>by
  rcases aI.mp (J.stkSub b hm)with e|hm
  ·rw[e,hloc]at q;cases q
  ·exact n hm
 have nx:∀b o,X.s₀.heap.get? b=some o->b≠x:=λb o q e=>by rw[e,hx0]at q;cases q
 have nS:∀b o,X.s₀.heap.get? b=some o->b∉S:=λb o q hm=>by rw[(hS b hm).2]at q;cases q
 have go:∀b o o1,X.s₀.heap.get? b=some o->s1.heap.get? b=some o1->∃sl,h'.get? b=some {o1 with slots:=sl}:=λb o o1 q q1=>by
  by_cases hm:b∈lq X.stack
  ·exact k2 b o1 hm q1
  ·exact⟨o1.slots,k1 b o1 hm (nx b o q) (nS b o q) q1⟩
 have hTn:H1 T=none/\X.s₀.heap.get? T=none:=by
  rcases hT with hT|hT
  ·exact hS T hT
  ·refine⟨J.hok.none_of hT,?_⟩
   cases q:X.s₀.heap.get? T with
   |none=>rfl
   |some o=>
    obtain⟨o',q'⟩:=J.base.there T o q (by rw[hex];simp)
    rw[hT]at q';cases q'
 refine⟨x,T,H1,rfl,tr,hx0,hTn.2,hx,hTn.1,J.os,J.bare,⟨λb o q n nf _=> ?_,λb o q n hb _=> ?_,λb o q n _=>J.base.free b o q n (by rw[hex];simp),λb o q _=> ?_,J.base.tups,J.base.frzs,J.base.tbls⟩,λa o e=> ?_,hE⟩
 ·exact k1 b o (nst b o q nf) (nx b o q) (nS b o q) (J.base.keep b o q n nf (by rw[hex];simp))
 ·obtain⟨sl,q1⟩:=J.base.slot b o q n hb (by rw[hex];simp)
  obtain⟨sl',q2⟩:=go b o _ q q1
  exact⟨sl',q2⟩
 ·obtain⟨o',q1⟩:=J.base.there b o q (by rw[hex];simp)
  obtain⟨sl',q2⟩:=go b o _ q q1
  exact⟨_,q2⟩
 ·have nn:∀b,(b=a\/H1 b=some (.own a))->H1 b≠none:=λb hb z=>by
   rcases hb with rfl|hb
   ·rw[e]at z;cases z
   ·rw[hb]at z;cases z
  exact(J.hok a o e).stay (λb u hb q=>k1 b u (λhm=>nn b hb (J.stkFree b hm)) (λz=>nn b hb (by rw[z];exact hx)) (λhm=>nn b hb (hS b hm).1) q) (λ_ q=>q) λ_ _ q=>q
end
section
variable{P:aJ}{w:aV}{K:PySem.W.Frag}{mg:Str->Option ae}{base:Heap}{N:List Str}{qual:Str}{scope:er}{f:Addr}{cdv:ae}{A:Around}{outer:List Env}{s:ai}{H:Hp}{E:XK}{C:Addr}
theorem sN(h:Heap):h.get? h.objs.size=none:=by
 cases q:h.get? h.objs.size with
 |none=>rfl
 |some o=>exact absurd (aB q) (c7 _)
theorem Fl:jA (n9 P w C) (gZ (n9 P w C) P w K mg base N qual scope f cdv A outer s H E) E:=by
 rintro pins σ H1 s1 e s' I ⟨x,T,H',rfl,tr,nx,nT,hx,hT,os,bare,un,hok,hE⟩
 have J:=I.call' (ch:=[]) os un hok bare (λb z=>absurd z (by simp))
 have hn:∀a,s1.heap.get? a=none->s.heap.get? a=none:=λa q=>by
  cases q0:s.heap.get? a with
  |none=>rfl
  |some o=>
   obtain⟨o',q'⟩:=I.base.there a o q0 (by show a∉[];simp)
   rw[q]at q';cases q'
 refine xX (base:=base) J.ok.frames J.stack tr λh' hL=> ?_
 exact wc (X:=gZ (n9 P w C) P w K mg base N qual scope f cdv A outer s H E) J rfl (sN _) hx (hn x nx) (λt ht=>by cases aA.mp ht;exact⟨hT,hn _ nT⟩) hL hE
theorem EM{pins:List (Addr×Obj)}{σ:St}{H1:Hp}{s1:ai}{h':Heap}{x:Addr}{us:List ae}(I:Inv (gZ (n9 P w C) P w K mg base N qual scope f cdv A outer s H E) pins σ H1 s1)(m:Heap.MadeExcOf s1.heap h' x (.ref C) us)(hE:E (.ref C) none H1):
  (gZ (n9 P w C) P w K mg base N qual scope f cdv A outer s H E).xe (.ref x) {s1 with heap:=h'}:=by
 have J:=I.kept (t':=s1.toks) m.keeps
 have hn:s.heap.get? x=none:=by
  cases q0:s.heap.get? x with
  |none=>rfl
  |some o=>
   obtain⟨o',q'⟩:=I.base.there x o q0 (by show x∉[];simp)
   rw[m.new]at q';cases q'
 obtain⟨t,he,_,_⟩:=m.there
 refine we (base:=base) J.ok.frames J.stack he rfl rfl λh'' hL=> ?_
 exact wc (X:=gZ (n9 P w C) P w K mg base N qual scope f cdv A outer s H E) J rfl (sN _) (I.hok.none_of m.new) hn (λt ht=>by cases ht) hL hE
theorem xl{h h':Heap}{bmB tl:List ae}(T:OwnTail h bmB tl)(k:∀b o,h.get? b=some o->h'.get? b=some o):OwnTail h' bmB tl:=by
 induction T with
 |base=>exact .base
 |own e n i _ ih=>exact .own (k _ _ e) (n.keeps k) i ih
noncomputable def HK(C:Addr)(t:TA)(E:XK):TS:=λ_ σ H=>t σ H λvs H1=>vs.length<=aO/\E (.ref C) none H1
theorem Ce{xn:Str}{np cpos pos:Pos}{e:Expr}{es:List Expr}{t:TA}(q:PySem.W.excIn K C A6 "ValueError.__new__" =true)
  (hg:Gl (gZ (n9 P w C) P w K mg base N qual scope f cdv A outer s H E) xn) (hm:mg xn=some (.ref C))
  (ha:PA (gZ (n9 P w C) P w K mg base N qual scope f cdv A outer s H E) (e::es) t) (hdb:(xn==("__debug__" :Str))=false:=by decide)
  (he:au (e::es) (gZ (n9 P w C) P w K mg base N qual scope f cdv A outer s H E).env=(false,eval e (gZ (n9 P w C) P w K mg base N qual scope f cdv A outer s H E).env)::au es (gZ (n9 P w C) P w K mg base N qual scope f cdv A outer s H E).env:=by rfl)
  (hpl:(bT cpos (au (e::es) (gZ (n9 P w C) P w K mg base N qual scope f cdv A outer s H E).env)).any (·.1)=false:=by rfl):
  PS (gZ (n9 P w C) P w K mg base N qual scope f cdv A outer s H E) (.Raise (some (.Call (.Name xn np) (e::es) [] cpos)) none pos) (HK C t E):=by
 intro pins s1 σ H1 D I h
 obtain⟨bm,ns,nm,qn,bs,hd,sn,sub,ab,col,dd,k0,k1,k2,k3,k5,mN,e1,e2,e3,e4⟩:=oY I.ok.mod.kin q
 refine wpAny_Raise_call_subT F.excBase_ValueError (C:=C) (bm:=bm) (nm:=nm) (q:=qn) (N:=ns) (bs:=bs) (hdct:=hd) (sn:=sn) (sub:=sub) (ab:=ab) (col:=col) (dd:=dd) (k0:=k0) (k1:=k1) (k2:=k2) (k3:=k3) (k5:=k5) (e4.hasType (by decide)) (I.ok.hd rfl) hpl e3 ?_
 refine nr I hg hm ⟨rfl,?_⟩ hdb
 have hz:=ha cpos pins s1 σ H1 _ I h
 rw[he]at hz⊢
 refine PySem.Calls.evalArgs_plain (bj hz (λus s2 h2=> ?_) λ_ _ z=>z)
 obtain⟨vs,H2,I2,r2,hl,hE⟩:=h2
 exact⟨rfl,by rw[<-r2.length];exact hl,I2.bk _ _ e1,e2.keeps I2.bk,xl e4 I2.bk,λh' x hmade=>EM I2 hmade hE⟩
end
section
variable{M:Model}{A:Around}{E:ae->ai->Prop}{s:ai}
theorem FD{base:Heap}{env:Env}{outer:List Env}{e T:Addr}{cls:ae}{Q:Unit->ai->Prop}
  (hfr:A.frames=some (env::outer)) (hl:s.heap.FunFrames base (env::outer)) (ht:Nd s.heap e T cls)
  (h:∀h',wM (env::outer) e [T] cls s.heap h'->Q () {s with heap:=h'}):wpAny M A (noteFrame (.ref e) env) (λ_ s₂=>wpAny M A (setFlight (.ref e) none) Q E s₂) E s:=by
 obtain⟨B,b1,b2⟩:=zC s.heap (e::([T]++lq (env::outer)))
 obtain⟨oe,vs,oT,ts,he,hcls,hd,h1,hTe,hT,hdT,h3⟩:=ht
 subst hcls
 obtain⟨L,_,hf,_⟩:=hl.2.1
 have hl':=lr (b:=B) hl λa ha=>b1 a (by simp[ha])
 have hkb:B.StaysIn s.heap:=λb o q=>by
  by_cases hm:b∈e::([T]++lq (env::outer))
  ·rw[b1 b hm]at q;cases q
  ·rw[<-b2 b hm];exact q
 have hnT:B.get? T=none:=b1 T (by simp)
 unfold noteFrame
 simp only[hf]
 refine aa (bG he hd h1 ?_)
 rw[if_pos (show(aE T !=br)=true from by simp)]
 refine aa (bG hT hdT h3 ?_)
 rw[if_neg (show¬((br==rawInt L)=true)from by simp[rawInt])]
 refine aa (pH hT hdT (jE.mp h3).1 ?_)
 have other:∀b,b≠T->(s.heap.update T (Obj.mapFields (·.setIfInBounds 3 br))).get? b=s.heap.get? b:=λb hb=>bK _ _ (aG hb)
 have noRecord:∀b o,s.heap.get? b=some o->(∀vs,o.data≠ .fields vs)->b≠T:=λb o hb hnf q=>by
  rw[q,hT]at hb;injection hb with hb;subst hb;exact hnf ts hdT
 refine wpAny_newEntry (base:=B) hfr (hl'.of_keeps λb o hb hnf=>⟨o,(other b (noRecord b o hb hnf)).trans hb,rfl⟩) hf ((other e (aG hTe)).trans he)
  (λb o hbo=>(other b λq=>by rw[q,hnT]at hbo;cases hbo).trans (hkb b o hbo)) (b1 e (by simp)) hd (jE.mp h1).1
  λh' hPl=>by obtain⟨x1,x2,x3,x4⟩:=hPl;exact h h' (qW b2 hl ⟨x1,x2,x3,λb o hb hnf=>x4 b o ((other b (noRecord b o hb hnf)).trans hb) hnf⟩)
theorem AQ{e T:Addr}{cls:ae}{Q:Unit->ai->Prop}(ht:Nd s.heap e T cls)
  (h:∀h',(∀b o,b≠T->s.heap.get? b=some o->h'.get? b=some o)->Q () {s with heap:=h'}):wpAny M A (setFlight (.ref e) none) Q E s:=by
 obtain⟨oe,vs,oT,ts,he,hcls,hd,h1,hTe,hT,hdT,h3⟩:=ht
 unfold setFlight
 refine aa (bG he hd h1 ?_)
 rw[if_pos (show(aE T !=br)=true from by simp)]
 exact pH hT hdT (jE.mp h3).1 (h _ λb o hb q=>by rw[bK _ _ (aG hb)];exact q)
end
theorem yF{fs:List Addr}{H H':Hp}{h h1 h2:Heap}{x:Addr}{S:List Addr}(u:Un fs [] H H' h h1)(hx:h.get? x=none)(hS:∀t∈S,h.get? t=none)
  (k1:∀b o,b∉fs->b≠x->b∉S->h1.get? b=some o->h2.get? b=some o) (k2:∀b o,b∈fs->b≠x->b∉S->h1.get? b=some o->∃sl,h2.get? b=some {o with slots:=sl}):Un fs [] H H' h h2:=by
 have nx:∀b o,h.get? b=some o->b≠x:=λb o q e=>by rw[e,hx]at q;cases q
 have nS:∀b o,h.get? b=some o->b∉S:=λb o q hm=>by rw[hS b hm]at q;cases q
 have go:∀b o o1,h.get? b=some o->h1.get? b=some o1->∃sl,h2.get? b=some {o1 with slots:=sl}:=λb o o1 q q1=>by
  by_cases hm:b∈fs
  ·exact k2 b o1 hm (nx b o q) (nS b o q) q1
  ·exact⟨o1.slots,k1 b o1 hm (nx b o q) (nS b o q) q1⟩
 refine⟨λb o q n nf nx'=>k1 b o nf (nx b o q) (nS b o q) (u.keep b o q n nf nx'),λb o q n hb nx'=> ?_,u.free,λb o q nx'=> ?_,u.tups,u.frzs,u.tbls⟩
 ·obtain⟨sl,q1⟩:=u.slot b o q n hb nx'
  obtain⟨sl',q2⟩:=go b o _ q q1
  exact⟨sl',q2⟩
 ·obtain⟨o',q1⟩:=u.there b o q nx'
  obtain⟨sl,q2⟩:=go b o _ q q1
  exact⟨_,q2⟩
theorem ww{P:aJ}{w:aV}{H:Hp}{h1 h2:Heap}{x:Addr}{S fs:List Addr}(ok:HOk P w H h1)(hx:H x=none)(hS:∀t∈S,H t=none)(hf:∀b∈fs,H b=none)
  (k1:∀b o,b∉fs->b≠x->b∉S->h1.get? b=some o->h2.get? b=some o):HOk P w H h2:=λa o e=>by
 have nn:∀b,(b=a\/H b=some (.own a))->H b≠none:=λb hb z=>by
  rcases hb with rfl|hb
  ·rw[e]at z;cases z
  ·rw[hb]at z;cases z
 exact(ok a o e).stay (λb u hb q=>k1 b u (λhm=>nn b hb (hf b hm)) (λz=>nn b hb (by rw[z];exact hx)) (λhm=>nn b hb (hS b hm)) q) (λ_ q=>q) λ_ _ q=>q
section
end
end L2
namespace L3
open PySem L2 PySem.Spec PyProof.Rows
theorem FQ{K:PySem.W.Frag}{H H':Hp}(t:∀b xs,H b=some (.tup xs)->H' b=some (.tup xs))(f:∀b o u,H b=some (.frz o u)->H' b=some (.frz o u)):Keep K H H':=
 ⟨λa xs h=>by
  rcases h with(h|⟨o,h⟩)|h
  ·exact .inl (.inl (t a xs h))
  ·exact .inl (.inr ⟨o,f a o _ h⟩)
  ·exact .inr h,f⟩
noncomputable abbrev Er:=List PV->Gp->K2->(Gp->Prop)->Prop
noncomputable def spX(K:PySem.W.Frag)(C:Addr)(sp:Er):Sp:=λvs H Q E=>∃ps G Q2 EX,Dvs K H ps vs/\Rep K H G/\sp ps G Q2 EX/\Cl K H Q2 Q/\∀G' H',EX G'->Rep K H' G'->E (.ref C) none H'
noncomputable abbrev Nv(P:aJ)(w:aV)(K:PySem.W.Frag)(mg:Str->Option ae)(base:Heap)(C:Addr)(k:Nat)(f:Addr)(fd:aW)(ps:List Str)(sp:Er):Prop:=FnOk P w K mg base (n9 P w C) k f fd ps (spX K C sp)
structure A3(P:aJ)(w:aV)(K:PySem.W.Frag)(mg:Str->Option ae)(base:Heap)(C:Addr)(k:Nat)(x:Str)(f:Addr)(fd:aW)(ps:List Str)(sp:Er):Prop where
 ok:Nv P w K mg base C k f fd ps sp
 b:Binds K fd ps []
 kp:PySem.W.keepIn K (.ref f)=true
 m:mg x=some (.ref f)
noncomputable def XW(K:PySem.W.Frag)(C:Addr)(E:XK)(EX:Gp->Prop):Prop:=∀G' H',EX G'->Rep K H' G'->E (.ref C) none H'
section
variable{P:aJ}{w:aV}{K:PySem.W.Frag}{mg:Str->Option ae}{base:Heap}{C:Addr}
theorem fnX{x qual:Str}{st:Stmt}{f:Addr}{fd:aW}{N ps:List Str}{k:Nat}{sp:Er}(F:Fun K x qual st f fd)(S:bA N ps (aL st))(len:∀vs G Q EX,sp vs G Q EX->vs.length=ps.length)
  (hbody:∀(cdv:ae) (A:Around) (outer:List Env) (s:ai) (H:Hp) (E:XK) (as:List PV) (G:Gp) (Q:K2) (EX:Gp->Prop),Room k (A.deeper (ku qual (aL st) s.heap.objs.size f cdv))->sp as G Q EX->XW K C E EX->
   ∃t,JB (gZ (n9 P w C) P w K mg base N qual (aL st) f cdv A outer s H E) (il st) t/\t {nx:=λ_ G'=>∃G0,GE G0 G'/\Q .non G0,rt:=λp G'=>∃G0,GE G0 G'/\Q p G0} (hJ N as) G):Nv P w K mg base C (k+1) f fd ps sp:=by
 obtain⟨oc,od,kV,doc,pm,an,cdv,ct,osl,rfl,lk,hcd⟩:=F.ex
 refine Hu lk hcd S (λvs H Q E h=> ?_) (λA outer s H vs Q E hr h=> ?_)
 ·obtain⟨as,G,Q2,EX,d,_,h,_,_⟩:=h
  rw[d.length];exact len _ _ _ _ h
 obtain⟨as,G,Q2,EX,d,rp,h,cl,hx⟩:=h
 obtain⟨t,j,q⟩:=hbody cdv A outer s H E as G Q2 EX hr h hx
 refine⟨_,j.h,hJ N as,G,_,oi d (by rw[len _ _ _ _ h,<-S.pre,bv];ac_nf),rp,q,⟨λτ G' σ H' ⟨G0,e0,q1⟩ _ r1 k1=>cl _ _ _ _ q1 rfl (r1.sub e0) k1,λp G' v H' ⟨G0,e0,q1⟩ d1 r1 k1=>cl _ _ _ _ q1 d1 (r1.sub e0) k1,λ_ _ _ _ q1=>q1.elim,λ_ _ _ _ q1=>q1.elim⟩⟩
variable{N:List Str}{qual:Str}{scope:er}{f:Addr}{cdv:ae}{A:Around}{outer:List Env}{s:ai}{H:Hp}{E:XK}{EX:Gp->Prop}
noncomputable abbrev HZ(t:A2)(EX:Gp->Prop):S2:=λ_ τ G=>t τ G λps G1=>ps.length<=1000/\EX G1
theorem Do{xn:Str}{np cpos pos:Pos}{e:Expr}{es:List Expr}{t:A2}(hX:XW K C E EX)(q:PySem.W.excIn K C A6 "ValueError.__new__" =true)(hm:mg xn=some (.ref C))
  (ha:JA (gZ (n9 P w C) P w K mg base N qual scope f cdv A outer s H E) (e::es) t) (hg:Gl (gZ (n9 P w C) P w K mg base N qual scope f cdv A outer s H E) xn:=by rfl) (hdb:(xn==("__debug__" :Str))=false:=by decide)
  (he:au (e::es) (gZ (n9 P w C) P w K mg base N qual scope f cdv A outer s H E).env=(false,eval e (gZ (n9 P w C) P w K mg base N qual scope f cdv A outer s H E).env)::au es (gZ (n9 P w C) P w K mg base N qual scope f cdv A outer s H E).env:=by rfl)
  (hpl:(bT cpos (au (e::es) (gZ (n9 P w C) P w K mg base N qual scope f cdv A outer s H E).env)).any (·.1)=false:=by rfl):
  JS (gZ (n9 P w C) P w K mg base N qual scope f cdv A outer s H E) (.Raise (some (.Call (.Name xn np) (e::es) [] cpos)) none pos) (HZ t EX):=⟨λpins s1 σ H1 D I h=>by
 obtain⟨τ,G,D2,rs,rp,q2,_⟩:=h
 refine Ce q hg hm ha.h hdb he hpl pins s1 σ H1 D I ⟨τ,G,_,rs,rp,q2,λps G1 vs H2 q3 d3 r3 k3=> ?_⟩
 have hz:vs.length=ps.length:=d3.length
 exact⟨by rw[hz];exact aR q3.1 (by decide),hX _ _ q3.2 r3⟩⟩
noncomputable abbrev DS(sp:Er)(EX:Gp->Prop)(t:A2):E2:=λτ G Q=>t τ G λps G1=>sp ps G1 Q EX
end
section
end
section
variable{K:PySem.W.Frag}{H:Hp}{G:Gp}{p C dx:Addr}
theorem nE:∀{fs:List (Str×PV)} {vs:List (Str×V)} {f:Str} {q:PV},DFv K H fs vs->fs.lookup f=some q->∃v,vs.lookup f=some v/\Dv K H q v
 |[],_,_,_,_,e=>by cases e
 |(k,q0)::fs,vs,f,q,h,e=>by
  obtain⟨v,r,rfl,d,z⟩:=h
  rw[fA]at e⊢
  cases hk:(f==k)with
  |true=>rw[hk]at e;cases e;exact⟨v,rfl,d⟩
  |false=>rw[hk]at e;exact nE z e
theorem rC:∀{fs:List (Str×PV)} {vs:List (Str×V)} {f:Str},DFv K H fs vs->fs.lookup f=none->vs.lookup f=none
 |[],_,_,h,_=>by rw[show _=[]from h];rfl
 |(k,q0)::fs,vs,f,h,e=>by
  obtain⟨v,r,rfl,d,z⟩:=h
  rw[fA]at e⊢
  cases hk:(f==k)with
  |true=>rw[hk]at e;cases e
  |false=>rw[hk]at e;exact rC z e
theorem qe:∀{fs:List (Str×PV)} {vs:List (Str×V)},DFv K H fs vs->vs.length=fs.length
 |[],_,h=>by rw[show _=[]from h];rfl
 |(k,q0)::fs,vs,h=>by
  obtain⟨v,r,rfl,d,z⟩:=h
  rw[aU,aU,qe z]
theorem kQ{vs:List (Str×V)}{o:HO}(h:H p=some (.ins C dx vs)):Keep K H (L2.upd H p o):=nu (λxs q=>by rcases q with q|⟨_,q⟩<;>(rw[h]at q;cases q)) λo u q=>by rw[h]at q;cases q
theorem Rep.putI{vs vs0:List (Str×V)}{fs:List (Str×PV)}(r:Rep K H G)(h:H p=some (.ins C dx vs0))(d:DFv K H fs vs):Rep K (L2.upd H p (.ins C dx vs)) (up G p (.ins C dx fs)):=by
 refine r.upd (kQ h) (λa o e ne=>by rw[aH ne]at e;exact e) λo e=> ?_
 rw[aj]at e;cases e
 exact⟨vs,cw,DFv.keep (kQ h) _ d⟩
end
noncomputable def GB(C:Addr)(f:Str)(x:PV)(G:Gp)(Q:K2):Prop:=match x with
 | .ref a=>match G a with
  |some (.ins C' _ fs)=>C'=C/\match fs.lookup f with
   |some q=>Q q G
   |none=>False
  |_=>False
 |_=>False
theorem cH{C a dx:Addr}{f:Str}{G:Gp}{Q:K2}{fs:List (Str×PV)}{q:PV}(h:G a=some (.ins C dx fs))(e:fs.lookup f=some q)(hq:Q q G):GB C f (.ref a) G Q:=by
 unfold GB;simp only[h,e];exact⟨trivial,hq⟩
noncomputable abbrev ML(C:Addr)(t:E2)(f:Str):E2:=λτ G Q=>t τ G λx G1=>GB C f x G1 Q
theorem Hq{X:Cx}{C:Addr}{e:Expr}{f:Str}{t:E2}{pos:Pos}(c:Cls X.K C)(n:NoAttr X.K C f)(he:JE X e t)(hb:cy e f X.env (eval e X.env)=eval e X.env:=by rfl):JE X (.Attribute e f pos) (ML C t f):=
 .of (IG he.h hb) λσ H Q hPl=>by
  obtain⟨τ,G,Q2,rs,rp,q,cl⟩:=hPl
  refine⟨τ,G,_,rs,rp,q,λp G1 v H1 q1 d1 r1 k1=> ?_⟩
  unfold GB at q1
  split at q1
  ·rename_i a
   split at q1
   ·rename_i C' dx fs hG
    obtain⟨rfl,q1⟩:=q1
    split at q1
    ·rename_i y hl
     obtain rfl:v= .ref a:=d1
     obtain⟨vs,hH,df⟩:=r1 a _ hG
     obtain⟨w',hw,dw⟩:=nE df hl
     exact⟨a,_,dx,vs,w',rfl,hH,c,n,hw,cl _ _ _ _ q1 dw r1 k1⟩
    ·exact q1.elim
   ·exact q1.elim
  ·exact q1.elim
noncomputable def kI(f:Str)(v:PV):List (Str×PV)->List (Str×PV)
 |[]=>[(f,v)]
 |(g,x)::r=>if g=f then(g,v)::r else(g,x)::kI f v r
theorem qd{K:PySem.W.Frag}{H:Hp}{f:Str}{q:PV}{v:V}(d:Dv K H q v):∀{fs:List (Str×PV)} {vs:List (Str×V)},DFv K H fs vs->DFv K H (kI f q fs) (jf f v vs)
 |[],_,h=>by rw[show _=[]from h];exact⟨v,[],rfl,d,rfl⟩
 |(k,q0)::fs,vs,h=>by
  obtain⟨v0,r,rfl,d0,z⟩:=h
  unfold kI jf
  by_cases hk:k=f
  ·rw[if_pos hk,if_pos hk];exact⟨v,r,rfl,d,z⟩
  ·rw[if_neg hk,if_neg hk];exact⟨v0,_,rfl,d0,qd d z⟩
noncomputable def yT(C:Addr)(f:Str)(x y:PV)(G:Gp)(Q:Gp->Prop):Prop:=match x with
 | .ref a=>match G a with
  |some (.ins C' dx fs)=>C'=C/\fs.length<1000/\Q (up G a (.ins C dx (kI f y fs)))
  |_=>False
 |_=>False
theorem kF{C a dx:Addr}{f:Str}{G:Gp}{Q:Gp->Prop}{fs:List (Str×PV)}{y:PV}(h:G a=some (.ins C dx fs))(hl:fs.length<1000)(hq:Q (up G a (.ins C dx (kI f y fs)))):yT C f (.ref a) y G Q:=by
 unfold yT;simp only[h];exact⟨trivial,hl,hq⟩
noncomputable abbrev Lg(C:Addr)(ta tv:E2)(f:Str):S2:=λD τ G=>tv τ G λy G1=>ta τ G1 λx G2=>yT C f x y G2 λG3=>D.nx τ G3
theorem Js{X:Cx}{C:Addr}{o value:Expr}{f:Str}{ta tv:E2}{pos pos':Pos}(c:Cls X.K C)(n:NoAttr X.K C f)(ha:JE X o ta)(hv:JE X value tv)(hs:gQ value (some (.Attribute o f pos')) pos.line X.env=pure false:=by rfl):
  JS X (.Assign [.Attribute o f pos'] value pos) (Lg C ta tv f):= .of (Ip ha.h hv.h hs) λD σ H ⟨τ,G,D2,rs,rp,q,cl⟩=>by
 refine⟨τ,G,_,rs,rp,q,λy G1 v H1 q1 d1 r1 k1=>⟨τ,G1,_,rs.keep k1,r1,q1,λx G2 u H2 q2 d2 r2 k2=> ?_⟩⟩
 unfold yT at q2
 split at q2
 ·rename_i a
  split at q2
  ·rename_i C' dx fs hG
   obtain⟨rfl,hl,q2⟩:=q2
   obtain rfl:u= .ref a:=d2
   obtain⟨vs,hH,df⟩:=r2 a _ hG
   have kk:Keep X.K H2 (L2.upd H2 a (.ins C' dx (jf f v vs))):=kQ hH
   refine⟨a,_,dx,vs,rfl,hH,c,n,by rw[qe df];exact hl,cl.nx _ _ _ _ q2 (rs.keep ((k1.trans k2).trans kk)) (r2.putI hH (qd (d1.keep k2) df)) ((k1.trans k2).trans kk)⟩
  ·exact q2.elim
 ·exact q2.elim
noncomputable def zL(C:Addr)(f:Str)(x:PV)(tv:E2)(τ:iS)(G:Gp)(Q:Gp->Prop):Prop:=match x with
 | .ref a=>match G a with
  |some (.ins C' _ fs)=>C'=C/\match fs.lookup f with
   |some (.int i)=>tv τ G λy G1=>match y with
    | .int j=>match G1 a with
     |some (.ins C'' dx' fs')=>C''=C/\fs'.length<1000/\Q (up G1 a (.ins C dx' (kI f (.int (i+j)) fs')))
     |_=>False
    |_=>False
   |_=>False
  |_=>False
 |_=>False
noncomputable abbrev vR(C:Addr)(ta tv:E2)(f:Str):S2:=λD τ G=>ta τ G λx G1=>zL C f x tv τ G1 λG3=>D.nx τ G3
theorem tu{X:Cx}{C:Addr}{o value:Expr}{f:Str}{ta tv:E2}{pos tpos:Pos}(c:Cls X.K C)(n:NoAttr X.K C f)(ha:JE X o ta)(hv:JE X value tv):
  JS X (.AugAssign (.Attribute o f tpos) .Add value pos) (vR C ta tv f):= .of (sX ha.h hv.h Kg) λD σ H ⟨τ,G,D2,rs,rp,q,cl⟩=>by
 refine⟨τ,G,_,rs,rp,q,λx G1 u H1 q1 d1 r1 k1=> ?_⟩
 unfold zL at q1
 split at q1
 ·rename_i a
  split at q1
  ·rename_i C' dx fs hG
   obtain⟨rfl,q1⟩:=q1
   split at q1
   ·rename_i i hl
    obtain rfl:u= .ref a:=d1
    obtain⟨vs,hH,df⟩:=r1 a _ hG
    obtain⟨w',hw,dw⟩:=nE df hl
    obtain rfl:w'= .int i:=dw
    refine⟨a,_,dx,vs,_,rfl,hH,c,n,hw,τ,G1,_,rs.keep k1,r1,q1,λy G2 v H2 q2 d2 r2 k2=> ?_⟩
    split at q2
    ·rename_i j
     split at q2
     ·rename_i C'' dx' fs' hG2
      obtain⟨rfl,hl2,q2⟩:=q2
      obtain rfl:v= .int j:=d2
      obtain⟨vs2,hH2,df2⟩:=r2 a _ hG2
      have kk:Keep X.K H2 (L2.upd H2 a (.ins C'' dx' (jf f (.int (i+j)) vs2))):=kQ hH2
      exact⟨i,j,rfl,rfl,dx',vs2,hH2,by rw[qe df2];exact hl2,cl.nx _ _ _ _ q2 (rs.keep ((k1.trans k2).trans kk)) (r2.putI hH2 (qd (q:= .int (i+j)) rfl df2)) ((k1.trans k2).trans kk)⟩
     ·exact q2.elim
    ·exact q2.elim
   ·exact q1.elim
  ·exact q1.elim
 ·exact q1.elim
noncomputable def isI(C:Addr)(m:Str)(x:PV)(G:Gp):Prop:=∃a dx fs,x= .ref a/\G a=some (.ins C dx fs)/\fs.lookup m=none
structure MetX(P:aJ)(w:aV)(K:PySem.W.Frag)(mg:Str->Option ae)(base:Heap)(D C:Addr)(k:Nat)(m:Str)(f:Addr)(fd:aW)(ps:List Str)(sp:Er):Prop where
 ok:Nv P w K mg base D k f fd ps sp
 b:Binds K fd ps []
 c:Cls K C
 m:jb K C m f
structure eS(P:aJ)(w:aV)(K:PySem.W.Frag)(mg:Str->Option ae)(base:Heap)(C:Addr)(k:Nat)(m:Str)(f:Addr)(fd:aW)(ps:List Str)(sp:iH):Prop where
 ok:i9 P w K mg base k f fd ps sp
 b:Binds K fd ps []
 c:Cls K C
 m:jb K C m f
noncomputable abbrev MJ(C:Addr)(m:Str)(sp:iH)(to:E2)(t:A2):E2:=λτ G Q=>to τ G λx G1=>isI C m x G1/\t τ G1 λps G2=>sp (x::ps) G2 Q
section
end
section
variable{X:Cx}{C:Addr}{k k':Nat}{m x:Str}{f':Addr}{fd:aW}{ps:List Str}{o e:Expr}{es:List Expr}{to:E2}{t:A2}{pos apos p:Pos}{pl:Sem Bool}
theorem JQ{sp:iH}(M:eS X.prog X.w X.K X.mg X.base C k m f' fd ps sp)(hr:Room k' X.A)(hk:k<=k')(ho:JE X o to)
  (ht:eval (.Call (.Attribute o m apos) [] [] pos) X.env=(do
   let ov <-eval o X.env
   standAt apos.atName
   let(fv,first) <-holding [ov] (qb ov m pl)
   callWith pos fv first (bT pos (au [] X.env)) (ic pos (eL [] X.env))):=by rfl):
  JE X (.Call (.Attribute o m apos) [] [] pos) (λτ G Q=>to τ G λx G1=>isI C m x G1/\sp [x] G1 Q):=
 .of (Cj (pl:=pl) ho.h M.c M.m (M.ok.mono hk) hr M.b .nil zk ht) λσ H1 Q q=>by
  obtain⟨τ,G,Q2,rs,rp,q,cl⟩:=q
  refine⟨τ,G,_,rs,rp,q,λx G1 v H2 q1 d1 r1 k1=> ?_⟩
  obtain⟨⟨a,dx,fs,rfl,hG,hl⟩,q1⟩:=q1
  obtain rfl:v= .ref a:=d1
  obtain⟨vs,hH,df⟩:=r1 a _ hG
  exact⟨a,dx,vs,rfl,hH,rC df hl,[.ref a],G1,Q2,⟨.ref a,[],rfl,rfl,rfl⟩,r1,q1,cl.keep k1⟩
noncomputable abbrev Hx(C:Addr)(sp:iH)(t:A2):E2:=λτ G Q=>t τ G λps G1=>∀x dx,G1 x=none->G1 dx=none->dx≠x->sp (.ref x::ps) (up G1 x (.ins C dx [])) λv G2=>v= .non/\Q (.ref x) G2
theorem Dz{sp:iH}(M:Mk X.K C f')(ok:i9 X.prog X.w X.K X.mg X.base k f' fd ps sp)(hb:Binds X.K fd ps [])(hr:Room k' X.A)(hk:k+1<=k')(hm:X.mg x=some (.ref C))(ha:JA X (e::es) t)(hg:Gl X x:=by rfl)
  (hdb:(x==("__debug__" :Str))=false:=by decide) (he:au (e::es) X.env=(false,eval e X.env)::au es X.env:=by rfl) (hpl:(bT pos (au es X.env)).any (·.1)=false:=by rfl):
  JE X (.Call (.Name x p) (e::es) [] pos) (Hx C sp t):= .of (Fd M ok (hr.mono hk) hg hm hb .nil zk ha.h hdb he hpl) λσ H Q q=>by
 obtain⟨τ,G,Q2,rs,rp,q,cl⟩:=q
 refine⟨τ,G,_,rs,rp,q,λps G1 vs H1 q1 d1 r1 k1=>λa dx ha hdx ne=> ?_⟩
 have k2:Keep X.K H1 (L2.upd H1 dx (.own a)):=cg hdx
 have ha':L2.upd H1 dx (.own a) a=none:=by rw[bD (aG ne)];exact ha
 have k3:Keep X.K (L2.upd H1 dx (.own a)) (L2.upd (L2.upd H1 dx (.own a)) a (.ins C dx [])):=cg ha'
 have rp2:Rep X.K (L2.upd H1 dx (.own a)) G1:=r1.upd k2 (λ_ _ e _=>e) λo e=>by rw[r1.none hdx]at e;cases e
 have rp3:Rep X.K (L2.upd (L2.upd H1 dx (.own a)) a (.ins C dx [])) (up G1 a (.ins C dx [])):=by
  refine rp2.upd k3 (λb o e ne=>by rw[aH ne]at e;exact e) λo e=> ?_
  rw[aj]at e;cases e
  exact⟨[],cw,rfl⟩
 show G9 X.K sp (.ref a::(vs++[])) _ _ _
 rw[dS]
 refine⟨.ref a::ps,_,_,⟨.ref a,vs,rfl,rfl,d1.keep (k2.trans k3)⟩,rp3,q1 a dx (r1.none ha) (r1.none hdx) ne,λv G2 u H2 q2 d2 r2 k4=> ?_⟩
 obtain⟨rfl,q2⟩:=q2
 exact⟨d2,cl _ _ _ _ q2 rfl r2 (((k1.trans k2).trans k3).trans k4)⟩
end
end L3
namespace L2
open PySem PySem.Spec PyProof.Rows
section
end
section
end
section
end
end L2
namespace L3
open PySem L2 PySem.Spec PyProof.Rows
section
end
section
end
theorem Lw{P:aJ}{w:aV}{D:Addr}{X:Cx}:jA (n9 P w D) X (λ_ _ _=>False):=by
 rintro pins σ H1 s1 e s' I ⟨x,T,H',rfl,tr,nx,nT,hx,hT,os,bare,un,hok,hE⟩
 exact hE.elim
theorem xwN{K:PySem.W.Frag}{D:Addr}:XW K D (λ_ _ _=>False) (λ_=>False):=λ_ _ h _=>h
section
variable{X:Cx}{D:Addr}{k k':Nat}{x:Str}{f':Addr}{fd:aW}{ps:List Str}{sp:Er}{e:Expr}{es:List Expr}{t:A2}{pos p:Pos}{E:XK}{EX:Gp->Prop}
theorem DC(hp:jA (n9 X.prog X.w D) X E)(hX:XW X.K D E EX)(Cl:A3 X.prog X.w X.K X.mg X.base D k x f' fd ps sp)(hr:Room k' X.A)(hk:k<=k')
  (ha:JA X (e::es) t) (hg:Gl X x:=by rfl) (hdb:(x==("__debug__" :Str))=false:=by decide)
  (he:au (e::es) X.env=(false,eval e X.env)::au es X.env:=by rfl) (hpl:(bT pos (au es X.env)).any (·.1)=false:=by rfl):
  JE X (.Call (.Name x p) (e::es) [] pos) (DS sp EX t):=
 .of (zj (Cl.ok.mono hk) hr hg Cl.m Cl.kp Cl.b .nil hp ha.h hdb he hpl) λσ H1 Q q=>by
  obtain⟨τ,G,Q2,rs,rp,q,cl⟩:=q
  refine⟨τ,G,_,rs,rp,q,λps G1 vs H2 q1 d1 r1 k1=> ?_⟩
  show spX X.K D sp (vs++[]) H2 Q E
  rw[dS]
  exact⟨ps,G1,Q2,EX,d1,r1,q1,cl.keep k1,hX⟩
theorem JZ(Cl:A3 X.prog X.w X.K X.mg X.base D k x f' fd ps sp)(hr:Room k' X.A)(hk:k<=k')
  (ha:JA X (e::es) t) (hg:Gl X x:=by rfl) (hdb:(x==("__debug__" :Str))=false:=by decide)
  (he:au (e::es) X.env=(false,eval e X.env)::au es X.env:=by rfl) (hpl:(bT pos (au es X.env)).any (·.1)=false:=by rfl):
  JE X (.Call (.Name x p) (e::es) [] pos) (DS sp (λ_=>False) t):=DC Lw xwN Cl hr hk ha hg hdb he hpl
end
end L3
namespace L2
open PySem PySem.Spec PyProof.Rows
theorem qr{prog:aJ}{w:aV}{A:Around}{E:ae->ai->Prop}{s:ai}{t:Addr}{items:Array ae}{Q:Bool->ai->Prop}(ht:IsTup s.heap t items)(h:Q true s):wpAny (aQ prog w) A (pc (.ref t)) Q E s:=by
 unfold pc
 exact aa (gP ht.typeIs (aq h))
theorem lE{prog:aJ}{w:aV}{A:Around}{E:ae->ai->Prop}{s:ai}{t sl:Addr}{items:Array ae}{vl vu:ae}{lo hi:Option Int}{Q:ae->ai->Prop}(ht:IsTup s.heap t items)(hs:s.heap.IsSliceOf sl vl vu .none)(pl:IsPart vl lo)(pu:IsPart vu hi)
  (hw:HT.sIx items.size 0 lo=0/\HT.sIx items.size items.size hi=items.size) (h:Q (.ref t) s):wpAny (aQ prog w) A (iO (.ref t) (.ref sl)) Q E s:=by
 obtain⟨os,hos,hcs,hds⟩:=id hs
 have hTs:s.TypeIs (.ref sl) "slice" :=⟨os,hos,hcs⟩
 unfold iO
 try with_reducible refine cJ ?_
 first|refine aa (aq ?_)|skip
 refine aa (ub ht.typeIs (by decide) ?_)
 refine aa (cF (name:=aF "__getitem__") ht.typeIs bw
  (cY bw ht.typeIs rA ?_ (sk _ _)))
 show wpAny _ _ (iN (.ref t)>>=_) _ _ s
 refine aa (tupleItemsOf_ ht ?_)
 refine aa (gP hTs ?_)
 rw[if_pos (by decide)]
 refine aa (HT.sliceApplied_gen hs pl pu ?_)
 have hyes:(((HT.sIx items.size 0 lo:Nat):Int)==0&&(1:Int)==1&&(HT.sIx items.size items.size hi-HT.sIx items.size 0 lo)==items.size)=true:=by
  rw[hw.1,hw.2];simp
 show wpAny _ _ (if(((HT.sIx items.size 0 lo:Nat):Int)==0&&(1:Int)==1&&(HT.sIx items.size items.size hi-HT.sIx items.size 0 lo)==items.size)=true then _ else _) _ _ s
 rw[if_pos hyes]
 refine aa (qr ht ?_)
 rw[if_pos rfl]
 first
  |exact aa (iq (aq ⟨_,rfl,aq h⟩))
  |exact aa (aa (iq (aq ⟨_,rfl,aq h⟩)))
  |exact aa (iq ⟨_,rfl,aq h⟩)
noncomputable def NX(K:PySem.W.Frag):V->Option Int->Option Int->Hp->VK->Prop:=λx lo hi H Q=>∃a xs,x= .ref a/\SqT K H a xs/\(HT.sIx xs.length 0 lo=0/\HT.sIx xs.length xs.length hi=xs.length)/\Q (.ref a) H
theorem BH{X:Cx}:KD X (NX X.K):=by
 intro pins s σ H x v vl vu lo hi sl Q I rx hs pl pu h
 obtain⟨a,xs,rfl,hx,hw,q⟩:=h
 cases rx
 obtain⟨its,r,ht,hz⟩:=I.tuple hx
 have hlen:its.toArray.size=xs.length:=by rw[ax];exact r.length.symm
 refine⟨"tuple",_,bw.lookup,ht.typeIs,?_⟩
 exact lE ht hs pl pu (by rw[hlen];exact hw) ⟨.ref a,H,I,rfl,q⟩
end L2
namespace L3
open PySem L2 PySem.Spec PyProof.Rows
noncomputable def BI:PV->Option Int->Option Int->Gp->K2->Prop:=λp lo hi G Q=>match p with
 | .tup xs=>Q (.tup (sh xs lo hi)) G
 | .str z=>z.length<=16000000/\Q (.str (Txt.slice z lo hi)) G
 |_=>False
noncomputable abbrev DQ(te:E2)(tl th:O2):E2:=λτ G Q=>te τ G λx G1=>tl τ G1 λl G2=>th τ G2 λu G3=>BI x l u G3 Q
section
variable{X:Cx}{e:Expr}{te:E2}{lo hi:Option Expr}{tl th:O2}{pos p2:Pos}
theorem HW:KD X (Hn X.K BI):=by
 intro pins s σ H x v vl vu lo hi sl Q I rx hs pl pu h
 obtain⟨p,G,Q2,d,rp,h,cl⟩:=h
 unfold BI at h
 split at h
 ·rename_i xs
  by_cases hw:HT.sIx xs.length 0 lo=0/\HT.sIx xs.length xs.length hi=xs.length
  ·have e:sh xs lo hi=xs:=by
    unfold sh
    rw[hw.1,hw.2]
    simp
   rw[e]at h
   have d0:=d
   obtain⟨a,vs,rfl,sa,da⟩:=d
   exact BH pins s σ H _ v vl vu lo hi sl Q I rx hs pl pu ⟨a,vs,rfl,sa,by rw[da.length];exact hw,cl _ _ _ _ h d0 rp .refl⟩
  ·exact BY pins s σ H x v vl vu lo hi sl Q I rx hs pl pu ⟨.tup xs,G,Q2,d,rp,⟨hw,h⟩,cl⟩
 ·rename_i z
  exact BY pins s σ H x v vl vu lo hi sl Q I rx hs pl pu ⟨.str z,G,Q2,d,rp,h,cl⟩
 ·exact h.elim
theorem Dy(he:JE X e te)(hl:JO X lo tl)(hu:JO X hi th):JE X (.Subscript e (.Slice lo hi none p2) pos) (DQ te tl th):= .of (vW HW he.h hl.h hu.h) λσ H Q hPl=>by
 obtain⟨τ,G,Q2,rs,rp,q,cl⟩:=hPl
 refine⟨τ,G,_,rs,rp,q,λp G1 v H1 q1 d1 r1 k1=>⟨τ,G1,_,rs.keep k1,r1,q1,λl G2 H2 q2 r2 k2=>⟨τ,G2,_,rs.keep (k1.trans k2),r2,q2,λu G3 H3 q3 r3 k3=> ?_⟩⟩⟩
 exact⟨p,G3,Q2,d1.keep (k2.trans k3),r3,q3,cl.keep ((k1.trans k2).trans k3)⟩
end
end L3
namespace L3
open PySem L2
inductive pO:Prop
 |mk
section
variable{X:Cx}{a b e:Expr}{ta tb te:E2}{pos pos' p p2:Pos}{x y:Str}{i k:Nat}{lo hi:Option Expr}{tl th:O2}
theorem jaE(u:pO)(ha:JE X a ta)(hb:JE X b tb):JE X (.BinOp a .Add b pos) (iP i7 ta tb):=Gh ha hb
theorem jsE(u:pO)(he:JE X e te)(hl:JO X lo tl)(hu:JO X hi th):JE X (.Subscript e (.Slice lo hi none p2) pos) (DQ te tl th):=Dy he hl hu
theorem Eo(i:Nat)(he:JE X e ta)(hN:X.N.Nodup)(hi:X.N[i]? =some x:=by rfl)(hx:vm X.env.scope x:=by first|exact iI rfl|exact g6 rfl)(hs:gQ e (some (.Name x pos')) pos.line X.env=pure false:=by rfl)
  (hf:X.fn x=true\/X.env.scope.names.lookup x=some .local:=by first|exact .inl rfl|exact .inr rfl):JS X (.Assign [.Name x pos'] e pos) (oE ta (gN i)):=Jq he hN hi hx hs hf
theorem Ep(i:Nat)(hN:X.N.Nodup)(hi:X.N[i]? =some x:=by rfl)(hx:vm X.env.scope x:=by first|exact iI rfl|exact g6 rfl)(hf:X.fn x=true\/X.env.scope.names.lookup x=some .local:=by first|exact .inl rfl|exact .inr rfl):JG X (.Name x pos) (gN i):=Gc hN hi hx hf
theorem uK(i:Nat)(hN:X.N.Nodup)(hc:X.calm=true:=by rfl)(hi:X.N[i]? =some x:=by rfl)(hx:vm X.env.scope x:=by first|exact iI rfl|exact g6 rfl)(hj:X.N[i+1]? =some y:=by rfl)(hy:vm X.env.scope y:=by first|exact iI rfl|exact g6 rfl)
  (hf:X.fn x=true\/X.env.scope.names.lookup x=some .local:=by first|exact .inl rfl|exact .inr rfl) (hf2:X.fn y=true\/X.env.scope.names.lookup y=some .local:=by first|exact .inl rfl|exact .inr rfl):
  JG X (.Tuple [.Name x p,.Name y p2] k pos) (Np i (i+1)):=Dt hc hN hi hx hj hy hf hf2
end
end L3
namespace L2
open PySem PySem.Spec PyProof.Rows
section
end
end L2
namespace L3
open PySem L2 PySem.Spec PyProof.Rows
section
theorem yC:∀{xs:List V} {us:List ae},us.length=xs.length->(∀(i:Nat) (x:V) (u:ae),xs[i]? =some x->us[i]? =some u->RelV x u)->Vals xs us
 |[],[],_,_=> .nil
 |x::xs,u::us,hl,h=> .cons (h 0 x u rfl rfl) (yC (by simpa using hl) λi y v hy hv=>h (i+1) y v (by simpa using hy) (by simpa using hv))
 |[],_::_,hl,_=>by cases hl
 |_::_,[],hl,_=>by cases hl
end
end L3
namespace L2
open PySem PySem.Spec PyProof.Rows
section
end
end L2
namespace L3
open PySem L2 PySem.Spec PyProof.Rows
section
end
end L3
namespace PySem
open PyProof.Rows (StrsAre)
section
end
end PySem
namespace L3
open PySem L2
section
end
noncomputable def rc:B2:=λp q G Q=>match p,q with
 | .non,.ref a=>∃ps,lk G a=some ps/\c8 100 ps=true/\Q (.bl (ps.any λy=>kr y .non)) G
 |_,_=>False
section
variable{X:Cx}{a e:Expr}{p:Pos}
theorem Ar(hu:X.A.units+200<iG):iJ X (bV .In) (gf X.K rc):=by
 intro pins s σ H x y v u Q I rx ry h
 obtain⟨p,q,G,Q2,d1,d2,rp,h,cl⟩:=h
 unfold rc at h
 split at h
 ·rename_i a
  obtain⟨ps,e1,f,hq⟩:=h
  obtain rfl:x= .non:=d1
  cases rx
  obtain rfl:y= .ref a:=d2
  cases ry
  obtain⟨vs,sa,da⟩:=fU rp e1
  obtain⟨its,r,pl,hz⟩:=I.list sa
  have main:∀{ps:List PV} {vs:List V} {its:List ae},c8 100 ps=true->Dvs X.K H ps vs->Vals vs its->(∀y∈its,SeqAt.EqAt X.A.in1 s y .none (lm y))/\its.any lm=ps.any λy=>kr y .non:=by
   intro ps
   induction ps with
   |nil=>
    intro vs its _ d r
    obtain rfl:vs=[]:=d
    cases r
    exact⟨λy hy=>by simp at hy,rfl⟩
   |cons p ps ih=>
    intro vs its f d r
    obtain⟨v,vr,rfl,dp,d⟩:=d
    cases r with
    |cons r1 r2=>
     unfold c8 at f
     rw[bp]at f
     obtain⟨h1,h2⟩:=ih f.2 d r2
     have e:=C7 f.1 dp r1
     refine⟨λy hy=> ?_,by rw[cR,cR,e,h2]⟩
     rcases aI.mp hy with rfl|hy
     ·rw[e]
      exact MH I 100 1 p .non X.A.in1 dp r1 rfl rfl f.1 rfl (by rw[PySem.Around.in1_units];ac_nf)
     ·exact h1 y hy
  obtain⟨h1,h2⟩:=main f da r
  refine SeqAt.in_listAt lm pl.isList (λy hy=>h1 y (by simpa using hy)) ⟨.bl _,H,I,rfl,?_⟩
  rw[show its.toArray.any lm=its.any lm by simp,h2]
  exact cl _ _ _ _ hq rfl rp .refl
 ·exact h.elim
end
end L3
namespace PySem
open AutoSeq1 (wpAny_loadPart')
section
end
end PySem
namespace L2
open PySem
section
end
end L2
namespace L3
open PySem L2
section
end
section
end
section
end
end L3
namespace L2
open PySem PySem.Spec PyProof.Rows
section
end
end L2
namespace L3
open PySem L2
section
end
theorem l8:∀{xs ys:List PV},(ju xs ys).length=min xs.length ys.length
 |[],ys=>by simp[ju]
 |x::xs,[]=>by simp[ju]
 |x::xs,y::ys=>by
  show(ju xs ys).length+1=_
  rw[l8];simp only[aU];ac_nf
section
end
end L3
namespace L3
open PySem L2 PySem.Spec PyProof.Rows
section
variable{X:Cx}{C:Addr}{k k':Nat}{m x:Str}{f':Addr}{fd:aW}{ps:List Str}{o e:Expr}{es:List Expr}{to:E2}{t:A2}{pos apos:Pos}{pl:Sem Bool}
theorem JP{sp:iH}(M:eS X.prog X.w X.K X.mg X.base C k m f' fd ps sp)(hr:Room k' X.A)(hk:k<=k')(ho:JE X o to)(ha:JA X (e::es) t)
  (hst:au (e::es) X.env=(false,eval e X.env)::au es X.env:=by rfl) (hpl:(bT pos (au es X.env)).any (·.1)=false:=by rfl)
  (ht:eval (.Call (.Attribute o m apos) (e::es) [] pos) X.env=(do
   let ov <-eval o X.env
   standAt apos.atName
   let(fv,first) <-holding [ov] (qb ov m pl)
   callWith pos fv first (bT pos (au (e::es) X.env)) (ic pos (eL [] X.env))):=by rfl):
  JE X (.Call (.Attribute o m apos) (e::es) [] pos) (MJ C m sp to t):=
 .of (Fc (pl:=pl) ho.h M.c M.m (M.ok.mono hk) hr M.b .nil zk ha.h hst hpl ht) λσ H1 Q q=>by
  obtain⟨τ,G,Q2,rs,rp,q,cl⟩:=q
  refine⟨τ,G,_,rs,rp,q,λx G1 v H2 q1 d1 r1 k1=> ?_⟩
  obtain⟨⟨a,dx,fs,rfl,hG,hl⟩,q1⟩:=q1
  obtain rfl:v= .ref a:=d1
  obtain⟨vs,hH,df⟩:=r1 a _ hG
  refine⟨a,dx,vs,rfl,hH,rC df hl,τ,G1,_,rs.keep k1,r1,q1,λps G2 us H3 q2 d2 r2 k2=> ?_⟩
  show G9 X.K sp (.ref a::(us++[])) H3 Q _
  rw[dS]
  exact⟨.ref a::ps,G2,Q2,⟨.ref a,us,rfl,rfl,d2⟩,r2,q2,cl.keep (k1.trans k2)⟩
end
end L3
namespace L2
open PySem PySem.Spec PyProof.Rows
section
variable{M:Model}{A:Around}{E:ae->ai->Prop}
variable{nm q:Str}{C N:Addr}{bs bm:List ae}{hdct:Bool}{sn:List Str}{sub:List ae}{ab:Bool}{col:Option Bool}{dd:Option Addr}{k0 k1 k2 k3 k5:Option ae}{newId:String}
variable{nm' q':Str}{C' N':Addr}{bs' bm':List ae}{hdct':Bool}{sn':List Str}{sub':List ae}{ab':Bool}{col':Option Bool}{dd':Option Addr}{k0' k1' k2' k3' k5':Option ae}{newId':String}
theorem rq{h:Heap}{g:Array GenState}{d:Drawn}{t:Nat}{os:OsState}{e:Addr}{oe:Obj}{Q:Bool->ai->Prop}
  (hC:h.get? C=some (excClassObj nm q C N bs bm hdct sn sub ab col dd k0 k1 k2 k3 k5 newId)) (hG:h.get? C'=some (excClassObj nm' q' C' N' bs' bm' hdct' sn' sub' ab' col' dd' k0' k1' k2' k3' k5' newId'))
  (he:h.get? e=some oe) (hcls:oe.cls= .ref C) (hbase:bm'.contains (.type "BaseException")=true) (hin:(aE C::bm).contains (.ref C')=true)
  (hq:Q true ⟨h,g,d,t,os⟩):wpAny M A (excMatches (.ref e) (.ref C')) Q E ⟨h,g,d,t,os⟩:=by
 have hcB:(aE C'::bm').contains (.type "BaseException")=true:=by rw[List.contains_cons,hbase,Bool.or_true]
 have f:=tc_notTuple
 unfold excMatches
 repeat (first|(with_reducible refine ue he ?_;rw[hcls])|with_reducible refine ue hC ?_|with_reducible refine ue hG ?_|(with_reducible refine wpAny_isSubtype_exc hG ?_;rw[hcB])|(with_reducible refine wpAny_isSubtype_exc hC ?_;rw[hin])|wp_step)
 exact hq
end
noncomputable def mf(K:PySem.W.Frag)(C G:Addr):Bool:=match K.lookup C with
 |some ⟨_,_,.cls cd,_⟩=>(cd.mro).contains (.ref G)
 |_=>false
noncomputable def Cx.inX(X:Cx)(e:ae):Cx:={X with A:=X.A.mark (some e),calm:=false,xe:=λ_ _=>False}
section
variable{X:Cx}{pins:List (Addr×Obj)}{σ:St}{H:Hp}{s:ai}{e:ae}
theorem Inv.inX(I:Inv X pins σ H s)(e:ae):Inv (X.inX e) pins σ H s:=
 ⟨⟨I.ok.mod,I.ok.kind,I.ok.glob,I.ok.blt,I.ok.above,I.ok.inj,I.ok.has,I.ok.cab,(λz=>nomatch z),I.ok.frames,I.ok.stk,I.ok.exf,I.ok.bs,I.ok.bsz,I.ok.noex,I.ok.exfs,I.ok.funs,I.ok.frf⟩,I.os,I.bare,I.base,I.loc,I.cell,I.free,I.freeC,I.pin,I.hok,I.len⟩
theorem Inv.outX(ok:X.Ok)(I:Inv (X.inX e) pins σ H s):Inv X pins σ H s:=⟨ok,I.os,I.bare,I.base,I.loc,I.cell,I.free,I.freeC,I.pin,I.hok,I.len⟩
theorem Inv.gone{M:Model}{A:Around}{E:ae->ai->Prop}{j:Nat}{n:Str}{pos:Pos}{Q:Unit->ai->Prop}(I:Inv X pins σ H s)(hN:X.N.Nodup)(hi:X.N[j]? =some n)(hl:X.env.scope.names.lookup n=some .local)
  (h:∀s',Inv X pins (σ.set j none) H s'->Q () s'):wpAny M A (do bindName X.env n .none;unbindBehindTheSuite X.env n pos) Q E s:=by
 obtain⟨m,hn,hlk⟩:=id I.loc
 have hcls:(X.env.scope.kind== .class||(X.env.scope.kind== .module&&X.env.locals !=X.env.globals))=false:=by rw[I.ok.kind];rfl
 have hiσ:j<σ.length:=by rw[I.len];exact(am.mp hi).1
 have cne:=I.cne
 have tracked:∀{a:Addr} {h':Heap},(∃o,s.heap.get? a=some o/\H a=none)->eA a s.heap h'->HOk X.prog X.w H h':=fun{a h'} ha hs b ob e=>by
  obtain⟨_,_,hfree⟩:=ha
  refine(I.hok b ob e).stay (λc w' hc q=>(hs.2 c ?_).trans q) (λ_ q=>q) λ_ _ q=>q
  rintro rfl
  rcases hc with rfl|hc
  ·rw[hfree]at e;cases e
  ·rw[hfree]at hc;cases hc
 refine wpAny_nameGoes_keeps hl hn hcls λh' v hn' hs=> ?_
 obtain⟨oL,_,_,hoL,_⟩:=id hn
 refine h _ ⟨I.ok,I.os,I.bare,⟨λb o e n hb hx=> ?_,λb o e n hb hx=> ?_,I.base.free,λb o e hx=> ?_,I.base.tups,I.base.frzs,I.base.tbls⟩,⟨_,hn',λk y v' e1 e2 e3=> ?_⟩,λy c e=> ?_,I.free,I.freeC,λp hp=> ?_,tracked ⟨oL,hoL,I.free⟩ hs,by simpa using I.len⟩
 ·exact(hs.2 b (aN (a9 (aB e) I.ok.above))).trans (I.base.keep b o e n hb hx)
 ·obtain⟨sl,e1⟩:=I.base.slot b o e n hb hx
  exact⟨sl,(hs.2 b (aN (a9 (aB e) I.ok.above))).trans e1⟩
 ·obtain⟨o',e1⟩:=I.base.there b o e hx
  exact⟨o',(hs.2 b (aN (a9 (aB e) I.ok.above))).trans e1⟩
 ·by_cases hj:k=j
  ·subst hj
   rw[cI hiσ]at e2
   cases e2
  ·rw[cq (aG hj)]at e2
   obtain⟨u',r',q⟩:=hlk k y v' e1 e2 e3
   refine⟨u',r',?_⟩
   rcases q with⟨k,e⟩|⟨k,c,e,z⟩
   ·refine .inl ⟨k,?_⟩
    have:y≠n:=λe=>hj (qP hN e1 (e▸hi))
    simp[this,e]
   ·exact .inr ⟨k,c,e,z.sameBut hs (cne y c e)⟩
 ·obtain⟨w',z⟩:=I.cell y c e
  exact⟨w',z.sameBut hs (cne y c e)⟩
 ·obtain⟨e,n,ne,nf,d⟩:=I.pin p hp
  exact⟨(hs.2 p.1 ne).trans e,n,ne,nf,d⟩
end
noncomputable def Ends.drop(D:Ends)(j:Nat):Ends:={nx:=λσ H=>D.nx (σ.set j none) H,rt:=D.rt,bk:=λσ H=>D.bk (σ.set j none) H,ct:=λσ H=>D.ct (σ.set j none) H}
section
variable{X:Cx}{C:Addr}
theorem AV{xc n:Str}{np p3:Pos}{b0:Stmt}{suite:List Stmt}{tb:TS}{G:Addr}{j:Nat}{pins:List (Addr×Obj)}{σ:St}{H1:Hp}{s1 s':ai}{D:Ends}{E:XK}{ex:ae}{env:Env}{outer:List Env}(hst:X.stack=env::outer)(henv:X.env=env)
  (I2:Inv X pins σ H1 s1) (hq:n9 X.prog X.w C X.stack H1 s1 E ex s')
  (q:PySem.W.excIn X.K C A6 "ValueError.__new__" =true) (qg:PySem.W.excIn X.K G A6 "ValueError.__new__" =true) (hup:mf X.K C G=true) (hgc:Gl X xc) (hmc:X.mg xc=some (.ref G)) (hN:X.N.Nodup) (hj:X.N[j]? =some n) (hl:X.env.scope.names.lookup n=some .local)
  (hE:∀H' x,E (.ref C) none H'->(∀b xs,H1 b=some (.tup xs)->H' b=some (.tup xs))->(∀b o u,H1 b=some (.frz o u)->H' b=some (.frz o u))->H' x=none->tb (D.drop j) (σ.set j (some (.ref x))) (upd H' x (wz x C)))
  (hs:∀x:Addr,PSs (X.inX (.ref x)) (b0::suite) tb) (hdc:(xc==("__debug__" :Str))=false:=by decide):
  wpAny (aQ X.prog X.w) X.A (noteFrame ex X.env) (λ_ s₂=>wpAny (aQ X.prog X.w) X.A (setFlight ex none) (λ_ s₃=>wpAny (aQ X.prog X.w) X.A (handleBy ex X.env [.ExceptHandler (some (.Name xc np)) (some n) (b0::suite) p3]) (SP X pins D) X.xe s₃) X.xe s₂) X.xe s':=by
 obtain⟨x,T,H',rfl,tr,nx,nT,hx,hT,os,bare,un,hok,hEE⟩:=hq
 subst henv
 obtain⟨hh,g,d,tk,os'⟩:=s'
 have J:=I2.call' (ch:=[]) os un hok bare (λb z=>absurd z (by simp))
 have hstk:=J.stack
 rw[hst]at hstk
 have hfr:X.A.frames=some (X.env::outer):=by rw[J.ok.frames,hst]
 refine FD (base:=X.base) hfr hstk tr λh' hL=> ?_
 obtain⟨⟨T',tr',hT'⟩,k1,k2⟩:=hL
 rw[<-hst]at k1 k2
 have hTn:H' T'=none/\s1.heap.get? T'=none:=by
  rcases hT' with hT'|hT'
  ·cases aA.mp hT'
   exact⟨hT,nT⟩
  ·refine⟨hok.none_of hT',?_⟩
   cases q0:s1.heap.get? T' with
   |none=>rfl
   |some o=>
    obtain⟨o',q'⟩:=un.there T' o q0 (by simp)
    rw[hT']at q';cases q'
 have un2:Un (lq X.stack) [] H1 H' s1.heap h':=yF (S:=[T]) un nx (λt ht=>by cases aA.mp ht;exact nT) k1 λb o hb _ _ q0=>k2 b o hb q0
 have hok2:HOk X.prog X.w H' h':=ww (S:=[T]) hok hx (λt ht=>by cases aA.mp ht;exact hT) J.stkFree k1
 have J2:=I2.call' (s':=⟨h',g,d,tk,os'⟩) (ch:=[]) os un2 hok2 bare (λb z=>absurd z (by simp))
 obtain⟨bm,ns,nm,qn,bs,hd,sn,sub,ab,col,dd,c0,c1,c2,c3,c5,mN,e1,e2,e3,e4⟩:=oY I2.ok.mod.kin q
 obtain⟨bm',ns',nm',qn',bs',hd',sn',sub',ab',col',dd',c0',c1',c2',c3',c5',mN',e1',e2',e3',e4'⟩:=oY I2.ok.mod.kin qg
 have hin:(aE C::bm).contains (.ref G)=true:=by
  unfold mf at hup
  split at hup
  ·rename_i ho
   have:=I2.ok.mod.kin _ _ ho
   rw[e1]at this
   injection this with this
   injection this with _ _ h3 _
   injection h3 with h3
   rw[<-h3]at hup
   exact hup
  ·cases hup
 refine wpAny_handleBy_cons (codeAny_handlers_test ?_) (by intro z;cases z)
 refine jD J2.ok.kind hgc (wW (by rw[J2.ok.glob];exact J2.mod.glob.keeps J2.bk) hmc ?_) hdc
 obtain⟨oe,vs',oT,ts,he1,he2,he3,he4,he5,he6,he7,he8⟩:=id tr'
 refine rq (J2.bk _ _ e1) (J2.bk _ _ e1') he1 he2 (e4'.hasType (by decide)) hin ?_
 refine codeAny_handlers_suite_as (AQ (s:=⟨h',g,d,tk,os'⟩) tr' λh'' k3=> ?_)
 have un3:Un (lq X.stack) [] H1 H' s1.heap h'':=yF (S:=[T']) un2 nx (λt ht=>by cases aA.mp ht;exact hTn.2) (λb o _ _ hS q0=>k3 b o (by simpa using hS) q0) λb o _ _ hS q0=>⟨o.slots,k3 b o (by simpa using hS) q0⟩
 have hok3:HOk X.prog X.w H' h'':=ww (S:=[T']) hok2 hx (λt ht=>by cases aA.mp ht;exact hTn.1) J.stkFree λb o _ _ hS q0=>k3 b o (by simpa using hS) q0
 have J3:=I2.call' (s':=⟨h'',g,d,tk,os'⟩) (ch:=[]) os un3 hok3 bare (λb z=>absurd z (by simp))
 have hxe:h''.get? x=some oe:=k3 x oe (aG he5) he1
 have un4:Un (lq X.stack) [] H1 (upd H' x (wz x C)) s1.heap h'':=⟨un3.keep,un3.slot,λb o q n hb=>by rw[bD (λz=>by rw[z,nx]at q;cases q)];exact un3.free b o q n hb,un3.there,
  λb xs q=>by rw[bD (cr (un3.tups b xs q) hx)];exact un3.tups b xs q,λb o u q=>by rw[bD (cr (un3.frzs b o u q) hx)];exact un3.frzs b o u q,λb ps q=>by
   obtain⟨qs,e⟩:=un3.tbls b ps q
   exact⟨qs,by rw[bD (cr e hx)];exact e⟩⟩
 have hok4:HOk X.prog X.w (upd H' x (wz x C)) h'':=hok3.laidN (λ_ _ z=>z) hx ⟨⟨oe,hxe,he2⟩,⟨_,hxe⟩,XAt.stay⟩
 have J4:=I2.call' (s':=⟨h'',g,d,tk,os'⟩) (ch:=[]) os un4 hok4 bare (λb z=>absurd z (by simp))
 have ok:=I2.ok
 refine kD J4 hN hj (.inl hl) (v:= .ref x) rfl (λs4 J5=> ?_) (.inr hl)
 refine bj (hs x pins s4 _ _ (D.drop j) (J5.inX (.ref x)) (hE H' x hEE un.tups un.frzs hx)) (λf s5 h5=> ?_) λ_ _ z=>z.elim
 cases f with
 |next=>obtain⟨σ',H5,I5,q5⟩:=h5;exact(I5.outX ok).gone hN hj hl λs6 I6=>⟨_,H5,I6,q5⟩
 |brk=>obtain⟨σ',H5,I5,q5⟩:=h5;exact(I5.outX ok).gone hN hj hl λs6 I6=>⟨_,H5,I6,q5⟩
 |cont=>obtain⟨σ',H5,I5,q5⟩:=h5;exact(I5.outX ok).gone hN hj hl λs6 I6=>⟨_,H5,I6,q5⟩
 |ret u=>obtain⟨v,σ',H5,I5,r5,q5⟩:=h5;exact(I5.outX ok).gone hN hj hl λs6 I6=>⟨v,_,H5,I6,r5,q5⟩
end
noncomputable def HJ(sp:Sp)(t:TA)(C:Addr)(j:Nat)(tb:TS):TS:=λD σ H=>t σ H λvs H1=>sp vs H1 (λ_ H2=>D.nx σ H2) λ_ _ H2=>(∀b xs,H1 b=some (.tup xs)->H2 b=some (.tup xs))->(∀b o u,H1 b=some (.frz o u)->H2 b=some (.frz o u))->∀x,H2 x=none->tb (D.drop j) (σ.set j (some (.ref x))) (upd H2 x (wz x C))
theorem Cd{X:Cx}{C G:Addr}{k j:Nat}{f:Addr}{fd:aW}{ps:List Str}{sp:Sp}{xf xc n:Str}{p pos np p1 p3 p4:Pos}{e:Expr}{es:List Expr}{t:TA}{b0:Stmt}{suite:List Stmt}{tb:TS}{env:Env}{outer:List Env}(hst:X.stack=env::outer)(henv:X.env=env)
  (F:FnOk X.prog X.w X.K X.mg X.base (n9 X.prog X.w C) k f fd ps sp) (hr:Room k X.A) (hg:Gl X xf) (hm:X.mg xf=some (.ref f)) (hk:PySem.W.keepIn X.K (.ref f)=true) (hb:Binds X.K fd ps [])
  (q:PySem.W.excIn X.K C A6 "ValueError.__new__" =true) (qg:PySem.W.excIn X.K G A6 "ValueError.__new__" =true) (hup:mf X.K C G=true) (hgc:Gl X xc) (hmc:X.mg xc=some (.ref G)) (hN:X.N.Nodup) (hj:X.N[j]? =some n) (hl:X.env.scope.names.lookup n=some .local)
  (ha:PA X.nox (e::es) t) (hs:∀x:Addr,PSs (X.inX (.ref x)) (b0::suite) tb) (hdb:(xf==("__debug__" :Str))=false:=by decide) (hdc:(xc==("__debug__" :Str))=false:=by decide)
  (he:au (e::es) X.env=(false,eval e X.env)::au es X.env:=by rfl) (hpl:(bT pos (au es X.env)).any (·.1)=false:=by rfl) (hsw:gQ (.Call (.Name xf p) (e::es) [] pos) none p1.line X.env=pure false:=by rfl):
  PS X (.Try [.Expr (.Call (.Name xf p) (e::es) [] pos) p1] [.ExceptHandler (some (.Name xc np)) (some n) (b0::suite) p3] [] [] p4) (HJ sp t C j tb):=by
 intro pins s σ H D I h
 refine wpAny_Try_except ?_
 refine wpAny_execs_cons (wpAny_Expr_any ?_ I.quiet hsw)
 refine fO (nr I hg hm ?_ hdb)
 refine PySem.W.callWith_K (h₀:=X.base) I.ok.mod.kin hk (bj (ha pos pins s σ H _ (I.wish _) h) (λus s1 h1=> ?_) λ_ _ z=>z.elim) he hpl
 obtain⟨vs,H1,I1,r,q1⟩:=h1
 have I2:=I1.unwish
 refine⟨I2.kIn,?_⟩
 have hl':(us++[]).length=ps.length:=by rw[dS,<-r.length];exact F.len _ _ _ _ q1
 refine wpAny_call (nM (F.run X.A X.stack s1 H1 ⟨us,[]⟩ (us++[]) vs _ _ hr I2.env0 (hb s1 us I2.kIn hl') (by rw[dS];exact r) q1) λres s' hq=> ?_)
 cases res with
 |ok fl=>
  cases fl with
  |ret u=>
   obtain⟨v,H',I',_,q'⟩:=I2.after hq
   exact ij (ij ⟨σ,H',I',q'⟩)
  |next=>exact bQ hq
  |brk=>exact bQ hq
  |cont=>exact bQ hq
 |error ex=>
  have hq':n9 X.prog X.w C X.stack H1 s1 (λ_ _ H2=>(∀b xs,H1 b=some (.tup xs)->H2 b=some (.tup xs))->(∀b o u,H1 b=some (.frz o u)->H2 b=some (.frz o u))->∀x,H2 x=none->tb (D.drop j) (σ.set j (some (.ref x))) (upd H2 x (wz x C))) ex s':=hq
  exact AV hst henv I2 hq' q qg hup hgc hmc hN hj hl (λH' x hE tt ff hx=>hE tt ff x hx) hs hdc
end L2
namespace L3
open PySem L2 PySem.Spec PyProof.Rows
noncomputable abbrev D2.drop(D:D2)(j:Nat):D2:={nx:=λτ G=>D.nx (st τ j none) G,rt:=D.rt,bk:=λτ G=>D.bk (st τ j none) G,ct:=λτ G=>D.ct (st τ j none) G}
theorem RSt.drop{K:PySem.W.Frag}{H:Hp}{σ:L2.St}{τ:iS}(r:RSt K H σ τ)(j:Nat):RSt K H (σ.set j none) (st τ j none):=by
 rw[xt]
 refine⟨by simp[r.1],λi q e=> ?_⟩
 by_cases hj:j=i
 ·subst hj
  have hi:j<τ.length:=by
   have:=(am.mp e).1
   simpa using this
  rw[cI hi]at e
  cases e
 ·rw[cq hj]at e⊢
  exact r.2 i q e
theorem ClD.drop{K:PySem.W.Frag}{H:Hp}{D:L3.D2}{D':Ends}(c:ClD K H D D')(j:Nat):ClD K H (D.drop j) (D'.drop j):=
 ⟨λτ G σ H' q r rp k=>c.nx _ _ _ _ q (r.drop j) rp k,c.rt,λτ G σ H' q r rp k=>c.bk _ _ _ _ q (r.drop j) rp k,λτ G σ H' q r rp k=>c.ct _ _ _ _ q (r.drop j) rp k⟩
noncomputable abbrev HY(sp:Er)(t:A2)(C:Addr)(j:Nat)(tb:S2):S2:=λD τ G=>t τ G λps G1=>sp ps G1 (λ_ G2=>D.nx τ G2) λG2=>∀x,G2 x=none->tb (D.drop j) (st τ j (some (.ref x))) (up G2 x (.exc C))
theorem nv{X:Cx}{C G:Addr}{k k' j:Nat}{f:Addr}{fd:aW}{ps:List Str}{sp:Er}{xf xc n:Str}{p pos np p1 p3 p4:Pos}{e:Expr}{es:List Expr}{t:A2}{b0:Stmt}{suite:List Stmt}{tb:S2}{outer:List Env}
  (Cl:A3 X.prog X.w X.K X.mg X.base C k xf f fd ps sp) (hr:Room k' X.A) (hk:k<=k') (q:PySem.W.excIn X.K C A6 "ValueError.__new__" =true) (qg:PySem.W.excIn X.K G A6 "ValueError.__new__" =true) (hup:mf X.K C G=true) (hmc:X.mg xc=some (.ref G)) (hN:X.N.Nodup)
  (ha:JA X.nox (e::es) t) (hs:∀x:Addr,JB (X.inX (.ref x)) (b0::suite) tb) (hj:X.N[j]? =some n:=by rfl) (hl:X.env.scope.names.lookup n=some .local:=by rfl) (hst:X.stack=X.env::outer:=by rfl)
  (hg:Gl X xf:=by rfl) (hgc:Gl X xc:=by rfl) (hdb:(xf==("__debug__" :Str))=false:=by decide) (hdc:(xc==("__debug__" :Str))=false:=by decide)
  (he:au (e::es) X.env=(false,eval e X.env)::au es X.env:=by rfl) (hpl:(bT pos (au es X.env)).any (·.1)=false:=by rfl) (hsw:gQ (.Call (.Name xf p) (e::es) [] pos) none p1.line X.env=pure false:=by rfl):
  JS X (.Try [.Expr (.Call (.Name xf p) (e::es) [] pos) p1] [.ExceptHandler (some (.Name xc np)) (some n) (b0::suite) p3] [] [] p4) (HY sp t C j tb):=⟨λpins s1 σ H1 D I h=>by
 obtain⟨τ,G1,D2,rs,rp,q2,cl⟩:=h
 refine Cd (tb:=Dh X.K tb) hst rfl (Cl.ok.mono hk) hr hg Cl.m Cl.kp Cl.b q qg hup hgc hmc hN hj hl ha.h (λx=>(hs x).h) hdb hdc he hpl hsw pins s1 σ H1 D I ⟨τ,G1,_,rs,rp,q2,λps G2 vs H2 q3 d3 r3 k3=> ?_⟩
 refine⟨ps,G2,_,_,d3,r3,q3,λv G3 v' H3 q4 _ r4 k4=>cl.nx _ _ _ _ q4 (rs.keep (k3.trans k4)) r4 (k3.trans k4),λG3 H3 q4 r4 tt ff x hx=> ?_⟩
 have k4:Keep X.K H2 H3:=FQ tt ff
 have k5:Keep X.K H3 (upd H3 x (wz x C)):=cg hx
 have k6:=(k3.trans k4).trans k5
 refine⟨_,_,D2.drop j,(rs.keep k6).set (p:= .ref x) (v:= .ref x) rfl j,r4.upd k5 (λa o e ne=>by rw[aH ne]at e;exact e) (λo e=>by rw[aj]at e;cases e;exact cw),q4 x (r4.none hx),((cl.drop j).keep k6)⟩⟩
noncomputable def AL(K:PySem.W.Frag):C2:=λps G Q=>match ps with
 |[.ref x,.ref c]=>∃D b,G x=some (.exc D)/\sA K D/\PySem.W.kitOne K (.ref D) (.ref c)=some b/\Q (.bl b) G
 |[.ref x,.ty T]=>∃D b,G x=some (.exc D)/\sA K D/\PySem.W.kitOne K (.ref D) (.type T)=some b/\Q (.bl b) G
 |[.ref x,.tup cs]=>∃(D:Addr) (az:List Addr) (b:Bool),cs=az.map PV.ref/\G x=some (.exc D)/\sA K D/\PySem.W.kitAny K (.ref D) (az.map aE)=some b/\Q (.bl b) G
 |_=>False
theorem zg{K:PySem.W.Frag}{H:Hp}:∀{az:List Addr} {vs:List V} {us:List ae},Dvs K H (az.map PV.ref) vs->Vals vs us->us=az.map aE
 |[],vs,us,d,r=>by
  obtain rfl:vs=[]:=d
  cases r;rfl
 |a::az,vs,us,d,r=>by
  obtain⟨v,vr,rfl,d1,d2⟩:=d
  obtain rfl:v= .ref a:=d1
  cases r with
  |cons r1 r2=>
   cases r1
   rw[zg d2 r2];rfl
section
variable{X:Cx}{a b e:Expr}{t:A2}{es:List Expr}{p pos:Pos}
theorem M3:iF X (.builtin "isinstance") (qT X.K (AL X.K)):=by
 intro pins s σ H xs us Q I rs h
 obtain⟨ps,G,Q2,d,rp,h,cl⟩:=h
 unfold AL at h
 split at h
 ·rename_i x c
  obtain⟨v,vr,rfl,d1,v2,vr2,rfl,d2,d3⟩:=d
  obtain rfl:vr2=[]:=d3
  obtain rfl:v= .ref x:=d1
  obtain rfl:v2= .ref c:=d2
  obtain⟨D,b,hG,hx,hk,q⟩:=h
  exact nQ pins s σ H _ us Q I rs ⟨x,D,.ref c,.ref c,b,rfl,rp x _ hG,hx,rfl,hk,cl _ _ _ _ q rfl rp .refl⟩
 ·rename_i x T
  obtain⟨v,vr,rfl,d1,v2,vr2,rfl,d2,d3⟩:=d
  obtain rfl:vr2=[]:=d3
  obtain rfl:v= .ref x:=d1
  obtain rfl:v2= .ty T:=d2
  obtain⟨D,b,hG,hx,hk,q⟩:=h
  exact nQ pins s σ H _ us Q I rs ⟨x,D,.ty T,.type T,b,rfl,rp x _ hG,hx,rfl,hk,cl _ _ _ _ q rfl rp .refl⟩
 ·rename_i x cs
  obtain⟨v,vr,rfl,d1,v2,vr2,rfl,d2,d3⟩:=d
  obtain rfl:vr2=[]:=d3
  obtain rfl:v= .ref x:=d1
  obtain⟨a,ws,rfl,hs,dw⟩:=d2
  obtain⟨D,az,b,rfl,hG,hx,hk,q⟩:=h
  obtain⟨u,u2,rfl,ru,ru2⟩:=rs.two
  cases ru
  cases ru2
  obtain⟨its,rv,⟨o,ho,hc,n,hd⟩,_⟩:=I.tuple hs
  have hE:=rp x _ hG
  have pX:XAt x D s.heap:=(I.hok x _ hE).1
  have ei:=zg dw rv
  subst ei
  obtain⟨oc,odd,oda,osl⟩:=o
  dsimp only at hc hd
  subst hc hd
  exact PySem.W.kia_tup (wg hx) I.kIn pX ho hk (λz=>nomatch z) λtk=>⟨.bl b,H,I.tok tk,rfl,cl _ _ _ _ q rfl rp .refl⟩
 ·exact h.elim
theorem Dx(B:BN X.mg)(ha:JA X (e::es) t)(hg:Gl X "isinstance" :=by rfl)(he:au (e::es) X.env=(false,eval e X.env)::au es X.env:=by rfl)(hpl:(bT pos (au es X.env)).any (·.1)=false:=by rfl):JE X (.Call (.Name "isinstance" p) (e::es) [] pos) (uU (AL X.K) t):=ll M3 B.isinstance pD ha hg (by decide) (by decide) he hpl
theorem JR{x:Str}{c:Addr}(hm:X.mg x=some (.ref c))(hg:Gl X x:=by rfl)(hd:(x==("__debug__" :Str))=false:=by decide):JE X (.Name x pos) (eC (.ref c)):=DA (v:= .ref c) hm rfl (λ_=>rfl) hg hd
theorem GQ:cA "ValueError" =some (.type "ValueError"):=by decide+kernel
theorem L5(hm:X.mg "ValueError" =none)(hg:Gl X "ValueError" :=by rfl):JE X (.Name "ValueError" pos) (eC (.ty "ValueError")):=L9 hm GQ hg
end
end L3
namespace L2
open PySem PySem.Spec PyProof.Rows
noncomputable def OA(a:Addr)(o:Obj)(kvs:List (Key×V)):It:=
 ⟨λi H=>H a=some (.frz o (.dK kvs))/\i<kvs.length,λi H x H'=>H'=H/\∃k v,kvs[i]? =some (k,v)/\x=kV k,λi H=>H a=some (.frz o (.dK kvs))/\kvs.length<=i⟩
theorem Dk{P:aJ}{w:aV}{k:Key}{u:ae}(h:(mixKind P w).is k u=true):RelV (kV k) u:=by
 rcases dQ h with⟨i,t,rfl,rfl⟩|⟨x,t,rfl,rfl⟩
 ·exact⟨t,rfl⟩
 ·exact⟨t,rfl⟩
theorem DM{P:aJ}{w:aV}{H:Hp}{h:Heap}{a:Addr}{o:Obj}{kvs:List (Key×V)}{es:Array DictEntry}{ep:Nat}(ok:HOk P w H h)(e:H a=some (.frz o (.dK kvs)))(he:o.data= .dict es ep):∃vs,KV kvs vs/\h.DictAt (mixKind P w) a vs ep:=by
 obtain⟨hg,z,_,vs,kv,dd⟩:=(show ObjOk P w H h a (.frz o (.dK kvs))from ok a _ e)
 refine⟨vs,kv,?_⟩
 obtain⟨o',es',ep',h1,h2,h3,h4⟩:=dd
 rw[hg]at h1;cases h1
 rw[he]at h3;cases h3
 exact⟨o,es,hg,h2,he,h4⟩
theorem zX{P:aJ}{w:aV}{K:PySem.W.Frag}{tg:Expr}(a it:Addr){o:Obj}{kvs:List (Key×V)}{es:Array DictEntry}{ep:Nat}(he:o.data= .dict es ep):sr P w K tg (OA a o kvs) [it] it (λi h=>h.IsKeyIter it a i kvs.length ep) where
 mem:=by simp
 obj:=λi h st b hb=>by
  have e:b=it:=by simpa using hb
  subst e
  obtain⟨o,e,c,d⟩:=st
  exact⟨o,e,λv z=>by rw[d]at z;cases z⟩
 keep:=λi h h' st k=>by
  obtain⟨o,e,c,d⟩:=st
  exact⟨o,k it (by simp) o e,c,d⟩
 item:=by
  intro X hP hw hK hc i pins s σ H E I hf st hg
  subst hP hw hK
  obtain⟨hq,hx⟩:=hg
  obtain⟨vs,kv,dd⟩:=DM I.hok hq he
  have hl:=kv.length
  obtain⟨f0,f1,f2,f3,f4,f5⟩:=hf it (by simp)
  have hx':i<vs.length:=by ac_nf
  have e1:vs[i]? =some (vs[i].1,vs[i].2):=by rw[al hx']
  have e2:kvs[i]? =some (kvs[i].1,kvs[i].2):=by rw[al hx]
  have e3:kvs[i].1=vs[i].1:=by
   have:=congrArg (λl=>l[i]?) kv.keys
   simp only[aC,e1,e2,Option.map_some]at this
   exact bf this
  refine wpAny_pyNext_dict_item (by rw[<-hl];exact st) dd e1 λkey h' hk st' sb=> ?_
  have I1:Inv X pins σ H {s with heap:=h'}:=I.turned (t':=s.toks) (λb o hb e=>(sb.2 b hb).trans e) f0 f1 f3 f4 f5
  obtain⟨o,e,c,d⟩:=id st'
  exact⟨key,rfl,wx (s:={s with heap:=h'}) e c d (by decide) ⟨_,H,I1,Dk hk,⟨rfl,_,_,e2,by rw[e3]⟩,by rw[hl];exact st',λb hb=>(hf b hb).1⟩⟩
 done:=by
  intro X hP hw hK hc i pins s σ H E I hf st hg
  subst hP hw hK
  obtain⟨hq,hx⟩:=hg
  obtain⟨vs,kv,dd⟩:=DM I.hok hq he
  have hl:=kv.length
  obtain⟨f0,f1,f2,f3,f4,f5⟩:=hf it (by simp)
  exact wpAny_pyNext_dict_end (I.ok.hd hc) (by rw[<-hl];exact st) dd (cO (by ac_nf)) λh' eb=>⟨rfl,I.turned (t':=s.toks) (λb o hb e=>eb b o hb e) f0 f1 f3 f4 f5⟩
 self:=λA i s Q E st h=>by
  exact wpAny_pyIter_slot st.typeIs wO (cY wO st.typeIs F.entry_dict_keyiterator_iter (aq ⟨_,rfl, "dict_keyiterator",_,st.typeIs,F.slot_dict_keyiterator_next.lookup,h⟩) (F.args_dict_keyiterator_iter_1 _))
noncomputable def Ol(tl:TE):TI:=λσ H R=>tl σ H λx H1=>∃a kvs,x= .ref a/\Rd H1 a (.dK kvs)/\∀o H2,H2 a=some (.frz o (.dK kvs))->(H2=H1\/H1 a=some (.dK kvs)/\H2=upd H1 a (.frz o (.dK kvs)))->R (OA a o kvs) H2
theorem Fb{X:Cx}{tg l:Expr}{tl:TE}(hl:PE X l tl):PI X tg l (Ol tl):=by
 intro pins s σ H R I h
 refine eD (hl pins s σ H _ I h) λv s1 hPl=> ?_
 obtain⟨x,H1,I1,r1,q1⟩:=hPl
 obtain⟨a,kvs,e,hq,q⟩:=q1
 subst e
 cases r1
 obtain⟨z,hd,vs,kv,dd⟩:=pA I1.hok hq
 have hlen:=kv.length
 obtain⟨o,es,ep,h1,h2,h3,h4⟩:=id dd
 have hdt:s1.heap.DictAt (mixKind X.prog X.w) a vs ep:=⟨o,es,h1,h2,h3,h4⟩
 have key:∃H2,Inv X pins σ H2 s1/\H2 a=some (.frz o (.dK kvs))/\(H2=H1\/H1 a=some (.dK kvs)/\H2=upd H1 a (.frz o (.dK kvs))):=by
  rcases hq with hq|⟨o',hq⟩
  ·refine⟨_,nH (h':=s1.heap) (t':=s1.toks) I1 (by rw[hq];exact cE) ⟨rfl,λ_ _=>rfl⟩ ⟨o,h1⟩ (ob:= .frz o (.dK kvs)) ⟨h1,uW z hd kv dd⟩,cw,.inr ⟨hq,rfl⟩⟩
  ·have:o'=o:=by
    obtain⟨hg,_⟩:=(show ObjOk X.prog X.w H1 s1.heap a (.frz o' (.dK kvs))from I1.hok a _ hq)
    rw[h1]at hg;exact(bf hg).symm
   subst this
   exact⟨H1,I1,hq,.inl rfl⟩
 obtain⟨H2,I2,e2,w2⟩:=key
 refine ud hd hdt ?_
 refine⟨s1.heap.objs.size,[s1.heap.objs.size],_,_,H2,rfl,I2.kept (t':=s1.toks) λb o e=>af _ e,zX a _ h3,⟨_,aK _ rfl,rfl,by simp[hlen]⟩,λb hb=> ?_,q o H2 e2 w2⟩
 have e:b=s1.heap.objs.size:=by simpa using hb
 subst e
 exact I2.fpOk (ao _) (I2.hok.fresh (ao _))
end L2
namespace L3
open PySem L2
theorem yg{K:PySem.W.Frag}{H:Hp}:∀{ps:List (Key×PV)} {vs:List (Key×V)},DKv K H ps vs->ps.map (·.1)=vs.map (·.1)
 |[],vs,h=>by obtain rfl:vs=[]:=h;rfl
 |(x,p)::ps,vs,h=>by
  obtain⟨v,r,rfl,d,z⟩:=h
  rw[aw,aw,yg z]
noncomputable def wt(t:E2):su:=λτ G R=>t τ G λp G1=>match p with
 | .ref a=>match G1 a with
  |some (.dK kvs)=>R (kvs.map λkv=>kP kv.1) (λG=>G a=some (.rd kvs)) (up G1 a (.rd kvs))
  |some (.rd kvs)=>R (kvs.map λkv=>kP kv.1) (λG=>G a=some (.rd kvs)) G1
  |_=>False
 |_=>False
theorem wj{K:PySem.W.Frag}{H:Hp}{a:Addr}{o:Obj}{kvs:List (Key×V)}(h:H a=some (.dK kvs)):Keep K H (L2.upd H a (.frz o (.dK kvs))):=lj h
theorem x9{K:PySem.W.Frag}{H1:Hp}{a:Addr}{o:Obj}{vs:List (Key×V)}{kvs:List (Key×PV)}(e:H1 a=some (.frz o (.dK vs)))(d:DKv K H1 kvs vs):wN K H1 (OA a o vs) (kvs.map λkv=>kP kv.1) (λG=>G a=some (.rd kvs)):=by
 intro i H G kp rp hc
 have e':=kp.2 _ _ _ e
 have hl:=d.length
 refine⟨λh=>⟨e',by simp at h;ac_nf⟩,λh=>⟨e',by simp at h;ac_nf⟩,λx H' hi hy=> ?_⟩
 obtain⟨rfl,k,v,ek,rfl⟩:=hy
 have hk:(kvs.map (·.1))[i]? =some k:=by rw[yg d,aC,ek];rfl
 refine⟨kP k,?_,.refl,rp,LQ k⟩
 have:(kvs.map λkv=>kP kv.1)=(kvs.map (·.1)).map kP:=by rw[bx];rfl
 rw[this,aC,hk];rfl
theorem uJ{X:Cx}{tg l:Expr}{t:E2}(hl:JE X l t):JI X tg l (wt t):= .of (Fb hl.h) λσ H R hPl=>by
 obtain⟨τ,G,R2,rs,rp,q,cl⟩:=hPl
 refine⟨τ,G,_,rs,rp,q,λp G1 v H1 q1 d1 r1 k1=> ?_⟩
 cases p with
 |ref a=>
  obtain rfl:v= .ref a:=d1
  cases eg:G1 a with
  |none=>simp only[eg]at q1
  |some o=>
   cases o with
   |dK kvs=>
    simp only[eg]at q1
    obtain⟨vs,hH,dv⟩:=r1.dK eg
    refine⟨a,vs,rfl,.inl hH,λob H2 e2 w2=> ?_⟩
    rcases w2 with rfl|⟨_,rfl⟩
    ·rw[hH]at e2;cases e2
    ·have kk:Keep X.K H1 (L2.upd H1 a (.frz ob (.dK vs))):=wj hH
     have r2:Rep X.K (L2.upd H1 a (.frz ob (.dK vs))) (up G1 a (.rd kvs)):=by
      refine r1.upd kk (λb o e ne=>by rw[aH ne]at e;exact e) λo e=> ?_
      rw[aj]at e;cases e
      exact⟨vs,.inr ⟨ob,cw⟩,dv.keep kk⟩
     exact cl _ _ _ _ _ q1 r2 (k1.trans kk) (x9 cw (dv.keep kk))
   |rd kvs=>
    simp only[eg]at q1
    obtain⟨vs,hH,dv⟩:=r1 a _ eg
    refine⟨a,vs,rfl,hH,λob H2 e2 w2=> ?_⟩
    rcases w2 with rfl|⟨hD,rfl⟩
    ·exact cl _ _ _ _ _ q1 r1 k1 (x9 e2 dv)
    ·have kk:Keep X.K H1 (L2.upd H1 a (.frz ob (.dK vs))):=wj hD
     have r2:Rep X.K (L2.upd H1 a (.frz ob (.dK vs))) G1:=by
      refine r1.upd kk (λb o e ne=>e) λo e=> ?_
      rw[eg]at e;cases e
      exact⟨vs,.inr ⟨ob,cw⟩,dv.keep kk⟩
     exact cl _ _ _ _ _ q1 r2 (k1.trans kk) (x9 cw (dv.keep kk))
   |_=>simp only[eg]at q1
 |_=>exact q1.elim
@[reducible] noncomputable def j7 (G:Gp) (a:Addr):Option (List (Key×PV)):=match G a with
 |some (.dK kvs)=>some kvs
 |some (.rd kvs)=>some kvs
 |_=>none
theorem jR{G:Gp}{a:Addr}{kvs:List (Key×PV)}(h:G a=some (.dK kvs)):j7 G a=some kvs:=by unfold j7;rw[h]
theorem nJ{G:Gp}{a:Addr}{kvs:List (Key×PV)}(h:G a=some (.rd kvs)):j7 G a=some kvs:=by unfold j7;rw[h]
theorem Rep.dR{K:PySem.W.Frag}{H:Hp}{G:Gp}{a:Addr}{kvs:List (Key×PV)}(r:Rep K H G)(e:j7 G a=some kvs):∃vs,Rd H a (.dK vs)/\DKv K H kvs vs:=by
 cases eg:G a with
 |none=>simp[j7,eg]at e
 |some o=>
  cases o with
  |dK k'=>
   simp[j7,eg]at e;subst e
   obtain⟨vs,h,d⟩:=r a _ eg
   exact⟨vs,.inl h,d⟩
  |rd k'=>simp[j7,eg]at e;subst e;exact r a _ eg
  |_=>simp[j7,eg]at e
noncomputable def Gq:B2:=λp q G Q=>match p with
 | .ref a=>match j7 G a,uH q with
  |some kvs,some k=>match g8 kvs k with
   |some v=>Q v G
   |none=>False
  |_,_=>False
 |_=>False
theorem lO{a:Addr}{G:Gp}{q v:PV}{kvs:List (Key×PV)}{k:Key}{Q:K2}(h:j7 G a=some kvs)(hk:uH q=some k)(hv:g8 kvs k=some v)(hq:Q v G):Gq (.ref a) q G Q:=by
 unfold Gq
 simp only[h,hk,hv]
 exact hq
noncomputable def Gz(x y z:PV)(G:Gp)(Q:K2):Prop:=match x with
 | .ref a=>match j7 G a,uH y with
  |some kvs,some k=>Q ((g8 kvs k).getD z) G
  |_,_=>False
 |_=>False
theorem uO{a:Addr}{G:Gp}{q z:PV}{kvs:List (Key×PV)}{k:Key}{Q:K2}(h:j7 G a=some kvs)(hk:uH q=some k)(hq:Q ((g8 kvs k).getD z) G):Gz (.ref a) q z G Q:=by
 unfold Gz
 simp only[h,hk]
 exact hq
noncomputable def Kb(x:PV)(G:Gp):Prop:=∃a kvs,x= .ref a/\j7 G a=some kvs
theorem rb{a:Addr}{G:Gp}{kvs:List (Key×PV)}(h:j7 G a=some kvs):Kb (.ref a) G:=⟨a,kvs,rfl,h⟩
noncomputable abbrev MK(td te tf:E2):E2:=λτ G Q=>td τ G λx G1=>Kb x G1/\te τ G1 λy G2=>tf τ G2 λz G3=>Gz x y z G3 Q
noncomputable def zI(p:Addr)(x y:PV)(G:Gp)(Q:K2):Prop:=match uH x with
 |some k=>G p=some (.dK [])/\Q (.ref p) (up G p (.dK [(k,y)]))
 |none=>False
noncomputable abbrev MM(tk tv:E2):E2:=λτ G Q=>∀p,G p=none->tk τ (up G p (.dK [])) λx G1=>tv τ G1 λy G2=>zI p x y G2 Q
section
variable{X:Cx}{d e f:Expr}{td te tf:E2}{pos apos cpos p:Pos}
theorem x8(hu:X.A.units+200<iG)(hd:JE X d td)(he:JE X e te)(hs:KG e:=by exact λ_ _=>rfl):JE X (.Subscript d e pos) (iP Gq td te):=
 .of (Fh (by ac_nf) hd.h he.h hs) λσ H Q hPl=>by
  obtain⟨τ,G,Q2,rs,rp,q,cl⟩:=hPl
  refine⟨τ,G,_,rs,rp,q,λp1 G1 v1 H1 q1 d1 r1 k1=>⟨τ,G1,_,rs.keep k1,r1,q1,λp2 G2 v2 H2 q2 d2 r2 k2=> ?_⟩⟩
  unfold Gq at q2
  split at q2
  ·rename_i a
   split at q2
   ·rename_i kvs k eg ek
    split at q2
    ·rename_i v ev
     obtain rfl:v1= .ref a:=d1
     obtain rfl:=uG ek d2
     obtain⟨vs,hv,dv⟩:=r2.dR eg
     obtain⟨u,hu,du⟩:=(dv.val k).1 v ev
     exact⟨a,u,rfl,.inl ⟨vs,k,hv,rfl,hu.symm⟩,cl _ _ _ _ q2 du r2 (k1.trans k2)⟩
    ·exact q2.elim
   ·exact q2.elim
  ·exact q2.elim
theorem JV(hu:X.A.units+200<iG)(hd:JE X d td)(he:JE X e te)(hf:JE X f tf)(m:L2.M2 X d "get" apos e f cpos:=by exact⟨rfl,rfl,rfl,rfl⟩):JE X (.Call (.Attribute d "get" apos) [e,f] [] cpos) (MK td te tf):=
 .of (Co (by ac_nf) hd.h he.h hf.h m) λσ H Q hPl=>by
  obtain⟨τ,G,Q2,rs,rp,q,cl⟩:=hPl
  refine⟨τ,G,_,rs,rp,q,λp1 G1 v1 H1 q1 d1 r1 k1=> ?_⟩
  obtain⟨⟨a,kvs,rfl,ea⟩,q1⟩:=q1
  obtain rfl:v1= .ref a:=d1
  obtain⟨vs,hv,dv⟩:=r1.dR ea
  refine⟨a,rfl,.inl ⟨vs,hv⟩,τ,G1,_,rs.keep k1,r1,q1,λp2 G2 v2 H2 q2 d2 r2 k2=>⟨τ,G2,_,rs.keep (k1.trans k2),r2,q2,λp3 G3 v3 H3 q3 d3 r3 k3=> ?_⟩⟩
  unfold Gz at q3
  dsimp only at q3
  split at q3
  ·rename_i kvs' k eg ek
   obtain rfl:=uG ek (d2.keep k3)
   obtain⟨vs',hv',dv'⟩:=r3.dR eg
   refine⟨_,.inl ⟨vs',k,hv',rfl,rfl⟩,cl _ _ _ _ q3 ?_ r3 ((k1.trans k2).trans k3)⟩
   cases ev:g8 kvs' k with
   |none=>rw[(dv'.val k).2 ev];exact d3
   |some w'=>obtain⟨w2,hw,dw⟩:=(dv'.val k).1 w' ev;rw[hw];exact dw
  ·exact q3.elim
theorem Gm(he:JE X e te)(hf:JE X f tf):JE X (.Dict [some e] [f] p) (MM te tf):=
 .of (Fg (Cf he.h hf.h E1) rfl rfl (by simp) (by simp)) λσ H Q ⟨τ,G,Q2,rs,rp,q,cl⟩ a ha=>by
  have kn:Keep X.K H (L2.upd H a (.dK [])):=cg ha
  refine⟨τ,_,_,rs.keep kn,rp.newD ha (show DKv X.K H [] []from rfl),q a (rp.none ha),λp1 G1 v1 H1 q1 d1 r1 k1=>⟨τ,G1,_,rs.keep (kn.trans k1),r1,q1,λp2 G2 v2 H2 q2 d2 r2 k2=> ?_⟩⟩
  unfold zI at q2
  split at q2
  ·rename_i k ek
   obtain⟨eg,q2⟩:=q2
   obtain rfl:=uG ek (d1.keep k2)
   obtain⟨vs,hv,dv⟩:=r2.dK eg
   obtain rfl:vs=[]:=dv
   refine⟨hv,[(k,v2)],rfl,by simp,cl _ _ _ _ q2 rfl (r2.putD hv ?_) (((kn.trans k1).trans k2).trans (lj hv))⟩
   exact⟨v2,[],rfl,d2,rfl⟩
  ·exact q2.elim
end
theorem uX{a:Addr}{x y:PV}{k:Key}{G:Gp}{Q:K2}(hk:uH x=some k)(h:G a=some (.dK []))(hq:Q (.ref a) (up G a (.dK [(k,y)]))):zI a x y G Q:=by
 unfold zI;simp only[hk];exact⟨h,hq⟩
theorem yh{a:Addr}{i:Nat}{τ:iS}{G:Gp}{R:List PV->(Gp->Prop)->Gp->Prop}{kvs:List (Key×PV)}(e:gt τ i=some (.ref a))(h:G a=some (.rd kvs))(q:R (kvs.map λkv=>kP kv.1) (λG=>G a=some (.rd kvs)) G):wt (eV i) τ G R:=by
 unfold wt eV;simp only[e,h];exact q
theorem Kq{a:Addr}{i:Nat}{τ:iS}{G:Gp}{R:List PV->(Gp->Prop)->Gp->Prop}{kvs:List (Key×PV)}(e:gt τ i=some (.ref a))(h:G a=some (.dK kvs))(q:R (kvs.map λkv=>kP kv.1) (λG=>G a=some (.rd kvs)) (up G a (.rd kvs))):wt (eV i) τ G R:=by
 unfold wt eV;simp only[e,h];exact q
theorem Da{i j:Int}{G:Gp}{Q:K2}(c:CMul i j)(q:Q (.int (i*j)) G):FG (.int i) (.int j) G Q:=⟨c,q⟩
noncomputable def GW(G0 G:Gp):Prop:=∀a o,G0 a=some o->G a=some o\/∃kvs,o= .rd kvs/\G a=some (.dK kvs)
theorem GE.gw{G0 G:Gp}(h:GE G0 G):GW G0 G:=λa o e=> .inl (h a o e)
theorem Rep.weak{K:PySem.W.Frag}{H:Hp}{G0 G:Gp}(r:Rep K H G)(h:GW G0 G):Rep K H G0:=λa o e=>by
 rcases h a o e with h|⟨kvs,rfl,h⟩
 ·exact r a o h
 ·obtain⟨vs,hv,d⟩:=r a _ h
  exact⟨vs,.inl hv,d⟩
theorem GW.rd{G0 G:Gp}{a:Addr}{kvs:List (Key×PV)}(h:GE G0 G)(e:G a=some (.dK kvs)):GW (up G0 a (.rd kvs)) G:=λb o q=>by
 by_cases hb:b=a
 ·subst hb;rw[aj]at q;cases q;exact .inr ⟨kvs,rfl,e⟩
 ·rw[aH hb]at q;exact .inl (h b o q)
section
variable{P:aJ}{w:aV}{K:PySem.W.Frag}{mg:Str->Option ae}{base:Heap}
theorem GA{x qual:Str}{st:Stmt}{f:Addr}{fd:aW}{N ps:List Str}{k:Nat}{sp:iH}(F:Fun K x qual st f fd)(S:bA N ps (aL st))(len:∀vs G Q,sp vs G Q->vs.length=ps.length)
  (hbody:∀(cdv:ae) (A:Around) (outer:List Env) (s:ai) (H:Hp) (E:XK) (as:List PV) (G:Gp) (Q:K2),Room k (A.deeper (ku qual (aL st) s.heap.objs.size f cdv))->sp as G Q->
   ∃t,JB (gZ GU P w K mg base N qual (aL st) f cdv A outer s H E).nox (il st) t/\t {nx:=λ_ G'=>∃G0,GW G0 G'/\Q .non G0,rt:=λp G'=>∃G0,GW G0 G'/\Q p G0} (hJ N as) G):i9 P w K mg base (k+1) f fd ps sp:=by
 refine F.ok S (λvs H Q E h=> ?_) (λcdv A outer s H vs Q E hr h=> ?_)
 ·obtain⟨as,G,Q2,d,_,h,_⟩:=h
  rw[d.length];exact len _ _ _ h
 obtain⟨as,G,Q2,d,rp,h,cl⟩:=h
 obtain⟨t,j,q⟩:=hbody cdv A outer s H E as G Q2 hr h
 refine⟨_,j.h,hJ N as,G,_,oi d (by rw[len _ _ _ h,<-S.pre,bv];ac_nf),rp,q,⟨λτ G' σ H' ⟨G0,e0,q1⟩ _ r1 k1=>cl _ _ _ _ q1 rfl (r1.weak e0) k1,λp G' v H' ⟨G0,e0,q1⟩ d1 r1 k1=>cl _ _ _ _ q1 d1 (r1.weak e0) k1,λ_ _ _ _ q1=>q1.elim,λ_ _ _ _ q1=>q1.elim⟩⟩
end
noncomputable def Eh(f:Nat->List (Tr×Nat)):Nat->Nat->List (List Tr×Nat)
 |0,e=>[([],e)]
 |n+1,e=>((f e).flatMap λt=>(Eh f n t.2).map λu=>(t.1::u.1,u.2))++[([],e)]
theorem rj{α β:Type}{l:List α}{f g:α->List β}(h:∀x∈l,f x=g x):l.flatMap f=l.flatMap g:=by
 induction l with
 |nil=>rfl
 |cons x l ih=>rw[eW,eW,h x (by simp),ih λy hy=>h y (by simp[hy])]
mutual
noncomputable def bc(T:List Nat):Pt->Nat->List (Tr×Nat)
 | .none,_=>[]
 | .blank,e=>[(.blank,e)]
 | .sign s,e=>match T[e]? with
  |some c=>if c∈s.cps.toList then[(.sign ⟨#[c]⟩,e+1)]else[]
  |none=>[]
 | .row ps,e=>(fY T ps [([],e)]).map λs=>(.row s.1,s.2)
 | .pick ps,e=>fB T ps 0 e
 | .again p,e=>(Eh (bc T p) (T.length+1-e) e).map λs=>(.again s.1,s.2)
 | .held n p,e=>(bc T p e).map λt=>(.held n t.1,t.2)
 | .price n p,e=>(bc T p e).map λt=>(.price n t.1,t.2)
noncomputable def fY(T:List Nat):List Pt->List (List Tr×Nat)->List (List Tr×Nat)
 |[],sm=>sm
 |p::ps,sm=>fY T ps (sm.flatMap λs=>(bc T p s.2).map λt=>(s.1++[t.1],t.2))
noncomputable def fB(T:List Nat):List Pt->Nat->Nat->List (Tr×Nat)
 |[],_,_=>[]
 |p::ps,k,e=>((bc T p e).map λt=>(.pick (k:Int) t.1,t.2))++fB T ps (k+1) e
end
theorem Eg{f:Nat->List (Tr×Nat)}(h:∀e x,x∈f e->e<=x.2):∀(n e:Nat) x,x∈Eh f n e->e<=x.2
 |0,e,x,hx=>by cases aA.mp hx;exact ao _
 |n+1,e,x,hx=>by
  rcases bo.mp hx with hx|hx
  ·obtain⟨t,ht,hx⟩:=ce.mp hx
   obtain⟨u,hu,rfl⟩:=aD.mp hx
   exact aR (h e t ht) (Eg h n t.2 u hu)
  ·cases aA.mp hx;exact ao _
theorem Ef{L:Nat}{f:Nat->List (Tr×Nat)}(h:∀e,e<=L->∀x,x∈f e->x.2<=L):∀(n e:Nat),e<=L->∀x,x∈Eh f n e->x.2<=L
 |0,e,he,x,hx=>by cases aA.mp hx;exact he
 |n+1,e,he,x,hx=>by
  rcases bo.mp hx with hx|hx
  ·obtain⟨t,ht,hx⟩:=ce.mp hx
   obtain⟨u,hu,rfl⟩:=aD.mp hx
   exact Ef h n t.2 (h e he t ht) u hu
  ·cases aA.mp hx;exact he
mutual
theorem kC(T:List Nat):∀(p:Pt) (e:Nat) x,x∈bc T p e->e<=x.2
 | .none,e,x,h=>by simp[bc]at h
 | .blank,e,x,h=>by simp[bc]at h;rw[h];exact ao _
 | .sign s,e,x,h=>by
  unfold bc at h
  split at h
  ·split at h
   ·cases aA.mp h;exact gu _
   ·cases h
  ·cases h
 | .row ps,e,x,h=>by
  unfold bc at h
  obtain⟨s,hs,rfl⟩:=aD.mp h
  exact pV T ps [([],e)] e (λs hs=>by cases aA.mp hs;exact ao _) s hs
 | .pick ps,e,x,h=>by unfold bc at h;exact yK T ps 0 e x h
 | .again p,e,x,h=>by
  unfold bc at h
  obtain⟨s,hs,rfl⟩:=aD.mp h
  exact Eg (λe x hx=>kC T p e x hx) _ _ s hs
 | .held n p,e,x,h=>by
  unfold bc at h
  obtain⟨s,hs,rfl⟩:=aD.mp h
  exact kC T p e s hs
 | .price n p,e,x,h=>by
  unfold bc at h
  obtain⟨s,hs,rfl⟩:=aD.mp h
  exact kC T p e s hs
theorem pV(T:List Nat):∀(ps:List Pt) (sm:List (List Tr×Nat)) (e:Nat),(∀s∈sm,e<=s.2)->∀x,x∈fY T ps sm->e<=x.2
 |[],sm,e,hs,x,h=>by unfold fY at h;exact hs x h
 |p::ps,sm,e,hs,x,h=>by
  unfold fY at h
  refine pV T ps _ e (λs h2=> ?_) x h
  obtain⟨u,hu,h2⟩:=ce.mp h2
  obtain⟨t,ht,rfl⟩:=aD.mp h2
  exact aR (hs u hu) (kC T p u.2 t ht)
theorem yK(T:List Nat):∀(ps:List Pt) (k e:Nat) x,x∈fB T ps k e->e<=x.2
 |[],k,e,x,h=>by simp[fB]at h
 |p::ps,k,e,x,h=>by
  unfold fB at h
  rcases bo.mp h with h|h
  ·obtain⟨t,ht,rfl⟩:=aD.mp h
   exact kC T p e t ht
  ·exact yK T ps (k+1) e x h
end
mutual
theorem g9(T:List Nat):∀(p:Pt) (e:Nat),e<=T.length->∀x,x∈bc T p e->x.2<=T.length
 | .none,e,he,x,h=>by simp[bc]at h
 | .blank,e,he,x,h=>by simp[bc]at h;rw[h];exact he
 | .sign s,e,he,x,h=>by
  unfold bc at h
  split at h
  ·rename_i c ec
   split at h
   ·cases aA.mp h;exact(am.mp ec).1
   ·cases h
  ·cases h
 | .row ps,e,he,x,h=>by
  unfold bc at h
  obtain⟨s,hs,rfl⟩:=aD.mp h
  exact pU T ps [([],e)] (λs hs=>by cases aA.mp hs;exact he) s hs
 | .pick ps,e,he,x,h=>by unfold bc at h;exact yI T ps 0 e he x h
 | .again p,e,he,x,h=>by
  unfold bc at h
  obtain⟨s,hs,rfl⟩:=aD.mp h
  exact Ef (λe he x hx=>g9 T p e he x hx) _ _ he s hs
 | .held n p,e,he,x,h=>by
  unfold bc at h
  obtain⟨s,hs,rfl⟩:=aD.mp h
  exact g9 T p e he s hs
 | .price n p,e,he,x,h=>by
  unfold bc at h
  obtain⟨s,hs,rfl⟩:=aD.mp h
  exact g9 T p e he s hs
theorem pU(T:List Nat):∀(ps:List Pt) (sm:List (List Tr×Nat)),(∀s∈sm,s.2<=T.length)->∀x,x∈fY T ps sm->x.2<=T.length
 |[],sm,hs,x,h=>by unfold fY at h;exact hs x h
 |p::ps,sm,hs,x,h=>by
  unfold fY at h
  refine pU T ps _ (λs h2=> ?_) x h
  obtain⟨u,hu,h2⟩:=ce.mp h2
  obtain⟨t,ht,rfl⟩:=aD.mp h2
  exact g9 T p u.2 (hs u hu) t ht
theorem yI(T:List Nat):∀(ps:List Pt) (k e:Nat),e<=T.length->∀x,x∈fB T ps k e->x.2<=T.length
 |[],k,e,he,x,h=>by simp[fB]at h
 |p::ps,k,e,he,x,h=>by
  unfold fB at h
  rcases bo.mp h with h|h
  ·obtain⟨t,ht,rfl⟩:=aD.mp h
   exact g9 T p e he t ht
  ·exact yI T ps (k+1) e he x h
end
mutual
theorem kB(T:List Nat):∀(p:Pt) (e:Nat),bN p=false->∀x,x∈bc T p e->e<x.2
 | .none,e,hc,x,h=>by simp[bc]at h
 | .blank,e,hc,x,h=>by simp[bN]at hc
 | .sign s,e,hc,x,h=>by
  unfold bc at h
  split at h
  ·split at h
   ·cases aA.mp h;exact fF _
   ·cases h
  ·cases h
 | .row ps,e,hc,x,h=>by
  unfold bc at h
  obtain⟨s,hs,rfl⟩:=aD.mp h
  exact yH T ps [([],e)] e (by simpa [bN]using hc) (λs hs=>by cases aA.mp hs;exact ao _) s hs
 | .pick ps,e,hc,x,h=>by unfold bc at h;exact yJ T ps 0 e (by simpa [bN]using hc) x h
 | .again p,e,hc,x,h=>by simp[bN]at hc
 | .held n p,e,hc,x,h=>by
  unfold bc at h
  obtain⟨s,hs,rfl⟩:=aD.mp h
  exact kB T p e (by simpa [bN]using hc) s hs
 | .price n p,e,hc,x,h=>by
  unfold bc at h
  obtain⟨s,hs,rfl⟩:=aD.mp h
  exact kB T p e (by simpa [bN]using hc) s hs
theorem yH(T:List Nat):∀(ps:List Pt) (sm:List (List Tr×Nat)) (e:Nat),iB ps=false->(∀s∈sm,e<=s.2)->∀x,x∈fY T ps sm->e<x.2
 |[],sm,e,hc,hs,x,h=>by simp[iB]at hc
 |p::ps,sm,e,hc,hs,x,h=>by
  unfold fY at h
  cases hp:bN p with
  |true=>
   refine yH T ps _ e (by simpa [iB,hp]using hc) (λs h2=> ?_) x h
   obtain⟨u,hu,h2⟩:=ce.mp h2
   obtain⟨t,ht,rfl⟩:=aD.mp h2
   exact aR (hs u hu) (kC T p u.2 t ht)
  |false=>
   refine pV T ps _ (e+1) (λs h2=> ?_) x h
   obtain⟨u,hu,h2⟩:=ce.mp h2
   obtain⟨t,ht,rfl⟩:=aD.mp h2
   exact pQ (hs u hu) (kB T p u.2 hp t ht)
theorem yJ(T:List Nat):∀(ps:List Pt) (k e:Nat),jg ps=false->∀x,x∈fB T ps k e->e<x.2
 |[],k,e,hc,x,h=>by simp[fB]at h
 |p::ps,k,e,hc,x,h=>by
  unfold fB at h
  have hc':bN p=false/\jg ps=false:=by simpa [jg]using hc
  rcases bo.mp h with h|h
  ·obtain⟨t,ht,rfl⟩:=aD.mp h
   exact kB T p e hc'.1 t ht
  ·exact yJ T ps (k+1) e hc'.2 x h
end
theorem Ee{L:Nat}{f:Nat->List (Tr×Nat)}(h:∀e,e<=L->∀x,x∈f e->e<x.2/\x.2<=L):∀(n m e:Nat),e<=L->L+1-e<=n->L+1-e<=m->Eh f n e=Eh f m e
 |0,m,e,he,hn,_=>by ac_nf
 |n+1,0,e,he,_,hm=>by ac_nf
 |n+1,m+1,e,he,hn,hm=>by
  unfold Eh
  congr 1
  refine rj λt ht=> ?_
  obtain⟨h1,h2⟩:=h e he t ht
  rw[Ee h n m t.2 h2 (by ac_nf) (by ac_nf)]
theorem sE{T:List Nat}{p:Pt}{e:Nat}(hc:bN p=false)(he:e<=T.length):bc T (.again p) e=((bc T p e).flatMap λt=>(bc T (.again p) t.2).map λu=>(Tr.again (t.1::(match u.1 with| .again ts=>ts|_=>[])),u.2))++[(.again [],e)]:=by
 have hf:∀e,e<=T.length->∀x,x∈bc T p e->e<x.2/\x.2<=T.length:=λe he x hx=>⟨kB T p e hc x hx,g9 T p e he x hx⟩
 conv=>lhs;unfold bc
 have e1:T.length+1-e=(T.length-e)+1:=by ac_nf
 rw[e1]
 unfold Eh
 rw[a8,List.map_flatMap]
 congr 1
 refine rj λt ht=> ?_
 obtain⟨h1,h2⟩:=hf e he t ht
 conv=>rhs;unfold bc
 rw[Ee hf (T.length-e) (T.length+1-t.2) t.2 h2 (by ac_nf) (by ac_nf),bx,bx]
 rfl
noncomputable def jF{α:Type}(l:List (α×Nat))(j:Nat):Nat:=l.countP λs=>s.2==j
noncomputable def nT(T:List Nat)(p:Pt)(e j:Nat):Nat:=jF (bc T p e) j
noncomputable def cZ:Nat->(Nat->Nat)->Nat
 |0,_=>0
 |n+1,f=>cZ n f+f n
theorem dX{n:Nat}{f g:Nat->Nat}(h:∀k,k<n->f k=g k):cZ n f=cZ n g:=by
 induction n with
 |zero=>rfl
 |succ n ih=>simp only[cZ];rw[ih λk hk=>h k (by ac_nf),h n (by ac_nf)]
theorem vE{n:Nat}{f g:Nat->Nat}:cZ n (λk=>f k+g k)=cZ n f+cZ n g:=by
 induction n with
 |zero=>rfl
 |succ n ih=>simp only[cZ];ac_nf
theorem lc{n:Nat}:cZ n (λ_=>0)=0:=by
 induction n with
 |zero=>rfl
 |succ n ih=>simp only[cZ];ac_nf
theorem qy{n i:Nat}{g:Nat->Nat}(h:i<n):cZ n (λk=>if i=k then g k else 0)=g i:=by
 induction n with
 |zero=>ac_nf
 |succ n ih=>
  simp only[cZ]
  by_cases e:i=n
  ·subst e
   rw[if_pos rfl,dX (g:=λ_=>0) λk hk=>if_neg (by ac_nf),lc]
   ac_nf
  ·rw[if_neg e,ih (by ac_nf)];ac_nf
theorem lx{α β:Type}(l:List (α×Nat))(f:α->β)(j:Nat):jF (l.map λs=>(f s.1,s.2)) j=jF l j:=by
 unfold jF;rw[List.countP_map];rfl
theorem ml{α:Type}(l m:List (α×Nat))(j:Nat):jF (l++m) j=jF l j+jF m j:=by unfold jF;rw[List.countP_append]
theorem j8{α:Type}(x:α)(e j:Nat):jF [(x,e)] j=if e=j then 1 else 0:=by
 unfold jF
 by_cases h:e=j
 ·rw[if_pos h,List.countP_cons_of_pos (by simpa using h)];rfl
 ·rw[if_neg h,List.countP_cons_of_neg (by simpa using h)];rfl
theorem Mu{α:Type}{n:Nat}{g:Nat->Nat}:∀(l:List (α×Nat)),(∀s∈l,s.2<n)->(l.map λs=>g s.2).sum=cZ n λk=>jF l k*g k
 |[],_=>by
  show 0=_
  rw[dX (g:=λ_=>0) λk _=>by simp[jF],lc]
 |s::l,h=>by
  have e:∀k,jF (s::l) k*g k=jF l k*g k+if s.2=k then g k else 0:=λk=>by
   have:jF (s::l) k=jF [s] k+jF l k:=ml [s] l k
   rw[this,j8 s.1 s.2 k,Nat.add_mul]
   split<;>simp[Nat.add_comm]
  rw[aw,bn,Mu l λs hs=>h s (by simp[hs]),dX λk _=>e k,vE,qy (h s (by simp))]
  ac_nf
theorem pC{α β:Type}(l:List (α×Nat))(F:α×Nat->List (β×Nat))(j:Nat):jF (l.flatMap F) j=(l.map λs=>jF (F s) j).sum:=by
 unfold jF;rw[List.countP_flatMap];rfl
noncomputable def mO(T:List Nat)(p:Pt)(w:Nat->Nat):Nat->Nat:=λj=>cZ (T.length+1) λk=>w k*nT T p k j
noncomputable def lC(T:List Nat):List Pt->(Nat->Nat)->Nat->Nat
 |[],w=>w
 |p::ps,w=>lC T ps (mO T p w)
theorem qv(T:List Nat):∀(ps:List Pt) (sm:List (List Tr×Nat)),(∀s∈sm,s.2<=T.length)->∀j,jF (fY T ps sm) j=lC T ps (jF sm) j
 |[],sm,_,j=>by unfold fY lC;rfl
 |p::ps,sm,h,j=>by
  unfold fY lC
  rw[qv T ps _ (λs h2=>by
   obtain⟨u,hu,h2⟩:=ce.mp h2
   obtain⟨t,ht,rfl⟩:=aD.mp h2
   exact g9 T p u.2 (h u hu) t ht) j]
  congr 1
  funext i
  rw[pC]
  have:(sm.map λs=>jF ((bc T p s.2).map λt=>(s.1++[t.1],t.2)) i)=sm.map λs=>nT T p s.2 i:=fz λs _=>lx (bc T p s.2) (λt=>s.1++[t]) i
  rw[this]
  exact Mu (g:=λk=>nT T p k i) sm λs hs=>rQ (h s hs)
theorem C9{T:List Nat}{ps:List Pt}{e j:Nat}(he:e<=T.length):nT T (.row ps) e j=lC T ps (λk=>if e=k then 1 else 0) j:=by
 show jF (bc T (.row ps) e) j=_
 unfold bc
 rw[lx (fY T ps [([],e)]) Tr.row,qv T ps _ (λs hs=>by cases aA.mp hs;exact he)]
 congr 1
 funext k
 exact j8 _ e k
theorem vv(T:List Nat):∀(ps:List Pt) (k e j:Nat),jF (fB T ps k e) j=(ps.map λp=>nT T p e j).sum
 |[],k,e,j=>by unfold fB;rfl
 |p::ps,k,e,j=>by
  unfold fB
  rw[ml,lx (bc T p e) (Tr.pick (k:Int)),vv T ps (k+1) e j,aw,bn]
  rfl
theorem p8{T:List Nat}{ps:List Pt}{e j:Nat}:nT T (.pick ps) e j=(ps.map λp=>nT T p e j).sum:=by
 show jF (bc T (.pick ps) e) j=_
 unfold bc
 exact vv T ps 0 e j
theorem iy{T:List Nat}{p:Pt}{e j:Nat}(hc:bN p=false)(he:e<=T.length):nT T (.again p) e j=(if e=j then 1 else 0)+cZ (T.length+1) λk=>nT T p e k*nT T (.again p) k j:=by
 show jF (bc T (.again p) e) j=_
 rw[sE hc he,ml,j8,pC]
 have:((bc T p e).map λt=>jF ((bc T (.again p) t.2).map λu=>(Tr.again (t.1::(match u.1 with| .again ts=>ts|_=>[])),u.2)) j)=(bc T p e).map λt=>nT T (.again p) t.2 j:=fz λt _=>lx (bc T (.again p) t.2) (λu=>Tr.again (t.1::(match u with| .again ts=>ts|_=>[]))) j
 rw[this,Mu (g:=λk=>nT T (.again p) k j) (bc T p e) λs hs=>rQ (g9 T p e he s hs)]
 exact Nat.add_comm _ _
theorem uA{T:List Nat}{n:Str}{p:Pt}{e j:Nat}:nT T (.held n p) e j=nT T p e j:=by
 show jF (bc T (.held n p) e) j=_
 unfold bc
 exact lx (bc T p e) (Tr.held n) j
theorem qQ{T:List Nat}{n:Int}{p:Pt}{e j:Nat}:nT T (.price n p) e j=nT T p e j:=by
 show jF (bc T (.price n p) e) j=_
 unfold bc
 exact lx (bc T p e) (Tr.price n) j
theorem FF{T:List Nat}{e j:Nat}:nT T .none e j=0:=rfl
theorem v6{T:List Nat}{e j:Nat}:nT T .blank e j=if e=j then 1 else 0:=j8 _ e j
theorem jw{T:List Nat}{p:Pt}{e j:Nat}(he:e<=T.length)(hj:T.length<j):nT T p e j=0:=by
 show List.countP _ _=0
 rw[List.countP_eq_zero]
 intro x hx
 have:=g9 T p e he x hx
 simp;ac_nf
theorem jK{T:List Nat}{p:Pt}{e j:Nat}(hc:bN p=false)(hj:j<=e):nT T p e j=0:=by
 show List.countP _ _=0
 rw[List.countP_eq_zero]
 intro x hx
 have:=kB T p e hc x hx
 simp;ac_nf
noncomputable abbrev Ws:=List (Nat×Nat)
noncomputable def fc(ws:Ws):List (Key×PV):=ws.map λw=>(.inl (w.1:Int),.int (w.2:Int))
noncomputable def kl:Ws->Nat->Nat
 |[],_=>0
 |w::ws,j=>if w.1=j then w.2 else kl ws j
noncomputable def je:Ws->Nat->Nat->Ws
 |[],j,c=>[(j,c)]
 |w::ws,j,c=>if w.1=j then(j,c)::ws else w::je ws j c
theorem lv(w:Nat×Nat)(ws:Ws):fc (w::ws)=(.inl (w.1:Int),.int (w.2:Int))::fc ws:=rfl
theorem qX{i j:Nat}(h:¬i=j):¬(Sum.inl (i:Int):Key)=Sum.inl (j:Int):=λe=>h (iW.mp (Sum.inl.inj e))
theorem e7(k:Key)(p:PV)(kvs:List (Key×PV))(x:Key):g8 ((k,p)::kvs) x=if k=x then some p else g8 kvs x:=by
 unfold g8
 by_cases h:k=x
 ·rw[if_pos h,List.find?_cons_of_pos (by simpa using h)];rfl
 ·rw[if_neg h,List.find?_cons_of_neg (by simpa using h)]
theorem mJ:∀(ws:Ws) (j:Nat),(∀w∈ws,0<w.2)->g8 (fc ws) (.inl (j:Int))=if kl ws j=0 then none else some (.int (kl ws j:Int))
 |[],j,_=>rfl
 |w::ws,j,h=>by
  rw[lv,e7]
  unfold kl
  by_cases e:w.1=j
  ·have:=h w (by simp)
   rw[if_pos (by rw[e]),if_pos e,if_neg (by ac_nf)]
  ·rw[if_neg (qX e),if_neg e]
   exact mJ ws j λx hx=>h x (by simp[hx])
theorem vq{ws:Ws}{j:Nat}(h:∀w∈ws,0<w.2):(g8 (fc ws) (.inl (j:Int))).getD (.int 0)= .int (kl ws j:Int):=by
 rw[mJ ws j h]
 split
 ·rename_i e;rw[e];rfl
 ·rfl
theorem rX{k:Key}{p v:PV}{kvs:List (Key×PV)}(h:k∉kvs.map (·.1)):iu ((k,p)::kvs) k v=(k,v)::kvs:=by
 unfold iu
 rw[if_pos (by simp)]
 rw[aw,if_pos rfl]
 congr 1
 have:∀kv∈kvs,(if kv.1=k then(kv.1,v)else kv)=kv:=λkv hk=>if_neg λe=>h (aD.mpr ⟨kv,hk,e⟩)
 rw[fz this,List.map_id']
theorem lJ{k x:Key}{p v:PV}{kvs:List (Key×PV)}(h:¬k=x):iu ((k,p)::kvs) x v=(k,p)::iu kvs x v:=by
 unfold iu
 have e:(((k,p)::kvs).any λkv=>decide (kv.1=x))=(kvs.any λkv=>decide (kv.1=x)):=by
  rw[cR];simp[h]
 rw[e]
 split
 ·rw[aw,if_neg h]
 ·rfl
theorem qH:∀(ws:Ws) (j c:Nat),(ws.map (·.1)).Nodup->iu (fc ws) (.inl (j:Int)) (.int (c:Int))=fc (je ws j c)
 |[],j,c,_=>rfl
 |w::ws,j,c,h=>by
  have h':=aZ.mp (show(w.1::ws.map (·.1)).Nodup from h)
  rw[lv]
  unfold je
  by_cases e:w.1=j
  ·rw[if_pos e,e,rX,lv]
   intro hm
   obtain⟨kv,hk,e2⟩:=aD.mp hm
   obtain⟨x,hx,rfl⟩:=aD.mp hk
   have:x.1=j:=iW.mp (Sum.inl.inj e2)
   exact h'.1 (aD.mpr ⟨x,hx,by rw[this,e]⟩)
  ·rw[if_neg e,lJ (qX e),qH ws j c h'.2,lv]
theorem zq:∀(ws:Ws) (j c i:Nat),kl (je ws j c) i=if j=i then c else kl ws i
 |[],j,c,i=>by unfold je kl;rfl
 |w::ws,j,c,i=>by
  unfold je
  by_cases e:w.1=j
  ·rw[if_pos e]
   unfold kl
   by_cases e2:j=i
   ·rw[if_pos e2,if_pos e2]
   ·rw[if_neg e2,if_neg e2,if_neg (by rw[e];exact e2)]
  ·rw[if_neg e]
   unfold kl
   rw[zq ws j c i]
   by_cases e2:w.1=i
   ·rw[if_pos e2,if_pos e2,if_neg (λz=>e (by rw[e2,z]))]
   ·rw[if_neg e2,if_neg e2]
theorem mY:∀{ws:Ws} {j c:Nat} {x:Nat×Nat},x∈je ws j c->x=(j,c)\/x∈ws
 |[],j,c,x,h=>by unfold je at h;exact .inl (aA.mp h)
 |w::ws,j,c,x,h=>by
  unfold je at h
  split at h
  ·rcases aI.mp h with h|h
   ·exact .inl h
   ·exact .inr (by simp[h])
  ·rcases aI.mp h with h|h
   ·exact .inr (by simp[h])
   ·rcases mY h with h|h
    ·exact .inl h
    ·exact .inr (by simp[h])
theorem lg:∀{ws:Ws} {j c:Nat},(ws.map (·.1)).Nodup->((je ws j c).map (·.1)).Nodup
 |[],j,c,h=>by unfold je;simp
 |w::ws,j,c,h=>by
  have h':=aZ.mp (show(w.1::ws.map (·.1)).Nodup from h)
  unfold je
  by_cases e:w.1=j
  ·rw[if_pos e]
   exact aZ.mpr ⟨by rw[<-e];exact h'.1,h'.2⟩
  ·rw[if_neg e]
   refine aZ.mpr ⟨λhm=> ?_,lg h'.2⟩
   obtain⟨x,hx,ex⟩:=aD.mp hm
   rcases mY hx with rfl|hx
   ·exact e ex.symm
   ·exact h'.1 (aD.mpr ⟨x,hx,ex⟩)
structure Wy(ws:Ws)(n:Nat)(f:Nat->Nat):Prop where
 nd:(ws.map (·.1)).Nodup
 lt:∀w∈ws,w.1<n
 pos:∀w∈ws,0<w.2
 val:∀j,kl ws j=f j
theorem Wy.nil{n:Nat}:Wy [] n λ_=>0:=⟨by simp,by simp,by simp,λ_=>rfl⟩
theorem Wy.one{n e:Nat}(h:e<n):Wy [(e,1)] n λk=>if e=k then 1 else 0:=⟨by simp,by simpa using h,by simp,λj=>rfl⟩
theorem Wy.congr{ws:Ws}{n:Nat}{f g:Nat->Nat}(h:Wy ws n f)(e:∀j,f j=g j):Wy ws n g:=⟨h.nd,h.lt,h.pos,λj=>(h.val j).trans (e j)⟩
theorem ni:∀(n:Nat) (l:List Nat),l.Nodup->(∀x∈l,x<n)->l.length<=n
 |0,l,_,hl=>by
  cases l with
  |nil=>exact ao _
  |cons x l=>exact absurd (hl x (by simp)) (jh _)
 |n+1,l,hn,hl=>by
  have h1:=ni n (l.filter (· !=n)) (hn.filter _) λx hx=>by
   have:=hl x (jc.mp hx).1
   have h2:=(jc.mp hx).2
   simp at h2
   ac_nf
  have h2:=List.nodup_iff_count.mp hn n
  have h3:=List.length_eq_countP_add_countP (p:=(· !=n)) (l:=l)
  rw[jd (p:=(· !=n))]at h3
  have h4:l.countP (λa=>decide (¬(a !=n)=true))=l.count n:=by
   unfold List.count
   congr 1
   funext a
   by_cases e:a=n<;>simp[e]
  ac_nf
theorem Wy.len{ws:Ws}{n:Nat}{f:Nat->Nat}(h:Wy ws n f):ws.length<=n:=by
 have:=ni n (ws.map (·.1)) h.nd λx hx=>by obtain⟨w,hw,rfl⟩:=aD.mp hx;exact h.lt w hw
 simpa using this
theorem Wy.put{ws:Ws}{n k c:Nat}{f:Nat->Nat}(h:Wy ws n f)(hk:k<n)(hc:0<c):Wy (je ws k (kl ws k+c)) n λj=>f j+if k=j then c else 0:=
 ⟨lg h.nd,λw hw=>by rcases mY hw with rfl|hw;exact hk;exact h.lt w hw,λw hw=>by rcases mY hw with rfl|hw;(show 0<kl ws k+c;ac_nf);exact h.pos w hw,λj=>by
  rw[zq]
  by_cases e:k=j
  ·rw[if_pos e,if_pos e,e,h.val]
  ·rw[if_neg e,if_neg e,h.val];ac_nf⟩
noncomputable def mr(t:Nat):Ws->Ws->Ws
 |ws,[]=>ws
 |ws,w::ms=>mr t (je ws w.1 (kl ws w.1+w.2*t)) ms
theorem tP(t:Nat):∀(ms ws:Ws) (w:Nat×Nat),mr t ws (ms++[w])=je (mr t ws ms) w.1 (kl (mr t ws ms) w.1+w.2*t)
 |[],ws,w=>rfl
 |m::ms,ws,w=>by
  show mr t (je ws m.1 (kl ws m.1+m.2*t)) (ms++[w])=_
  rw[tP t ms]
  rfl
theorem nk:∀{ms:Ws} {j:Nat},j∉ms.map (·.1)->kl ms j=0
 |[],_,_=>rfl
 |w::ms,j,h=>by
  unfold kl
  rw[aw,aI,not_or]at h
  rw[if_neg (aG h.1),nk h.2]
theorem Wy.add{t n:Nat}(ht:0<t):∀{ms ws:Ws} {f:Nat->Nat},Wy ws n f->(ms.map (·.1)).Nodup->(∀w∈ms,w.1<n)->(∀w∈ms,0<w.2)->Wy (mr t ws ms) n λj=>f j+kl ms j*t
 |[],ws,f,h,_,_,_=>h.congr λj=>by simp[kl]
 |m::ms,ws,f,h,nd,lt,ps=>by
  have nd':=aZ.mp (show(m.1::ms.map (·.1)).Nodup from nd)
  refine(Wy.add ht (ms:=ms) (h.put (lt m (by simp)) (Nat.mul_pos (ps m (by simp)) ht)) nd'.2 (λw hw=>lt w (by simp[hw])) λw hw=>ps w (by simp[hw])).congr λj=> ?_
  show f j+(if m.1=j then m.2*t else 0)+kl ms j*t=f j+(if m.1=j then m.2 else kl ms j)*t
  by_cases e:m.1=j
  ·rw[if_pos e,if_pos e,nk (by rw[<-e];exact nd'.1)];ac_nf
  ·rw[if_neg e,if_neg e];ac_nf
theorem Wy.put_part{t n i:Nat}{ms ws:Ws}{f g:Nat->Nat}(ht:0<t)(h:Wy ws n f)(hm:Wy ms n g):Wy (mr t ws (ms.take i)) n λj=>f j+kl (ms.take i) j*t:=
 h.add ht (hm.nd.sublist ((List.take_sublist i ms).map _)) (λw hw=>hm.lt w (mB hw)) λw hw=>hm.pos w (mB hw)
theorem A1{t i:Nat}{ms ws:Ws}{w:Nat×Nat}(h:ms[i]? =some w):mr t ws (ms.take (i+1))=je (mr t ws (ms.take i)) w.1 (kl (mr t ws (ms.take i)) w.1+w.2*t):=by
 rw[mz,h]
 exact tP t _ ws w
theorem oO:∀{ms:Ws} {i:Nat} {w:Nat×Nat},(ms.map (·.1)).Nodup->ms[i]? =some w->kl ms w.1=w.2
 |[],i,w,_,h=>by simp at h
 |m::ms,0,w,nd,h=>by
  simp at h;subst h
  unfold kl;rw[if_pos rfl]
 |m::ms,i+1,w,nd,h=>by
  have nd':=aZ.mp (show(m.1::ms.map (·.1)).Nodup from nd)
  have h':ms[i]? =some w:=by simpa using h
  have hm:w∈ms:=av h'
  unfold kl
  rw[if_neg (λe=>nd'.1 (aD.mpr ⟨w,hm,e.symm⟩))]
  exact oO nd'.2 h'
theorem Kl{n:Nat}{h:Nat->Nat}:∀{ws:Ws},(ws.map (·.1)).Nodup->(∀w∈ws,w.1<n)->(ws.map λw=>h w.1*w.2).sum=cZ n λk=>kl ws k*h k
 |[],_,_=>by
  show 0=_
  rw[dX (g:=λ_=>0) λk _=>by simp[kl],lc]
 |w::ws,nd,lt=>by
  have nd':=aZ.mp (show(w.1::ws.map (·.1)).Nodup from nd)
  rw[aw,bn,Kl nd'.2 λx hx=>lt x (by simp[hx])]
  have e:∀k,kl (w::ws) k*h k=kl ws k*h k+if w.1=k then w.2*h k else 0:=λk=>by
   show(if w.1=k then w.2 else kl ws k)*h k=_
   by_cases e:w.1=k
   ·rw[if_pos e,if_pos e,nk (by rw[<-e];exact nd'.1)];ac_nf
   ·rw[if_neg e,if_neg e];ac_nf
  rw[dX λk _=>e k,vE,qy (g:=λk=>w.2*h k) (lt w (by simp)),Nat.mul_comm]
  ac_nf
noncomputable def pM(l:List Nat):Str:=⟨l.toArray⟩
theorem dZ(l:List Nat):(pM l).length=l.length:=by
 show l.toArray.size=_
 rw[ax]
theorem p9(l:List Nat):(pM l).cps.toList=l:=List.toList_toArray
theorem Je(s:Str):pM s.cps.toList=s:=by
 show(⟨s.cps.toList.toArray⟩:Str)=s
 rw[Array.toArray_toList]
theorem mL{n:Nat}{f:Nat->Nat}(h:cZ n f≠0):∃k,k<n/\f k≠0:=by
 induction n with
 |zero=>exact absurd rfl h
 |succ n ih=>
  by_cases e:f n=0
  ·obtain⟨k,hk,h2⟩:=ih (by intro z;apply h;show cZ n f+f n=0;ac_nf)
   exact⟨k,by ac_nf,h2⟩
  ·exact⟨n,by ac_nf,e⟩
theorem tm{T:List Nat}{p:Pt}{e j:Nat}(h:nT T p e j≠0):e<=j:=by
 have:0<nT T p e j:=eK h
 obtain⟨x,hx,hp⟩:=ji.mp this
 have h1:=kC T p e x hx
 have h2:x.2=j:=by simpa using hp
 ac_nf
noncomputable def dl(e:Nat):Nat->Nat:=λk=>if e=k then 1 else 0
theorem uv{T:List Nat}{lo:Nat}:∀(ps:List Pt) {w:Nat->Nat},(∀k,w k≠0->lo<=k)->∀k,lC T ps w k≠0->lo<=k
 |[],w,h,k,hk=>h k hk
 |p::ps,w,h,k,hk=>by
  refine uv ps (w:=mO T p w) (λj hj=> ?_) k hk
  obtain⟨i,_,hi⟩:=mL hj
  have h1:w i≠0:=λz=>hi (by rw[z,gH])
  have h2:nT T p i j≠0:=λz=>hi (by rw[z,iD])
  exact aR (h i h1) (tm h2)
theorem Hy{e k:Nat}(h:dl e k≠0):e<=k:=by
 unfold dl at h
 split at h
 ·ac_nf
 ·exact absurd rfl h
theorem oF(T:List Nat)(c:Pt):∀(ps:List Pt) (w:Nat->Nat),lC T (ps++[c]) w=mO T c (lC T ps w)
 |[],w=>rfl
 |p::ps,w=>oF T c ps (mO T p w)
theorem mM{T:List Nat}{p:Pt}{e j:Nat}(he:e<=T.length):mO T p (dl e) j=nT T p e j:=by
 show cZ (T.length+1) (λk=>dl e k*nT T p k j)=_
 rw[dX (g:=λk=>if e=k then nT T p k j else 0) λk _=>by unfold dl;split<;>simp]
 exact qy (by ac_nf)
noncomputable def Ic:Pt->Bool
 | .row _=>true
 | .held _ _=>true
 | .price _ _=>true
 | .blank=>true
 |_=>false
theorem li{T:List Nat}{q:Pt}{e j:Nat}(h:Ic q=true)(he:e<=T.length):nT T q e j=lC T (cz q) (dl e) j:=by
 cases q with
 |row ps=>exact C9 he
 |held n p=>rw[uA];exact(mM he).symm
 |price n p=>rw[qQ];exact(mM he).symm
 |blank=>exact v6
 |_=>cases h
theorem Wy.key{ws:Ws}{n:Nat}{f:Nat->Nat}{i:Nat}{w:Nat×Nat}(h:Wy ws n f)(e:ws[i]? =some w):f w.1=w.2/\0<w.2/\w.1<n:=by
 have hm:=av e
 exact⟨by rw[<-h.val,oO h.nd e],h.pos w hm,h.lt w hm⟩
theorem Wy.read{ws:Ws}{n:Nat}{f:Nat->Nat}{i:Nat}{w:Nat×Nat}(h:Wy ws n f)(e:ws[i]? =some w):g8 (fc ws) (.inl (w.1:Int))=some (.int (w.2:Int)):=by
 rw[mJ ws w.1 h.pos,oO h.nd e,if_neg (by have:=h.pos w (av e);ac_nf)]
structure Cs(T:List Nat)(p:Pt):Prop where
 len:T.length<=900
 siz:size p<=10000
 big:∀q∈makes p,∀e,e<=T.length->∀j,nT T q e j<2^64
 ag:∀q,Pt.again q∈makes p->bN q=false
noncomputable def KO(T:List Nat)(m pa tb:Addr):List (Str×PV):=[("signs",.str (pM T)),("makes",.ref m),("parts",.ref pa),("table",.ref tb)]
structure Tb(C:Addr)(G:Gp)(a:Addr)(T:List Nat)(p:Pt)(D:Nat->Nat->Prop)(dx m pa tb:Addr)(ts:List Addr):Prop where
 ins:G a=some (.ins C dx (KO T m pa tb))
 mks:G m=some (.lst (cL (makes p)))
 pts:G pa=some (.lst (gF p))
 tbl:G tb=some (.lst (ts.map PV.ref))
 tl:ts.length=size p
 row:∀(i:Nat) (t:Addr),ts[i]? =some t->∃kvs,G t=some (.dK kvs)/\∀q,(makes p)[i]? =some q->∀e,D i e->e<=T.length->∃d ws,g8 kvs (.inl (e:Int))=some (.ref d)/\G d=some (.rd (fc ws))/\Wy ws (T.length+1) (nT T q e)
theorem Tb.ge{C a dx m pa tb:Addr}{G G':Gp}{T:List Nat}{p:Pt}{D:Nat->Nat->Prop}{ts:List Addr}(h:Tb C G a T p D dx m pa tb ts)(g:GE G G'):Tb C G' a T p D dx m pa tb ts:=
 ⟨g _ _ h.ins,g _ _ h.mks,g _ _ h.pts,g _ _ h.tbl,h.tl,λi t e=>by
  obtain⟨kvs,h1,h3⟩:=h.row i t e
  refine⟨kvs,g _ _ h1,λq hq e he hl=> ?_⟩
  obtain⟨d,ws,h4,h5,h6⟩:=h3 q hq e he hl
  exact⟨d,ws,h4,g _ _ h5,h6⟩⟩
noncomputable def Dn(n e:Nat):Nat->Nat->Prop:=λi k=>e<k\/k=e/\n<i
theorem Ea{α:Type}{ts:List Addr}{i:Nat}{t:Addr}(h:ts[i]? =some t):(ts.map PV.ref)[i]? =some (.ref t):=by rw[aC,h];rfl
theorem EB{α:Type}{l:List α}{i:Nat}{x:α}(h:l[i]? =some x):l=l.take i++x::l.drop (i+1):=by
 obtain⟨hi,rfl⟩:=am.mp h
 rw[List.getElem_cons_drop hi,dF]
theorem gR{p qq cc:Pt}{n i:Nat}{x:PV}(hq:(makes p)[n]? =some qq)(hcc:(cz qq)[i]? =some cc)(hx:((cN (n+1) (cz qq)).map gh)[i]? =some x):∃j:Nat,x= .int (j:Int)/\(makes p)[j]? =some cc/\n<j:=by
 have e1:=EB hcc
 have hi:=(am.mp hcc).1
 refine⟨n+1+cf ((cz qq).take i),?_,vK hq e1,by ac_nf⟩
 rw[e1,lR,a8,bS (by rw[ak,eN,bv];ac_nf),ak,eN,bv,Nat.min_eq_left (by ac_nf),lG]at hx
 simp only[cN,aw,yw]at hx
 exact(bf hx).symm
theorem Tb.read{C a dx m pa tb:Addr}{G:Gp}{T:List Nat}{p cc:Pt}{D:Nat->Nat->Prop}{ts:List Addr}{j k:Nat}(h:Tb C G a T p D dx m pa tb ts)(hj:(makes p)[j]? =some cc)(hd:D j k)(hk:k<=T.length):
  ∃t d kvs ms,(ts.map PV.ref)[j]? =some (.ref t)/\G t=some (.dK kvs)/\g8 kvs (.inl (k:Int))=some (.ref d)/\G d=some (.rd (fc ms))/\Wy ms (T.length+1) (nT T cc k):=by
 have hjl:=(am.mp hj).1
 rw[bY,<-h.tl]at hjl
 obtain⟨kvs,h1,h3⟩:=h.row j ts[j] (al hjl)
 obtain⟨d,ws,h4,h5,h6⟩:=h3 cc hj k hd hk
 exact⟨ts[j],d,kvs,ws,by rw[aC,al hjl];rfl,h1,h4,h5,h6⟩
theorem Wy.big{T:List Nat}{p cc:Pt}{ms:Ws}{k:Nat}(cs:Cs T p)(hc:cc∈makes p)(hk:k<=T.length)(h:Wy ms (T.length+1) (nT T cc k)):∀w∈ms,w.2<2^64:=λw hw=>by
 obtain⟨i,hi⟩:=iM.mp hw
 rw[<-(h.key hi).1]
 exact cs.big cc hc k hk _
theorem jN(ws:Ws):(fc ws).map (λkv=>kP kv.1)=ws.map λw=>PV.int (w.1:Int):=by unfold fc;rw[bx];rfl
theorem zu{ws:Ws}{i:Nat}{x:PV}(h:(ws.map λw=>PV.int (w.1:Int))[i]? =some x):∃w,ws[i]? =some w/\x= .int (w.1:Int):=by
 rw[aC]at h
 cases e:ws[i]? with
 |none=>rw[e]at h;cases h
 |some w=>rw[e]at h;cases h;exact⟨w,rfl,rfl⟩
noncomputable def xH(T:List Nat)(c:Pt)(ws:Ws)(j:Nat):Nat:=(ws.map λw=>nT T c w.1 j*w.2).sum
theorem sY{T:List Nat}{c:Pt}{ws:Ws}{i j:Nat}{w:Nat×Nat}(h:ws[i]? =some w):xH T c (ws.take (i+1)) j=xH T c (ws.take i) j+nT T c w.1 j*w.2:=by
 unfold xH
 rw[mz,h]
 simp
theorem vX{T:List Nat}{c:Pt}{ws:Ws}{f:Nat->Nat}{j:Nat}(h:Wy ws (T.length+1) f):xH T c ws j=mO T c f j:=by
 unfold xH
 rw[Kl (h:=λk=>nT T c k j) h.nd h.lt]
 exact dX λk _=>by rw[h.val]
theorem qo{k k':Key}{v:PV}:∀(kvs:List (Key×PV)),g8 (iu kvs k v) k'=if k=k' then some v else g8 kvs k'
 |[]=>by
  show g8 [(k,v)] k'=_
  rw[e7]
 |(x,p)::kvs=>by
  by_cases e:x=k
  ·subst e
   unfold iu
   rw[if_pos (by simp),aw,if_pos rfl,e7]
   by_cases e2:x=k'
   ·rw[if_pos e2,if_pos e2]
   ·rw[if_neg e2,if_neg e2,e7,if_neg e2]
    clear p
    induction kvs with
    |nil=>rfl
    |cons y ys ih=>
     obtain⟨y1,y2⟩:=y
     rw[aw]
     by_cases e3:y1=x
     ·rw[if_pos e3,e7,e7,ih,e3,if_neg e2,if_neg e2]
     ·rw[if_neg e3,e7,e7,ih]
  ·rw[lJ e,e7,e7,qo kvs]
   by_cases e2:k=k'
   ·rw[if_pos e2,if_pos e2,if_neg (by rw[<-e2];exact e)]
   ·rw[if_neg e2,if_neg e2]
theorem mZ{k:Key}{v:PV}(kvs:List (Key×PV)):(iu kvs k v).length<=kvs.length+1:=by
 unfold iu
 split
 ·rw[ak];ac_nf
 ·rw[aP];exact ao _
section
variable{C a dx m pa tb t d:Addr}{G:Gp}{T:List Nat}{p q:Pt}{D D':Nat->Nat->Prop}{ts:List Addr}{n e:Nat}{kvs:List (Key×PV)}{ws:Ws}
theorem Tb.mono(h:Tb C G a T p D dx m pa tb ts)(hd:∀j e,e<=T.length->D' j e->D j e):Tb C G a T p D' dx m pa tb ts:=
 ⟨h.ins,h.mks,h.pts,h.tbl,h.tl,λi t e=>by
  obtain⟨kvs,h1,h3⟩:=h.row i t e
  exact⟨kvs,h1,λq hq e he hl=>h3 q hq e (hd _ _ hl he) hl⟩⟩
theorem Tb.mono'(h:Tb C G a T p D dx m pa tb ts)(hd:∀j e,j<size p->e<=T.length->D' j e->D j e):Tb C G a T p D' dx m pa tb ts:=
 ⟨h.ins,h.mks,h.pts,h.tbl,h.tl,λi t e=>by
  obtain⟨kvs,h1,h3⟩:=h.row i t e
  have hi:=(am.mp e).1
  rw[h.tl]at hi
  exact⟨kvs,h1,λq hq e he hl=>h3 q hq e (hd _ _ hi hl he) hl⟩⟩
theorem Tb.write(h:Tb C G a T p D dx m pa tb ts)(nd:ts.Nodup)(ht:ts[n]? =some t)(hq:(makes p)[n]? =some q)(hk:G t=some (.dK kvs))(hd:G d=none)(hw:Wy ws (T.length+1) (nT T q e))
  (hD:∀j k,k<=T.length->D' j k->D j k\/(j=n/\k=e)):Tb C (up (up G d (.rd (fc ws))) t (.dK (iu kvs (.inl (e:Int)) (.ref d)))) a T p D' dx m pa tb ts:=by
 have nt:∀{b:Addr} {o:MO},G b=some o->(∀k,o≠ .dK k)->up (up G d (.rd (fc ws))) t (.dK (iu kvs (.inl (e:Int)) (.ref d))) b=some o:=fun{b o} hb ho=>by
  rw[aH (λz=>by rw[z,hk]at hb;cases hb;exact ho _ rfl),aH (aX hb hd)];exact hb
 refine⟨nt h.ins (by simp),nt h.mks (by simp),nt h.pts (by simp),nt h.tbl (by simp),h.tl,λi t' hi=> ?_⟩
 obtain⟨kvs',h1,h3⟩:=h.row i t' hi
 by_cases e1:i=n
 ·subst e1
  rw[ht]at hi;cases hi
  rw[hk]at h1;cases h1
  refine⟨_,aj,λq' hq' k hk' hl=> ?_⟩
  rw[hq]at hq';cases hq'
  rw[qo]
  by_cases e2:k=e
  ·subst e2
   exact⟨d,ws,if_pos rfl,by rw[aH (λz=>by rw[z,hk]at hd;cases hd),aj],hw⟩
  ·rcases hD i k hl hk' with z|⟨_,z⟩
   ·obtain⟨d',ws',h4,h5,h6⟩:=h3 q hq k z hl
    exact⟨d',ws',by rw[if_neg (qX (aG e2))];exact h4,nt h5 (by simp),h6⟩
   ·exact absurd z e2
 ·have net:t'≠t:=λz=>by
   subst z
   have h1:=(am.mp hi)
   have h2:=(am.mp ht)
   obtain⟨a1,b1⟩:=h1
   obtain⟨a2,b2⟩:=h2
   have pw:=wL.mp nd
   rcases Nat.lt_or_gt_of_ne e1 with z|z
   ·exact pw i n a1 a2 z (by rw[b1,b2])
   ·exact pw n i a2 a1 z (by rw[b1,b2])
  refine⟨kvs',by rw[aH net,aH (aX h1 hd)];exact h1,λq' hq' k hk' hl=> ?_⟩
  rcases hD i k hl hk' with z|⟨z,_⟩
  ·obtain⟨d',ws',h4,h5,h6⟩:=h3 q' hq' k z hl
   exact⟨d',ws',h4,nt h5 (by simp),h6⟩
  ·exact absurd z e1
end
noncomputable def gv(v:List Nat)(n:Nat):Nat:=v.getD n 0
noncomputable def A4(a b:List Nat):Bool:=(bJ 6).all λn=>decide (gv a n<=gv b n)
noncomputable def Ew(a b:List Nat):List Nat:=(bJ 6).map λn=>gv a n+gv b n
noncomputable def qm(a b:List Nat):List Nat:=(bJ 6).map λn=>cZ (n+1) λi=>gv a i*gv b (n-i)
noncomputable def iY(a:Nat->Nat):Nat->List Nat
 |0=>[1]
 |n+1=>iY a n++[cZ (n+1) λi=>a (i+1)*gv (iY a n) (n-i)]
noncomputable def yB(v:List Nat):List Nat:=iY (gv v) 5
noncomputable def NB:List (List (List Nat)):=[[[0,1,0,0,0,0]],[[0,3,0,0,0,0],[0,0,0,1,0,0],[0,0,1,0,0,0]],[[0,1,2,3,4,5],[0,5,0,0,0,0],[0,0,0,4,0,0],[0,0,4,0,0,0],[0,2,0,1,0,0],[0,2,1,0,0,0]],[[0,1,3,9,27,81],[0,3,6,9,12,15],[0,0,0,12,0,0],[0,0,8,4,0,0],[0,0,12,0,0,0],[0,12,0,0,0,0],[0,4,4,1,0,0],[0,6,3,0,0,0]],[[0,1,5,25,125,625],[0,3,9,27,81,243],[0,5,10,15,20,25],[0,9,9,9,9,9],[0,0,12,8,8,8],[0,0,18,9,0,0],[0,0,27,0,0,0],[0,3,12,12,0,0],[0,6,15,6,0,0],[0,9,18,0,0,0],[0,12,12,3,0,0],[0,18,9,0,0,0],[0,27,0,0,0,0]],[[0,1,12,144,1728,20736],[0,3,15,75,375,1875],[0,9,27,81,243,729],[0,12,24,36,48,60],[0,18,27,18,18,18],[0,27,18,18,18,18],[0,0,32,16,0,0],[0,0,48,0,0,0],[0,48,0,0,0,0],[0,0,36,9,0,0],[0,9,36,0,0,0],[0,15,30,0,0,0],[0,20,20,5,0,0],[0,30,15,0,0,0],[0,36,9,0,0,0]]]
noncomputable def AB:List (List (List Nat)):=[[[1,0,0,0,0,0],[0,1,0,0,0,0]],[[1,1,1,1,1,1],[0,3,0,0,0,0],[1,2,0,0,0,0],[2,1,0,0,0,0],[3,0,0,0,0,0]],[[1,3,9,27,81,243],[2,3,2,2,2,2],[3,2,2,2,2,2],[0,5,0,0,0,0],[1,4,0,0,0,0],[4,1,0,0,0,0],[5,0,0,0,0,0]],[[1,5,25,125,625,3125],[2,4,9,27,81,243],[3,3,9,27,81,243],[3,6,9,12,15,18],[4,4,4,4,4,4],[5,2,2,2,2,2],[0,12,0,0,0,0],[4,8,0,0,0,0],[8,4,0,0,0,0],[12,0,0,0,0,0]],[[1,12,144,1728,20736,248832],[2,6,25,125,625,3125],[3,5,25,125,625,3125],[4,12,36,108,324,972],[5,3,9,27,81,243],[5,10,15,20,25,30],[9,9,9,9,9,9],[8,12,8,8,8,8],[12,8,8,8,8,8],[0,18,9,0,0,0],[0,27,0,0,0,0],[6,15,6,0,0,0],[9,18,0,0,0,0],[12,12,3,0,0,0],[18,9,0,0,0,0],[27,0,0,0,0,0]],[[1,27,729,19683,531441,14348907],[2,13,144,1728,20736,248832],[3,12,144,1728,20736,248832],[4,20,100,500,2500,12500],[5,5,25,125,625,3125],[9,27,81,243,729,2187],[12,12,36,108,324,972],[12,24,36,48,60,72],[18,27,18,18,18,18],[27,18,18,18,18,18],[0,48,0,0,0,0],[16,32,0,0,0,0],[32,16,0,0,0,0],[48,0,0,0,0,0],[0,30,15,0,0,0],[0,36,9,0,0,0],[9,36,0,0,0,0],[20,20,5,0,0,0],[36,9,0,0,0,0]]]
noncomputable def SA:List (List (List Nat)):=[[[1,0,0,0,0,0],[0,1,0,0,0,0]],[[1,1,1,1,1,1],[2,0,0,0,0,0],[0,2,0,0,0,0]]]
noncomputable def SN:List (List (List Nat)):=[[[0,1,0,0,0,0]],[[0,2,0,0,0,0],[0,0,1,0,0,0]]]
noncomputable def AT(k:Nat):List (List Nat):=AB.getD k []
noncomputable def NT(k:Nat):List (List Nat):=NB.getD k []
noncomputable def ST(k:Nat):List (List Nat):=SA.getD (min k 1) []
noncomputable def SM(k:Nat):List (List Nat):=SN.getD (min k 1) []
noncomputable def kW(x y z:List Nat):List Nat:=qm (qm x y) z
noncomputable def vh(x y z:List Nat):List Nat:=Ew (Ew x y) z
noncomputable def in1(v:List Nat)(R:List (List Nat)):Bool:=R.any λw=>A4 v w
noncomputable def HA(f:List Nat->List Nat->List Nat->List Nat)(A B C R:List (List Nat)):Bool:=A.all λx=>B.all λy=>C.all λz=>in1 (f x y z) R
noncomputable def MY(f:List Nat->List Nat->List Nat)(A B R:List (List Nat)):Bool:=A.all λx=>B.all λy=>in1 (f x y) R
noncomputable def wK(p:Nat->Nat->Nat->Bool):Bool:=(bJ 5).all λa=>(bJ (5-a)).all λb=>(bJ (5-a-b)).all λc=>p a b c
noncomputable def yl(p:Nat->Nat->Bool):Bool:=(bJ 5).all λa=>(bJ (5-a)).all λb=>p a b
theorem gX{p:Nat->Nat->Nat->Bool}(h:wK p=true){a b c:Nat}(hk:a+b+c<=4):p a b c=true:=by
 unfold wK at h
 have h1:=aS.mp h a (cQ.mpr (by ac_nf))
 have h2:=aS.mp h1 b (cQ.mpr (by ac_nf))
 exact aS.mp h2 c (cQ.mpr (by ac_nf))
theorem iR{p:Nat->Nat->Bool}(h:yl p=true){a b:Nat}(hk:a+b<=4):p a b=true:=by
 unfold yl at h
 have h1:=aS.mp h a (cQ.mpr (by ac_nf))
 exact aS.mp h1 b (cQ.mpr (by ac_nf))
theorem tRA:wK (λa b c=>HA kW (AT a) (AT b) (AT c) (AT (a+b+c+1)))=true:=by decide+kernel
theorem K0:wK (λa b c=>HA kW (NT a) (AT b) (AT c) (NT (a+b+c+1)))=true:=by decide+kernel
theorem KZ:wK (λa b c=>HA kW (AT a) (NT b) (AT c) (NT (a+b+c+1)))=true:=by decide+kernel
theorem NI:wK (λa b c=>HA kW (AT a) (AT b) (NT c) (NT (a+b+c+1)))=true:=by decide+kernel
theorem tPA:wK (λa b c=>HA vh (AT a) (AT b) (AT c) (AT (a+b+c+1)))=true:=by decide+kernel
theorem tPN:wK (λa b c=>HA vh (NT a) (NT b) (NT c) (NT (a+b+c+1)))=true:=by decide+kernel
noncomputable def GI(f:List Nat->List Nat->List Nat->List Nat)(A B R:List (List Nat)):Bool:=MY (λx t=>f x t t) A B R&&MY (λx t=>f t x t) A B R&&MY (λx t=>f t t x) A B R
theorem tDA:yl (λa k=>GI kW (AT a) (ST k) (AT (a+k+1)))=true:=by decide+kernel
theorem tDN:yl (λa k=>GI kW (AT a) (SM k) (NT (a+k+1)))=true:=by decide+kernel
theorem tDM:yl (λa k=>GI kW (NT a) (ST k) (NT (a+k+1)))=true:=by decide+kernel
theorem tEA:yl (λa k=>GI vh (AT a) (ST k) (AT (a+k+1)))=true:=by decide+kernel
theorem tEN:yl (λa k=>GI vh (NT a) (SM k) (NT (a+k+1)))=true:=by decide+kernel
theorem tS:(bJ 5).all (λk=>(NT k).all λv=>in1 (yB v) (AT (k+1)))=true:=by decide+kernel
theorem tMA:(bJ 5).all (λk=>(AT k).all λv=>in1 v (AT (k+1)))=true:=by decide+kernel
theorem tMN:(bJ 5).all (λk=>(NT k).all λv=>in1 v (NT (k+1)))=true:=by decide+kernel
theorem NF:(bJ 6).all (λk=>(AT k).all λv=>decide (cZ 6 (gv v)<=14900788))=true:=by decide+kernel
theorem pW{n:Nat}{f g:Nat->Nat}(h:∀k,k<n->f k<=g k):cZ n f<=cZ n g:=by
 induction n with
 |zero=>exact ao _
 |succ n ih=>
  have h1:=ih λk hk=>h k (by ac_nf)
  have h2:=h n (by ac_nf)
  simp only[cZ];ac_nf
theorem sK{f:Nat->Nat}{e:Nat}(h:∀k,k<e->f k=0):∀m,cZ m f=cZ (m-e) λi=>f (e+i)
 |0=>by rw[Nat.zero_sub];rfl
 |m+1=>by
  simp only[cZ]
  rw[sK h m]
  by_cases hm:m<e
  ·rw[h m hm,show m+1-e=0 by ac_nf,show m-e=0 by ac_nf];rfl
  ·rw[show m+1-e=(m-e)+1 by ac_nf]
   simp only[cZ]
   rw[show e+(m-e)=m by ac_nf]
theorem z0{g:Nat->Nat}{n:Nat}:∀{m:Nat},m<=n->cZ m g<=cZ n g:=by
 intro m h
 induction n with
 |zero=>rw[tQ.mp h];exact ao _
 |succ n ih=>
  by_cases e:m=n+1
  ·rw[e];exact ao _
  ·have:=ih (by ac_nf)
   simp only[cZ];ac_nf
theorem zZ{g:Nat->Nat}{n:Nat}(h:∀i,n<i->g i=0)(m:Nat):cZ m g<=cZ (n+1) g:=by
 by_cases hm:m<=n+1
 ·exact z0 hm
 ·obtain⟨d,rfl⟩:∃d,m=n+1+d:=⟨m-(n+1),by ac_nf⟩
  clear hm
  induction d with
  |zero=>exact ao _
  |succ d ih=>
   show cZ (n+1+d) g+g (n+1+d)<=_
   rw[h _ (by ac_nf)];ac_nf
theorem qx{f:Nat->Nat}{e n m:Nat}(h:∀k,f k≠0->e<=k/\k<=e+n):cZ m f<=cZ (n+1) λi=>f (e+i):=by
 have z:∀k,¬(e<=k/\k<=e+n)->f k=0:=λk hk=>jj λhz=>hk (h k hz)
 rw[sK (e:=e) (λk hk=>z k (by ac_nf)) m]
 exact zZ (λi hi=>z _ (by ac_nf)) _
theorem oW{f:Nat->Nat}{n:Nat}(h:n<6):gv ((bJ 6).map f) n=f n:=by
 unfold gv
 rw[eF,aC,dB h];rfl
theorem Bm{a b:List Nat}(h:A4 a b=true){n:Nat}(hn:n<6):gv a n<=gv b n:=by
 unfold A4 at h
 exact of_decide_eq_true (aS.mp h n (cQ.mpr hn))
theorem zf{T:List Nat}:∀(ps:List Pt) {w:Nat->Nat},(∀k,w k≠0->k<=T.length)->∀k,lC T ps w k≠0->k<=T.length
 |[],w,h,k,hk=>h k hk
 |p::ps,w,h,k,hk=>by
  refine zf ps (w:=mO T p w) (λj hj=> ?_) k hk
  obtain⟨i,hi,hz⟩:=mL hj
  refine jj λhc=>hz ?_
  rw[jw (by ac_nf) (by ac_nf),iD]
noncomputable def dom(p:Pt)(v:List Nat):Prop:=∀T:List Nat,T.length<=5->∀e n,e<=T.length->n<6->nT T p e (e+n)<=gv v n
noncomputable def rdom(ps:List Pt)(v:List Nat):Prop:=∀T:List Nat,T.length<=5->∀e n,e<=T.length->n<6->lC T ps (dl e) (e+n)<=gv v n
theorem dom.le{p:Pt}{v w:List Nat}(h:dom p v)(l:A4 v w=true):dom p w:=λT hT e n he hn=>aR (h T hT e n he hn) (Bm l hn)
theorem rdom.le{p:List Pt}{v w:List Nat}(h:rdom p v)(l:A4 v w=true):rdom p w:=λT hT e n he hn=>aR (h T hT e n he hn) (Bm l hn)
theorem B6:rdom [] [1,0,0,0,0,0]:=λT hT e n he hn=>by
 show dl e (e+n)<=_
 unfold dl
 split
 ·rw[show n=0 by ac_nf];exact ao _
 ·exact bt _
theorem oG{ps:List Pt}{c:Pt}{a b:List Nat}(ha:rdom ps a)(hb:dom c b):rdom (ps++[c]) (qm a b):=λT hT e n he hn=>by
 rw[oF]
 unfold qm
 rw[oW hn]
 show cZ (T.length+1) (λk=>lC T ps (dl e) k*nT T c k (e+n))<=_
 refine aR (qx (e:=e) (n:=n) λk hk=> ?_) (pW λi hi=> ?_)
 ·have h1:lC T ps (dl e) k≠0:=λz=>hk (by rw[z,gH])
  have h2:nT T c k (e+n)≠0:=λz=>hk (by rw[z,iD])
  exact⟨uv ps (λk hk=>Hy hk) k h1,tm h2⟩
 ·by_cases hl:e+i<=T.length
  ·have h1:=ha T hT e i he (by ac_nf)
   have h2:=hb T hT (e+i) (n-i) hl (by ac_nf)
   rw[show e+i+(n-i)=e+n by ac_nf]at h2
   exact Nat.mul_le_mul h1 h2
  ·have h3:lC T ps (dl e) (e+i)=0:=jj λz=>by
    have:=zf (T:=T) ps (w:=dl e) (λk hk=>by unfold dl at hk;split at hk;ac_nf;exact absurd rfl hk) (e+i) z
    ac_nf
   rw[h3,gH];exact bt _
theorem oj(a:Nat->Nat):∀n,(iY a n).length=n+1
 |0=>rfl
 |n+1=>by
  show(iY a n++[_]).length=_
  rw[aP,oj a n];rfl
noncomputable def rr(a:Nat->Nat)(n:Nat):Nat:=gv (iY a n) n
theorem Kk{l m:List Nat}{n:Nat}(h:n<l.length):gv (l++m) n=gv l n:=by
 unfold gv
 rw[eF,eF,bW h]
theorem Gx{l:List Nat}{x:Nat}:gv (l++[x]) l.length=x:=by
 unfold gv
 rw[eF,bS (ao _),lG];rfl
theorem qB(a:Nat->Nat):∀(m n:Nat),n<=m->gv (iY a m) n=rr a n
 |0,n,h=>by rw[tQ.mp h];rfl
 |m+1,n,h=>by
  by_cases e:n=m+1
  ·rw[e];rfl
  ·show gv (iY a m++[_]) n=_
   rw[Kk (by rw[oj];ac_nf),qB a m n (by ac_nf)]
theorem EJ(a:Nat->Nat):rr a 0=1:=rfl
theorem EK(a:Nat->Nat)(n:Nat):rr a (n+1)=cZ (n+1) λi=>a (i+1)*rr a (n-i):=by
 have h:=oj a n
 show gv (iY a n++[cZ (n+1) λi=>a (i+1)*gv (iY a n) (n-i)]) (n+1)=_
 have:gv (iY a n++[cZ (n+1) λi=>a (i+1)*gv (iY a n) (n-i)]) (n+1)=cZ (n+1) λi=>a (i+1)*gv (iY a n) (n-i):=by
  have:=Gx (l:=iY a n) (x:=cZ (n+1) λi=>a (i+1)*gv (iY a n) (n-i))
  rwa [h]at this
 rw[this]
 exact dX λi hi=>by rw[qB a n (n-i) (by ac_nf)]
theorem sJ{f:Nat->Nat}:∀n,cZ (n+1) f=f 0+cZ n λi=>f (i+1)
 |0=>by simp[cZ]
 |n+1=>by
  show cZ (n+1) f+f (n+1)=f 0+(cZ n (λi=>f (i+1))+f (n+1))
  rw[sJ n];ac_nf
theorem o6{p:Pt}{v:List Nat}(hc:bN p=false)(h:dom p v):dom (.again p) (yB v):=λT hT e n he hn=>by
 have main:∀n,n<6->∀e,e<=T.length->nT T (.again p) e (e+n)<=rr (gv v) n:=by
  intro n
  induction n using Nat.strongRecOn with
  |ind n ih=>
   intro hn e he
   rw[iy hc he]
   have w:=qx (f:=λk=>nT T p e k*nT T (.again p) k (e+n)) (e:=e) (n:=n) (m:=T.length+1) λk hk=>by
    have h1:nT T p e k≠0:=λz=>hk (by rw[z,gH])
    have h2:nT T (.again p) k (e+n)≠0:=λz=>hk (by rw[z,iD])
    exact⟨tm h1,tm h2⟩
   rw[sJ (f:=λi=>nT T p e (e+i)*nT T (.again p) (e+i) (e+n))]at w
   rw[show nT T p e (e+0)=0 from jK hc (ao _),gH,fN]at w
   cases n with
   |zero=>
    rw[if_pos (Nat.add_zero e).symm,EJ]
    have:cZ 0 (λi=>nT T p e (e+(i+1))*nT T (.again p) (e+(i+1)) (e+0))=0:=rfl
    ac_nf
   |succ n=>
    rw[if_neg (by ac_nf),fN,EK]
    refine aR w (pW λi hi=> ?_)
    by_cases hl:e+(i+1)<=T.length
    ·have h1:=h T hT e (i+1) he (by ac_nf)
     have h2:=ih (n-i) (by ac_nf) (by ac_nf) (e+(i+1)) hl
     rw[show e+(i+1)+(n-i)=e+(n+1)by ac_nf]at h2
     exact Nat.mul_le_mul h1 h2
    ·rw[jw he (by ac_nf),gH];exact bt _
 have:=main n hn e he
 unfold yB
 rw[qB _ 5 n (by ac_nf)]
 exact this
theorem gq{p:Pt}{v:List Nat}{n:Str}(h:dom p v):dom (.held n p) v:=λT hT e k he hk=>by rw[uA];exact h T hT e k he hk
theorem fI{p:Pt}{v:List Nat}{n:Int}(h:dom p v):dom (.price n p) v:=λT hT e k he hk=>by rw[qQ];exact h T hT e k he hk
theorem fS{ps:List Pt}{v:List Nat}(h:rdom ps v):dom (.row ps) v:=λT hT e k he hk=>by rw[C9 he];exact h T hT e k he hk
theorem nA{v:List Nat}:dom .none v:=λT hT e k he hk=>by rw[FF];exact bt _
theorem tH:dom .blank [1,0,0,0,0,0]:=λT hT e n he hn=>by
 rw[v6]
 split
 ·rw[show n=0 by ac_nf];exact ao _
 ·exact bt _
theorem nz{s:Str}:dom (.sign s) [0,1,0,0,0,0]:=λT hT e n he hn=>by
 show jF (bc T (.sign s) e) (e+n)<=_
 unfold bc
 split
 ·split
  ·rw[j8]
   split
   ·rw[show n=1 by ac_nf];exact ao _
   ·exact bt _
  ·exact bt _
 ·exact bt _
theorem jQ{x y z:Pt}{a b c:List Nat}(ha:dom x a)(hb:dom y b)(hc:dom z c):dom (.pick [x,y,z]) (vh a b c):=λT hT e n he hn=>by
 rw[p8]
 unfold vh Ew
 rw[oW hn,oW hn]
 have h1:=ha T hT e n he hn
 have h2:=hb T hT e n he hn
 have h3:=hc T hT e n he hn
 simp only[aw,jo,bn,dL]
 ac_nf
theorem fT{x y:Pt}{a b c:List Nat}(ha:dom x a)(hb:dom y b):dom (.pick [x,y]) (vh a b c):=λT hT e n he hn=>by
 rw[p8]
 unfold vh Ew
 rw[oW hn,oW hn]
 have h1:=ha T hT e n he hn
 have h2:=hb T hT e n he hn
 simp only[aw,jo,bn,dL]
 ac_nf
theorem qF{x y z:Pt}{a b c:List Nat}(ha:dom x a)(hb:dom y b)(hc:dom z c):rdom [x,y,z] (kW a b c):=by
 have h0:rdom [x] a:=λT hT e n he hn=>by
  show mO T x (dl e) (e+n)<=_
  rw[mM he]
  exact ha T hT e n he hn
 exact oG (ps:=[x,y]) (oG (ps:=[x]) h0 hb) hc
theorem Hh{x:Pt}{a:List Nat}(ha:dom x a):rdom [x] a:=λT hT e n he hn=>by
 show mO T x (dl e) (e+n)<=_
 rw[mM he]
 exact ha T hT e n he hn
theorem sU{x y:Pt}{a b:List Nat}(ha:dom x a)(hb:dom y b):rdom [x,y] (qm a b):=oG (ps:=[x]) (Hh ha) hb
theorem zS{a:List Nat}{n:Nat}(h:n<6):gv (qm a [1,0,0,0,0,0]) n=gv a n:=by
 unfold qm
 rw[oW h]
 show cZ n (λi=>gv a i*gv [1,0,0,0,0,0] (n-i))+gv a n*gv [1,0,0,0,0,0] (n-n)=_
 rw[lG,dX (g:=λ_=>0) λk hk=>by
  rw[show gv [1,0,0,0,0,0] (n-k)=0 by
   obtain⟨d,hd⟩:∃d,n-k=d+1:=⟨n-k-1,by ac_nf⟩
   rw[hd]
   have:d<5:=by ac_nf
   match d,this with
   |0,_=>rfl
   |1,_=>rfl
   |2,_=>rfl
   |3,_=>rfl
   |4,_=>rfl,iD],lc]
 show 0+gv a n*1=_
 ac_nf
theorem qG{x y:Pt}{a b:List Nat}(ha:dom x a)(hb:dom y b):rdom [x,y] (kW a b [1,0,0,0,0,0]):=λT hT e n he hn=>by
 unfold kW
 rw[zS hn]
 exact sU ha hb T hT e n he hn
noncomputable def inA(k:Nat)(p:Pt):Prop:=∃v∈AT k,dom p v
noncomputable def inN(k:Nat)(p:Pt):Prop:=∃v∈NT k,dom p v
theorem oV{v:List Nat}{R:List (List Nat)}(h:in1 v R=true):∃w∈R,A4 v w=true:=by
 unfold in1 at h
 exact List.any_eq_true.mp h
theorem inA.up{p:Pt}{k:Nat}(hk:k<5)(h:inA k p):inA (k+1) p:=by
 obtain⟨v,hv,hd⟩:=h
 obtain⟨w,hw,l⟩:=oV (aS.mp (aS.mp tMA k (cQ.mpr hk)) v hv)
 exact⟨w,hw,hd.le l⟩
theorem inN.up{p:Pt}{k:Nat}(hk:k<5)(h:inN k p):inN (k+1) p:=by
 obtain⟨v,hv,hd⟩:=h
 obtain⟨w,hw,l⟩:=oV (aS.mp (aS.mp tMN k (cQ.mpr hk)) v hv)
 exact⟨w,hw,hd.le l⟩
theorem inA.mono{p:Pt}{k:Nat}(h:inA k p):∀{m:Nat},k<=m->m<=5->inA m p:=by
 intro m
 induction m with
 |zero=>intro h1 _;rw[tQ.mp h1]at h;exact h
 |succ m ih=>
  intro h1 h2
  by_cases e:k=m+1
  ·rw[<-e];exact h
  ·exact(ih (by ac_nf) (by ac_nf)).up (by ac_nf)
theorem inN.mono{p:Pt}{k:Nat}(h:inN k p):∀{m:Nat},k<=m->m<=5->inN m p:=by
 intro m
 induction m with
 |zero=>intro h1 _;rw[tQ.mp h1]at h;exact h
 |succ m ih=>
  intro h1 h2
  by_cases e:k=m+1
  ·rw[<-e];exact h
  ·exact(ih (by ac_nf) (by ac_nf)).up (by ac_nf)
structure Dm(k:Nat)(p:Pt):Prop where
 ab:inA k p
 nb:bN p=false->inN k p
 one:k=0->size p=1
 le:k<=5
theorem Dm.mono{k m:Nat}{p:Pt}(h:Dm k p)(h1:k<=m)(h2:m<=5):Dm m p:=⟨h.ab.mono h1 h2,λc=>(h.nb c).mono h1 h2,λe=>h.one (by ac_nf),h2⟩
theorem Dm.none:Dm 0 .none:=⟨⟨[1,0,0,0,0,0],by decide,nA⟩,λ_=>⟨[0,1,0,0,0,0],by decide,nA⟩,λ_=>rfl,by ac_nf⟩
theorem Dm.blank:Dm 0 .blank:=⟨⟨[1,0,0,0,0,0],by decide,tH⟩,λh=>by simp[bN]at h,λ_=>rfl,by ac_nf⟩
theorem Dm.sign{s:Str}:Dm 0 (.sign s):=⟨⟨[0,1,0,0,0,0],by decide,nz⟩,λ_=>⟨[0,1,0,0,0,0],by decide,nz⟩,λ_=>rfl,by ac_nf⟩
theorem Dm.held{k:Nat}{n:Str}{p:Pt}(h:Dm k p)(hk:k<5):Dm (k+1) (.held n p):=
 ⟨by obtain⟨v,hv,hd⟩:=h.ab.up hk;exact⟨v,hv,gq hd⟩,λc=>by obtain⟨v,hv,hd⟩:=(h.nb (by simpa [bN]using c)).up hk;exact⟨v,hv,gq hd⟩,λe=>by ac_nf,by ac_nf⟩
theorem Dm.price{k:Nat}{n:Int}{p:Pt}(h:Dm k p)(hk:k<5):Dm (k+1) (.price n p):=
 ⟨by obtain⟨v,hv,hd⟩:=h.ab.up hk;exact⟨v,hv,fI hd⟩,λc=>by obtain⟨v,hv,hd⟩:=(h.nb (by simpa [bN]using c)).up hk;exact⟨v,hv,fI hd⟩,λe=>by ac_nf,by ac_nf⟩
theorem Dm.again{k:Nat}{p:Pt}(h:Dm k p)(hc:bN p=false)(hk:k<5):Dm (k+1) (.again p):=
 ⟨by
  obtain⟨v,hv,hd⟩:=h.nb hc
  obtain⟨w,hw,l⟩:=oV (aS.mp (aS.mp tS k (cQ.mpr hk)) v hv)
  exact⟨w,hw,(o6 hc hd).le l⟩,λc=>by simp[bN]at c,λe=>by ac_nf,by ac_nf⟩
noncomputable def inR(k:Nat)(ps:List Pt):Prop:=∃v∈AT k,rdom ps v
noncomputable def Gu(k:Nat)(ps:List Pt):Prop:=∃v∈NT k,rdom ps v
theorem i6{f:List Nat->List Nat->List Nat->List Nat}{A B C R:List (List Nat)}(h:HA f A B C R=true){x y z:List Nat}(hx:x∈A)(hy:y∈B)(hz:z∈C):∃w∈R,A4 (f x y z) w=true:=by
 unfold HA at h
 exact oV (aS.mp (aS.mp (aS.mp h x hx) y hy) z hz)
theorem yk{f:List Nat->List Nat->List Nat}{A B R:List (List Nat)}(h:MY f A B R=true){x y:List Nat}(hx:x∈A)(hy:y∈B):∃w∈R,A4 (f x y) w=true:=by
 unfold MY at h
 exact oV (aS.mp (aS.mp h x hx) y hy)
theorem Hg{a b c:Nat}{x y z:Pt}(hx:inA a x)(hy:inA b y)(hz:inA c z)(hk:a+b+c<=4):inR (a+b+c+1) [x,y,z]:=by
 obtain⟨u,hu,du⟩:=hx
 obtain⟨v,hv,dv⟩:=hy
 obtain⟨w,hw,dw⟩:=hz
 obtain⟨r,hr,l⟩:=i6 (gX tRA hk) hu hv hw
 exact⟨r,hr,(qF du dv dw).le l⟩
theorem vS{a b:Nat}{x y:Pt}(hx:inA a x)(hy:inA b y)(hk:a+b<=4):inR (a+b+1) [x,y]:=by
 obtain⟨u,hu,du⟩:=hx
 obtain⟨v,hv,dv⟩:=hy
 obtain⟨r,hr,l⟩:=i6 (gX tRA (a:=a) (b:=b) (c:=0) (by ac_nf)) hu hv (show[1,0,0,0,0,0]∈AT 0 by decide)
 exact⟨r,hr,(qG du dv).le l⟩
theorem sT{a:Nat}{x:Pt}(hx:inA a x):inR a [x]:=by
 obtain⟨u,hu,du⟩:=hx
 exact⟨u,hu,Hh du⟩
theorem Lh{a b c:Nat}{x y z:Pt}(hx:Dm a x)(hy:Dm b y)(hz:Dm c z)(hk:a+b+c<=4)(hc:iB [x,y,z]=false):Gu (a+b+c+1) [x,y,z]:=by
 have h3:bN x=false\/bN y=false\/bN z=false:=by
  cases e1:bN x<;>cases e2:bN y<;>cases e3:bN z<;>simp[iB,e1,e2,e3]at hc⊢
 rcases h3 with h|h|h
 ·obtain⟨u,hu,du⟩:=hx.nb h
  obtain⟨v,hv,dv⟩:=hy.ab
  obtain⟨w,hw,dw⟩:=hz.ab
  obtain⟨r,hr,l⟩:=i6 (gX K0 hk) hu hv hw
  exact⟨r,hr,(qF du dv dw).le l⟩
 ·obtain⟨u,hu,du⟩:=hx.ab
  obtain⟨v,hv,dv⟩:=hy.nb h
  obtain⟨w,hw,dw⟩:=hz.ab
  obtain⟨r,hr,l⟩:=i6 (gX KZ hk) hu hv hw
  exact⟨r,hr,(qF du dv dw).le l⟩
 ·obtain⟨u,hu,du⟩:=hx.ab
  obtain⟨v,hv,dv⟩:=hy.ab
  obtain⟨w,hw,dw⟩:=hz.nb h
  obtain⟨r,hr,l⟩:=i6 (gX NI hk) hu hv hw
  exact⟨r,hr,(qF du dv dw).le l⟩
theorem Li{a b:Nat}{x y:Pt}(hx:Dm a x)(hy:Dm b y)(hk:a+b<=4)(hc:iB [x,y]=false):Gu (a+b+1) [x,y]:=by
 have h3:bN x=false\/bN y=false:=by
  cases e1:bN x<;>cases e2:bN y<;>simp[iB,e1,e2]at hc⊢
 have h0:[1,0,0,0,0,0]∈AT 0:=by decide
 rcases h3 with h|h
 ·obtain⟨u,hu,du⟩:=hx.nb h
  obtain⟨v,hv,dv⟩:=hy.ab
  obtain⟨r,hr,l⟩:=i6 (gX K0 (a:=a) (b:=b) (c:=0) (by ac_nf)) hu hv h0
  exact⟨r,hr,(qG du dv).le l⟩
 ·obtain⟨u,hu,du⟩:=hx.ab
  obtain⟨v,hv,dv⟩:=hy.nb h
  obtain⟨r,hr,l⟩:=i6 (gX KZ (a:=a) (b:=b) (c:=0) (by ac_nf)) hu hv h0
  exact⟨r,hr,(qG du dv).le l⟩
theorem Dm.row3{a b c:Nat}{x y z:Pt}(hx:Dm a x)(hy:Dm b y)(hz:Dm c z)(hk:a+b+c<=4):Dm (a+b+c+1) (.row [x,y,z]):=
 ⟨by obtain⟨v,hv,d⟩:=Hg hx.ab hy.ab hz.ab hk;exact⟨v,hv,fS d⟩,λh=>by obtain⟨v,hv,d⟩:=Lh hx hy hz hk (by simpa [bN]using h);exact⟨v,hv,fS d⟩,λe=>by ac_nf,by ac_nf⟩
theorem Dm.row2{a b:Nat}{x y:Pt}(hx:Dm a x)(hy:Dm b y)(hk:a+b<=4):Dm (a+b+1) (.row [x,y]):=
 ⟨by obtain⟨v,hv,d⟩:=vS hx.ab hy.ab hk;exact⟨v,hv,fS d⟩,λh=>by obtain⟨v,hv,d⟩:=Li hx hy hk (by simpa [bN]using h);exact⟨v,hv,fS d⟩,λe=>by ac_nf,by ac_nf⟩
theorem Dm.pick3{a b c:Nat}{x y z:Pt}(hx:Dm a x)(hy:Dm b y)(hz:Dm c z)(hk:a+b+c<=4):Dm (a+b+c+1) (.pick [x,y,z]):=
 ⟨by
  obtain⟨u,hu,du⟩:=hx.ab
  obtain⟨v,hv,dv⟩:=hy.ab
  obtain⟨w,hw,dw⟩:=hz.ab
  obtain⟨r,hr,l⟩:=i6 (gX tPA hk) hu hv hw
  exact⟨r,hr,(jQ du dv dw).le l⟩,λh=>by
  have h':(bN x=false)/\(bN y=false)/\bN z=false:=by simpa [bN,jg]using h
  obtain⟨u,hu,du⟩:=hx.nb h'.1
  obtain⟨v,hv,dv⟩:=hy.nb h'.2.1
  obtain⟨w,hw,dw⟩:=hz.nb h'.2.2
  obtain⟨r,hr,l⟩:=i6 (gX tPN hk) hu hv hw
  exact⟨r,hr,(jQ du dv dw).le l⟩,λe=>by ac_nf,by ac_nf⟩
theorem Dm.pick2{a b:Nat}{x y:Pt}(hx:Dm a x)(hy:Dm b y)(hk:a+b<=4):Dm (a+b+1) (.pick [x,y]):=
 ⟨by
  obtain⟨u,hu,du⟩:=hx.ab
  obtain⟨v,hv,dv⟩:=hy.ab
  obtain⟨r,hr,l⟩:=i6 (gX tPA (a:=a) (b:=b) (c:=0) (by ac_nf)) hu hv (show[1,0,0,0,0,0]∈AT 0 by decide)
  exact⟨r,hr,(fT du dv).le l⟩,λh=>by
  have h':(bN x=false)/\(bN y=false):=by simpa [bN,jg]using h
  obtain⟨u,hu,du⟩:=hx.nb h'.1
  obtain⟨v,hv,dv⟩:=hy.nb h'.2
  obtain⟨r,hr,l⟩:=i6 (gX tPN (a:=a) (b:=b) (c:=0) (by ac_nf)) hu hv (show[0,1,0,0,0,0]∈NT 0 by decide)
  exact⟨r,hr,(fT du dv).le l⟩,λe=>by ac_nf,by ac_nf⟩
mutual
noncomputable def fL:Pt->Prop
 | .none=>True
 | .blank=>True
 | .sign s=>1<=s.length/\s.length<=5
 | .row ps=>(2<=ps.length/\ps.length<=3)/\(inA 5 (.row ps)/\∀i,inR 5 (ps.take i))/\qN ps
 | .pick ps=>(2<=ps.length/\ps.length<=3)/\inA 5 (.pick ps)/\qN ps
 | .again p=>bN p=false/\inA 5 (.again p)/\fL p
 | .held n p=>n.length<=8/\fL p
 | .price _ p=>fL p
noncomputable def qN:List Pt->Prop
 |[]=>True
 |p::ps=>fL p/\qN ps
end
theorem gS{t:Pt}(ok:fL t)(h:size t=1):(dom t [1,0,0,0,0,0]\/dom t [0,1,0,0,0,0])/\(bN t=false->dom t [0,1,0,0,0,0]):=by
 have big:∀p:Pt,1<=size p:=fC
 cases t with
 |none=>exact⟨.inl nA,λ_=>nA⟩
 |blank=>exact⟨.inl tH,λh=>by simp[bN]at h⟩
 |sign s=>exact⟨.inr nz,λ_=>nz⟩
 |row ps=>
  have h1:=cK ps
  have h2:1+cf ps=1:=h
  have h3:=ok.1.1
  ac_nf
 |pick ps=>
  have h1:=cK ps
  have h2:1+cf ps=1:=h
  have h3:=ok.1.1
  ac_nf
 |again p=>
  have h2:1+size p=1:=h
  have:=big p
  ac_nf
 |held n p=>
  have h2:1+size p=1:=h
  have:=big p
  ac_nf
 |price n p=>
  have h2:1+size p=1:=h
  have:=big p
  ac_nf
theorem qp{ps:List Pt}(ok:qN ps)(h2:2<=ps.length)(h:cf ps<3):∃x y,ps=[x,y]/\(fL x/\size x=1)/\fL y/\size y=1:=by
 match ps,h2,ok,h with
 |[x,y],_,ok,h=>
  have h3:size x+(size y+0)<3:=h
  have:=fC x
  have:=fC y
  exact⟨x,y,rfl,⟨ok.1,by ac_nf⟩,ok.2.1,by ac_nf⟩
 |x::y::z::r,_,ok,h=>
  have h3:size x+(size y+(size z+cf r))<3:=h
  have:=fC x
  have:=fC y
  have:=fC z
  ac_nf
theorem tj:A4 (yB [0,1,0,0,0,0]) [1,1,1,1,1,1]=true:=by decide+kernel
theorem nc{t:Pt}(ok:fL t)(h:size t<3):(dom t [1,0,0,0,0,0]\/dom t [0,1,0,0,0,0]\/dom t [1,1,1,1,1,1])/\(bN t=false->dom t [0,1,0,0,0,0]):=by
 by_cases e:size t=1
 ·obtain⟨h1,h2⟩:=gS ok e
  exact⟨by rcases h1 with h|h;exact .inl h;exact .inr (.inl h),h2⟩
 have hp:=fC t
 cases t with
 |none=>exact absurd rfl e
 |blank=>exact absurd rfl e
 |sign s=>exact absurd rfl e
 |row ps=>
  have h1:=cK ps
  have h2:1+cf ps<3:=h
  have h3:=ok.1.1
  ac_nf
 |pick ps=>
  have h1:=cK ps
  have h2:1+cf ps<3:=h
  have h3:=ok.1.1
  ac_nf
 |again p=>
  have h2:1+size p<3:=h
  have:=fC p
  obtain⟨_,h4⟩:=gS ok.2.2 (by ac_nf)
  exact⟨.inr (.inr ((o6 ok.1 (h4 ok.1)).le tj)),λh=>by simp[bN]at h⟩
 |held n p=>
  have h2:1+size p<3:=h
  have:=fC p
  obtain⟨h3,h4⟩:=gS ok.2 (by ac_nf)
  exact⟨by rcases h3 with h|h;exact .inl (gq h);exact .inr (.inl (gq h)),λc=>gq (h4 (by simpa [bN]using c))⟩
 |price n p=>
  have h2:1+size p<3:=h
  have:=fC p
  have ok':fL p:=ok
  obtain⟨h3,h4⟩:=gS ok' (by ac_nf)
  exact⟨by rcases h3 with h|h;exact .inl (fI h);exact .inr (.inl (fI h)),λc=>fI (h4 (by simpa [bN]using c))⟩
theorem Aa{t:Pt}(ok:fL t)(h:size t<4):(∃v∈ST 1,dom t v)/\(bN t=false->∃v∈SM 1,dom t v):=by
 have up1:dom t [1,0,0,0,0,0]\/dom t [0,1,0,0,0,0]\/dom t [1,1,1,1,1,1]->∃v∈ST 1,dom t v:=λz=>by
  rcases z with z|z|z
  ·exact⟨[1,1,1,1,1,1],by decide,z.le (by decide)⟩
  ·exact⟨[1,1,1,1,1,1],by decide,z.le (by decide)⟩
  ·exact⟨[1,1,1,1,1,1],by decide,z⟩
 have up2:dom t [0,1,0,0,0,0]->∃v∈SM 1,dom t v:=λz=>⟨[0,2,0,0,0,0],by decide,z.le (by decide)⟩
 by_cases e:size t<3
 ·obtain⟨h1,h2⟩:=nc ok e
  exact⟨up1 h1,λc=>up2 (h2 c)⟩
 cases t with
 |none=>exact absurd (show(1:Nat)<3 by ac_nf) e
 |blank=>exact absurd (show(1:Nat)<3 by ac_nf) e
 |sign s=>exact absurd (show(1:Nat)<3 by ac_nf) e
 |row ps=>
  obtain⟨x,y,rfl,⟨ox,sx⟩,oy,sy⟩:=qp ok.2.2 ok.1.1 (by have:1+cf ps<4:=h;ac_nf)
  obtain⟨dx,nx⟩:=gS ox sx
  obtain⟨dy,ny⟩:=gS oy sy
  refine⟨?_,λc=> ?_⟩
  ·rcases dx with dx|dx<;>rcases dy with dy|dy<;>exact⟨[1,1,1,1,1,1],by decide,(fS (sU dx dy)).le (by decide+kernel)⟩
  ·have h3:bN x=false\/bN y=false:=by
    cases e1:bN x<;>cases e2:bN y<;>simp[bN,iB,e1,e2]at c⊢
   rcases h3 with z|z
   ·rcases dy with dy|dy
    ·exact⟨[0,2,0,0,0,0],by decide,(fS (sU (nx z) dy)).le (by decide+kernel)⟩
    ·exact⟨[0,0,1,0,0,0],by decide,(fS (sU (nx z) dy)).le (by decide+kernel)⟩
   ·rcases dx with dx|dx
    ·exact⟨[0,2,0,0,0,0],by decide,(fS (sU dx (ny z))).le (by decide+kernel)⟩
    ·exact⟨[0,0,1,0,0,0],by decide,(fS (sU dx (ny z))).le (by decide+kernel)⟩
 |pick ps=>
  obtain⟨x,y,rfl,⟨ox,sx⟩,oy,sy⟩:=qp ok.2.2 ok.1.1 (by have:1+cf ps<4:=h;ac_nf)
  obtain⟨dx,nx⟩:=gS ox sx
  obtain⟨dy,ny⟩:=gS oy sy
  refine⟨?_,λc=> ?_⟩
  ·rcases dx with dx|dx<;>rcases dy with dy|dy
   ·exact⟨[2,0,0,0,0,0],by decide,(fT (c:=[]) dx dy).le (by decide+kernel)⟩
   ·exact⟨[1,1,1,1,1,1],by decide,(fT (c:=[]) dx dy).le (by decide+kernel)⟩
   ·exact⟨[1,1,1,1,1,1],by decide,(fT (c:=[]) dx dy).le (by decide+kernel)⟩
   ·exact⟨[0,2,0,0,0,0],by decide,(fT (c:=[]) dx dy).le (by decide+kernel)⟩
  ·have h3:bN x=false/\bN y=false:=by simpa [bN,jg]using c
   exact⟨[0,2,0,0,0,0],by decide,(fT (c:=[]) (nx h3.1) (ny h3.2)).le (by decide+kernel)⟩
 |again p=>
  have h2:1+size p<4:=h
  obtain⟨_,h4⟩:=nc ok.2.2 (by ac_nf)
  exact⟨⟨[1,1,1,1,1,1],by decide,(o6 ok.1 (h4 ok.1)).le tj⟩,λh=>by simp[bN]at h⟩
 |held n p=>
  have h2:1+size p<4:=h
  obtain⟨h3,h4⟩:=nc ok.2 (by ac_nf)
  exact⟨up1 (by rcases h3 with h|h|h;exact .inl (gq h);exact .inr (.inl (gq h));exact .inr (.inr (gq h))),λc=>up2 (gq (h4 (by simpa [bN]using c)))⟩
 |price n p=>
  have h2:1+size p<4:=h
  have ok':fL p:=ok
  obtain⟨h3,h4⟩:=nc ok' (by ac_nf)
  exact⟨up1 (by rcases h3 with h|h|h;exact .inl (fI h);exact .inr (.inl (fI h));exact .inr (.inr (fI h))),λc=>up2 (fI (h4 (by simpa [bN]using c)))⟩
theorem Dm.small{k:Nat}{t:Pt}(h:Dm k t)(ok:fL t)(hs:size t<4):(∃v∈ST k,dom t v)/\(bN t=false->∃v∈SM k,dom t v):=by
 by_cases e:k=0
 ·subst e
  obtain⟨h1,h2⟩:=gS ok (h.one rfl)
  exact⟨by rcases h1 with h|h;exact⟨_,by decide,h⟩;exact⟨_,by decide,h⟩,λc=>⟨_,by decide,h2 c⟩⟩
 ·have e1:ST k=ST 1:=by unfold ST;rw[show min k 1=1 by ac_nf];rfl
  have e2:SM k=SM 1:=by unfold SM;rw[show min k 1=1 by ac_nf];rfl
  rw[e1,e2]
  exact Aa ok hs
theorem o5{f:List Nat->List Nat->List Nat->List Nat}{A B R:List (List Nat)}(h:GI f A B R=true){x t:List Nat}(hx:x∈A)(ht:t∈B):(∃w∈R,A4 (f x t t) w=true)/\(∃w∈R,A4 (f t x t) w=true)/\∃w∈R,A4 (f t t x) w=true:=by
 unfold GI at h
 rw[bp,bp]at h
 exact⟨yk h.1.1 hx ht,yk h.1.2 hx ht,yk h.2 hx ht⟩
noncomputable def pL(i:Nat)(x t:Pt):List Pt:=match i with
 |0=>[x,t,t]
 |1=>[t,x,t]
 |_=>[t,t,x]
theorem GH{a k i:Nat}{x t:Pt}(hx:Dm a x)(ht:Dm k t)(ok:fL t)(hs:size t<4)(hk:a+k<=4):inR (a+k+1) (pL i x t)/\(iB (pL i x t)=false->Gu (a+k+1) (pL i x t)):=by
 obtain⟨s1,s2⟩:=ht.small ok hs
 obtain⟨u,hu,du⟩:=hx.ab
 obtain⟨v,hv,dv⟩:=s1
 have main:∀{A B R:List (List Nat)} {u v:List Nat},GI kW A B R=true->u∈A->v∈B->dom x u->dom t v->∃w∈R,rdom (pL i x t) w:=fun{A B R u v} h hu hv du dv=>by
  obtain⟨⟨w1,m1,l1⟩,⟨w2,m2,l2⟩,w3,m3,l3⟩:=o5 h hu hv
  unfold pL
  split
  ·exact⟨w1,m1,(qF du dv dv).le l1⟩
  ·exact⟨w2,m2,(qF dv du dv).le l2⟩
  ·exact⟨w3,m3,(qF dv dv du).le l3⟩
 refine⟨main (iR tDA hk) hu hv du dv,λc=> ?_⟩
 have h3:bN x=false\/bN t=false:=by
  unfold pL at c
  cases e1:bN x<;>cases e2:bN t<;>simp
  split at c<;>simp[iB,e1,e2]at c
 rcases h3 with z|z
 ·obtain⟨u,hu,du⟩:=hx.nb z
  exact main (iR tDM hk) hu hv du dv
 ·obtain⟨v,hv,dv⟩:=s2 z
  exact main (iR tDN hk) hu hv du dv
theorem Dm.rowD{a k i:Nat}{x t:Pt}(hx:Dm a x)(ht:Dm k t)(ok:fL t)(hs:size t<4)(hk:a+k<=4):Dm (a+k+1) (.row (pL i x t)):=by
 obtain⟨h1,h2⟩:=GH (i:=i) hx ht ok hs hk
 exact⟨by obtain⟨v,hv,d⟩:=h1;exact⟨v,hv,fS d⟩,λc=>by obtain⟨v,hv,d⟩:=h2 (by simpa [bN]using c);exact⟨v,hv,fS d⟩,λe=>by ac_nf,by ac_nf⟩
theorem Dm.pickD{a k i:Nat}{x t:Pt}(hx:Dm a x)(ht:Dm k t)(ok:fL t)(hs:size t<4)(hk:a+k<=4):Dm (a+k+1) (.pick (pL i x t)):=by
 obtain⟨s1,s2⟩:=ht.small ok hs
 have main:∀{A B R:List (List Nat)} {u v:List Nat},GI vh A B R=true->u∈A->v∈B->dom x u->dom t v->∃w∈R,dom (.pick (pL i x t)) w:=fun{A B R u v} h hu hv du dv=>by
  obtain⟨⟨w1,m1,l1⟩,⟨w2,m2,l2⟩,w3,m3,l3⟩:=o5 h hu hv
  unfold pL
  split
  ·exact⟨w1,m1,(jQ du dv dv).le l1⟩
  ·exact⟨w2,m2,(jQ dv du dv).le l2⟩
  ·exact⟨w3,m3,(jQ dv dv du).le l3⟩
 refine⟨?_,λc=> ?_,λe=>by ac_nf,by ac_nf⟩
 ·obtain⟨u,hu,du⟩:=hx.ab
  obtain⟨v,hv,dv⟩:=s1
  exact main (iR tEA hk) hu hv du dv
 ·have h3:bN x=false/\bN t=false:=by
   have c':jg (pL i x t)=false:=by simpa [bN]using c
   unfold pL at c'
   split at c'<;>simp[jg]at c'<;>simp[c']
  obtain⟨u,hu,du⟩:=hx.nb h3.1
  obtain⟨v,hv,dv⟩:=s2 h3.2
  exact main (iR tEN hk) hu hv du dv
theorem fM{p:Pt}{k:Nat}(h:Dm k p):inA 5 p:=h.ab.mono h.le (ao _)
theorem lh:∀(p:Pt),fL p->inA 5 p
 | .none,_=>fM Dm.none
 | .blank,_=>fM Dm.blank
 | .sign _,_=>fM Dm.sign
 | .row _,h=>h.2.1.1
 | .pick _,h=>h.2.1
 | .again _,h=>h.2.1
 | .held _ p,h=>by obtain⟨v,hv,d⟩:=lh p h.2;exact⟨v,hv,gq d⟩
 | .price _ p,h=>by obtain⟨v,hv,d⟩:=lh p h;exact⟨v,hv,fI d⟩
mutual
theorem hZ:∀(p:Pt),fL p->∀q∈makes p,fL q
 | .none,h,q,hq=>by simp[makes]at hq;rw[hq];exact h
 | .blank,h,q,hq=>by simp[makes]at hq;rw[hq];exact h
 | .sign _,h,q,hq=>by simp[makes]at hq;rw[hq];exact h
 | .row ps,h,q,hq=>by
  simp only[makes,aI]at hq
  rcases hq with rfl|hq
  ·exact h
  ·exact l9 ps h.2.2 q hq
 | .pick ps,h,q,hq=>by
  simp only[makes,aI]at hq
  rcases hq with rfl|hq
  ·exact h
  ·exact l9 ps h.2.2 q hq
 | .again p,h,q,hq=>by
  simp only[makes,aI]at hq
  rcases hq with rfl|hq
  ·exact h
  ·exact hZ p h.2.2 q hq
 | .held _ p,h,q,hq=>by
  simp only[makes,aI]at hq
  rcases hq with rfl|hq
  ·exact h
  ·exact hZ p h.2 q hq
 | .price _ p,h,q,hq=>by
  simp only[makes,aI]at hq
  rcases hq with rfl|hq
  ·exact h
  ·exact hZ p h q hq
theorem l9:∀(ps:List Pt),qN ps->∀q∈dH ps,fL q
 |[],_,q,hq=>by simp[dH]at hq
 |p::ps,h,q,hq=>by
  simp only[dH,bo]at hq
  rcases hq with hq|hq
  ·exact hZ p h.1 q hq
  ·exact l9 ps h.2 q hq
end
theorem i3:∀{ps:List Pt},qN ps->∀q∈ps,fL q
 |p::ps,h,q,hq=>by
  rcases aI.mp hq with rfl|hq
  ·exact h.1
  ·exact i3 h.2 q hq
mutual
theorem i4:∀(p:Pt),fL p->size p<=4^depth p
 | .none,_=>by simp[size,depth]
 | .blank,_=>by simp[size,depth]
 | .sign _,_=>by simp[size,depth]
 | .row ps,h=>by
  have:=oK ps h.2.2
  have h1:=h.1.2
  simp only[size,depth]
  rw[ja,nV]
  have h2:0<4^bd ps:=kg (by ac_nf)
  have h3:ps.length*4^bd ps<=3*4^bd ps:=nW _ h1
  ac_nf
 | .pick ps,h=>by
  have:=oK ps h.2.2
  have h1:=h.1.2
  simp only[size,depth]
  rw[ja,nV]
  have h2:0<4^bd ps:=kg (by ac_nf)
  have h3:ps.length*4^bd ps<=3*4^bd ps:=nW _ h1
  ac_nf
 | .again p,h=>by
  have:=i4 p h.2.2
  simp only[size,depth]
  rw[ja,nV]
  have h2:0<4^depth p:=kg (by ac_nf)
  ac_nf
 | .held _ p,h=>by
  have:=i4 p h.2
  simp only[size,depth]
  rw[ja,nV]
  have h2:0<4^depth p:=kg (by ac_nf)
  ac_nf
 | .price _ p,h=>by
  have:=i4 p h
  simp only[size,depth]
  rw[ja,nV]
  have h2:0<4^depth p:=kg (by ac_nf)
  ac_nf
theorem oK:∀(ps:List Pt),qN ps->cf ps<=ps.length*4^bd ps
 |[],_=>by simp[cf]
 |p::ps,h=>by
  have h1:=i4 p h.1
  have h2:=oK ps h.2
  simp only[cf,bd,aU]
  have h3:4^depth p<=4^max (depth p) (bd ps):=bX (by ac_nf) (Nat.le_max_left _ _)
  have h4:4^bd ps<=4^max (depth p) (bd ps):=bX (by ac_nf) (Nat.le_max_right _ _)
  have h5:ps.length*4^bd ps<=ps.length*4^max (depth p) (bd ps):=Nat.mul_le_mul_left _ h4
  rw[Nat.add_mul,Nat.one_mul]
  ac_nf
end
theorem zt{α:Type}{l:List (α×Nat)}{e L:Nat}(hL:L<=5)(he:e<=L)(h:∀x∈l,e<=x.2/\x.2<=L):l.length<=cZ 6 λn=>jF l (e+n):=by
 have h1:=Mu (g:=λ_=>1) (n:=L+1) l λs hs=>by have:=(h s hs).2;ac_nf
 have h2:(l.map λ_=>1).sum=l.length:=by
  clear h h1
  induction l with
  |nil=>rfl
  |cons x l ih=>rw[aw,bn,ih,aU];ac_nf
 rw[h2]at h1
 rw[h1,dX (g:=λk=>jF l k) λk _=>Nat.mul_one _]
 refine qx (n:=5) λk hk=> ?_
 have h3:0<jF l k:=eK hk
 obtain⟨x,hx,hp⟩:=ji.mp h3
 have h4:=h x hx
 have h5:x.2=k:=by simpa using hp
 ac_nf
theorem Bw{v:List Nat}(h:v∈AT 5):cZ 6 (gv v)<=14900788:=of_decide_eq_true (aS.mp (aS.mp NF 5 (by decide)) v h)
theorem pT{T:List Nat}{p:Pt}{e:Nat}(hT:T.length<=5)(h:inA 5 p)(he:e<=T.length):(bc T p e).length<=14900788:=by
 obtain⟨v,hv,d⟩:=h
 refine aR (zt hT he λx hx=>⟨kC T p e x hx,g9 T p e he x hx⟩) (aR (pW λn hn=>d T hT e n he hn) (Bw hv))
theorem Bu{T:List Nat}{ps:List Pt}{e:Nat}(hT:T.length<=5)(h:inR 5 ps)(he:e<=T.length):(fY T ps [([],e)]).length<=14900788:=by
 obtain⟨v,hv,d⟩:=h
 have hm:∀s∈[(([]:List Tr),e)],s.2<=T.length:=λs hs=>by cases aA.mp hs;exact he
 refine aR (zt hT he λx hx=>⟨pV T ps _ e (λs hs=>by cases aA.mp hs;exact ao _) x hx,pU T ps _ hm x hx⟩) (aR (pW λn hn=> ?_) (Bw hv))
 rw[qv T ps _ hm]
 have:jF [(([]:List Tr),e)]=dl e:=by funext k;exact j8 _ e k
 rw[this]
 exact d T hT e n he hn
theorem MX{T:List Nat}{p:Pt}(hT:T.length<=5)(h:fL p)(hd:depth p<=5):Cs T p:=by
 refine⟨by ac_nf,?_,λq hq e he j=> ?_,λq hq=>(hZ p h _ hq).1⟩
 ·have h1:=i4 p h
  have h2:4^depth p<=4^5:=bX (by ac_nf) hd
  ac_nf
 ·have h1:=pT hT (lh q (hZ p h q hq)) he
  have h2:nT T q e j<=(bc T q e).length:=List.countP_le_length
  ac_nf
theorem lp:inR 5 []:=⟨[1,27,729,19683,531441,14348907],by decide,B6.le (by decide+kernel)⟩
theorem inR.mono{ps:List Pt}{k:Nat}(h:inR k ps)(h1:k<=5):inR 5 ps:=by
 obtain⟨v,hv,d⟩:=h
 have up:∀j v,j<5->v∈AT j->rdom ps v->∃w∈AT (j+1),rdom ps w:=λj v hj hv d=>by
  obtain⟨w,hw,l⟩:=oV (aS.mp (aS.mp tMA j (cQ.mpr hj)) v hv)
  exact⟨w,hw,d.le l⟩
 have go:∀n j v,j+n=5->v∈AT j->rdom ps v->inR 5 ps:=by
  intro n
  induction n with
  |zero=>intro j v hj hv d;rw[show j=5 by ac_nf]at hv;exact⟨v,hv,d⟩
  |succ n ih=>
   intro j v hj hv d
   obtain⟨w,hw,dw⟩:=up j v (by ac_nf) hv d
   exact ih (j+1) w (by ac_nf) hw dw
 exact go (5-k) k v (by ac_nf) hv d
theorem DT{k:Nat}{t:Pt}(ht:Dm k t)(ok:fL t)(hs:size t<4)(hk:k<=4):inR (k+1) [t,t]/\(iB [t,t]=false->Gu (k+1) [t,t]):=by
 obtain⟨s1,s2⟩:=ht.small ok hs
 have h0:[1,0,0,0,0,0]∈AT 0:=by decide
 refine⟨?_,λc=> ?_⟩
 ·obtain⟨v,hv,dv⟩:=s1
  obtain⟨_,_,w,m,l⟩:=o5 (iR tDA (a:=0) (b:=k) (by ac_nf)) h0 hv
  rw[fN]at m
  exact⟨w,m,(qG dv dv).le l⟩
 ·have z:bN t=false:=by simpa [iB]using c
  obtain⟨v,hv,dv⟩:=s2 z
  obtain⟨_,_,w,m,l⟩:=o5 (iR tDN (a:=0) (b:=k) (by ac_nf)) h0 hv
  rw[fN]at m
  exact⟨w,m,(qG dv dv).le l⟩
theorem Dm.rowD2{k:Nat}{t:Pt}(ht:Dm k t)(ok:fL t)(hs:size t<4)(hk:k<=4):Dm (k+1) (.row [t,t]):=by
 obtain⟨h1,h2⟩:=DT ht ok hs hk
 exact⟨by obtain⟨v,hv,d⟩:=h1;exact⟨v,hv,fS d⟩,λc=>by obtain⟨v,hv,d⟩:=h2 (by simpa [bN]using c);exact⟨v,hv,fS d⟩,λe=>by ac_nf,by ac_nf⟩
theorem Dm.pickD2{k:Nat}{t:Pt}(ht:Dm k t)(ok:fL t)(hs:size t<4)(hk:k<=4):Dm (k+1) (.pick [t,t]):=by
 obtain⟨s1,s2⟩:=ht.small ok hs
 refine⟨?_,λc=> ?_,λe=>by ac_nf,by ac_nf⟩
 ·obtain⟨v,hv,dv⟩:=s1
  obtain⟨_,_,w,m,l⟩:=o5 (iR tEA (a:=0) (b:=k) (by ac_nf)) (show[1,0,0,0,0,0]∈AT 0 by decide) hv
  rw[fN]at m
  exact⟨w,m,(fT dv dv).le l⟩
 ·have z:bN t=false:=by simpa [bN,jg]using c
  obtain⟨v,hv,dv⟩:=s2 z
  obtain⟨_,_,w,m,l⟩:=o5 (iR tEN (a:=0) (b:=k) (by ac_nf)) (show[0,1,0,0,0,0]∈NT 0 by decide) hv
  rw[fN]at m
  exact⟨w,m,(fT dv dv).le l⟩
structure Rw(k:Nat)(ps:List Pt):Prop where
 dm:Dm (k+1) (.row ps)
 ok:fL (.row ps)
structure Pk(k:Nat)(ps:List Pt):Prop where
 dm:Dm (k+1) (.pick ps)
 ok:fL (.pick ps)
theorem Rw.mono{k m:Nat}{ps:List Pt}(h:Rw k ps)(h1:k<=m)(h2:m<=4):Rw m ps:=⟨h.dm.mono (by ac_nf) (by ac_nf),h.ok⟩
theorem Pk.mono{k m:Nat}{ps:List Pt}(h:Pk k ps)(h1:k<=m)(h2:m<=4):Pk m ps:=⟨h.dm.mono (by ac_nf) (by ac_nf),h.ok⟩
section
variable{a b c k:Nat}{x y z t:Pt}
theorem uh{x y z:Pt}{R:List Pt->Prop}(h0:R [])(h1:R [x])(h2:R [x,y])(h3:R [x,y,z]):∀i,R ([x,y,z].take i)
 |0=>h0
 |1=>h1
 |2=>h2
 |i+3=>by rw[im (by simp)];exact h3
theorem Bx{x y:Pt}{R:List Pt->Prop}(h0:R [])(h1:R [x])(h2:R [x,y]):∀i,R ([x,y].take i)
 |0=>h0
 |1=>h1
 |i+2=>by rw[im (by simp)];exact h2
theorem Rw.three(hx:Dm a x)(hy:Dm b y)(hz:Dm c z)(ox:fL x)(oy:fL y)(oz:fL z)(hk:a+b+c<=4):Rw (a+b+c) [x,y,z]:=
 ⟨hx.row3 hy hz hk,⟨by simp,by simp⟩,⟨fM (hx.row3 hy hz hk),uh lp ((sT hx.ab).mono hx.le) ((vS hx.ab hy.ab (by ac_nf)).mono (by ac_nf)) ((Hg hx.ab hy.ab hz.ab hk).mono (by ac_nf))⟩,ox,oy,oz,trivial⟩
theorem Rw.two(hx:Dm a x)(hy:Dm b y)(ox:fL x)(oy:fL y)(hk:a+b<=4):Rw (a+b) [x,y]:=
 ⟨hx.row2 hy hk,⟨by simp,by simp⟩,⟨fM (hx.row2 hy hk),Bx lp ((sT hx.ab).mono hx.le) ((vS hx.ab hy.ab (by ac_nf)).mono (by ac_nf))⟩,ox,oy,trivial⟩
theorem Rw.twins(ht:Dm k t)(ot:fL t)(hs:size t<4)(hk:k<=4):Rw k [t,t]:=
 ⟨ht.rowD2 ot hs hk,⟨by simp,by simp⟩,⟨fM (ht.rowD2 ot hs hk),Bx lp ((sT ht.ab).mono ht.le) ((DT ht ot hs hk).1.mono (by ac_nf))⟩,ot,ot,trivial⟩
theorem Rw.d0(hx:Dm a x)(ht:Dm k t)(ox:fL x)(ot:fL t)(hs:size t<4)(hk:a+k<=4):Rw (a+k) [x,t,t]:=
 ⟨Dm.rowD (i:=0) hx ht ot hs hk,⟨by simp,by simp⟩,⟨fM (Dm.rowD (i:=0) hx ht ot hs hk),uh lp ((sT hx.ab).mono hx.le) ((vS hx.ab ht.ab (by ac_nf)).mono (by ac_nf)) ((GH (i:=0) hx ht ot hs hk).1.mono (by ac_nf))⟩,ox,ot,ot,trivial⟩
theorem Rw.d1(hx:Dm a x)(ht:Dm k t)(ox:fL x)(ot:fL t)(hs:size t<4)(hk:a+k<=4):Rw (a+k) [t,x,t]:=
 ⟨Dm.rowD (i:=1) hx ht ot hs hk,⟨by simp,by simp⟩,⟨fM (Dm.rowD (i:=1) hx ht ot hs hk),uh lp ((sT ht.ab).mono ht.le) ((vS ht.ab hx.ab (by ac_nf)).mono (by ac_nf)) ((GH (i:=1) hx ht ot hs hk).1.mono (by ac_nf))⟩,ot,ox,ot,trivial⟩
theorem Rw.d2(hx:Dm a x)(ht:Dm k t)(ox:fL x)(ot:fL t)(hs:size t<4)(hk:a+k<=4):Rw (a+k) [t,t,x]:=
 ⟨Dm.rowD (i:=2) hx ht ot hs hk,⟨by simp,by simp⟩,⟨fM (Dm.rowD (i:=2) hx ht ot hs hk),uh lp ((sT ht.ab).mono ht.le) ((DT ht ot hs (by ac_nf)).1.mono (by ac_nf)) ((GH (i:=2) hx ht ot hs hk).1.mono (by ac_nf))⟩,ot,ot,ox,trivial⟩
theorem Pk.three(hx:Dm a x)(hy:Dm b y)(hz:Dm c z)(ox:fL x)(oy:fL y)(oz:fL z)(hk:a+b+c<=4):Pk (a+b+c) [x,y,z]:=
 ⟨hx.pick3 hy hz hk,⟨by simp,by simp⟩,fM (hx.pick3 hy hz hk),ox,oy,oz,trivial⟩
theorem Pk.two(hx:Dm a x)(hy:Dm b y)(ox:fL x)(oy:fL y)(hk:a+b<=4):Pk (a+b) [x,y]:=⟨hx.pick2 hy hk,⟨by simp,by simp⟩,fM (hx.pick2 hy hk),ox,oy,trivial⟩
theorem Pk.twins(ht:Dm k t)(ot:fL t)(hs:size t<4)(hk:k<=4):Pk k [t,t]:=⟨ht.pickD2 ot hs hk,⟨by simp,by simp⟩,fM (ht.pickD2 ot hs hk),ot,ot,trivial⟩
theorem Pk.d1(hx:Dm a x)(ht:Dm k t)(ox:fL x)(ot:fL t)(hs:size t<4)(hk:a+k<=4):Pk (a+k) [t,x,t]:=
 ⟨Dm.pickD (i:=1) hx ht ot hs hk,⟨by simp,by simp⟩,fM (Dm.pickD (i:=1) hx ht ot hs hk),ot,ox,ot,trivial⟩
end
inductive Fam:List Nat->List Pt->Prop
 |nil:Fam [] []
 |snoc {ks:List Nat} {ps:List Pt} {k:Nat} {p:Pt} (h:Fam ks ps) (hp:Dm k p) (ok:fL p):Fam (ks++[k]) (ps++[p])
theorem Fam.len{ks:List Nat}{ps:List Pt}(h:Fam ks ps):ks.length=ps.length:=by
 induction h with
 |nil=>rfl
 |snoc _ _ _ ih=>simp[ih]
theorem Fam.last{ks:List Nat}{ps:List Pt}(h:Fam ks ps){n:Nat}(hl:ps.length=n+1):∃ks' ps' k p,ks=ks'++[k]/\ps=ps'++[p]/\Fam ks' ps'/\(Dm k p/\fL p)/\ps'.length=n:=by
 cases h with
 |nil=>cases hl
 |snoc h hp ok=>exact⟨_,_,_,_,rfl,rfl,h,⟨hp,ok⟩,by simpa using hl⟩
theorem Fam.zero{ks:List Nat}{ps:List Pt}(h:Fam ks ps)(hl:ps.length=0):ks=[]/\ps=[]:=by
 have h1:=h.len
 exact⟨yu.mp (by ac_nf),yu.mp hl⟩
theorem Fam.two{ks:List Nat}{ps:List Pt}(h:Fam ks ps)(hl:ps.length=2):∃a b x y,ks=[a,b]/\ps=[x,y]/\(Dm a x/\fL x)/\Dm b y/\fL y:=by
 obtain⟨k1,p1,b,y,rfl,rfl,h1,hy,l1⟩:=h.last hl
 obtain⟨k2,p2,a,x,rfl,rfl,h2,hx,l2⟩:=h1.last l1
 obtain⟨rfl,rfl⟩:=h2.zero l2
 exact⟨a,b,x,y,rfl,rfl,hx,hy⟩
theorem Fam.three{ks:List Nat}{ps:List Pt}(h:Fam ks ps)(hl:ps.length=3):∃a b c x y z,ks=[a,b,c]/\ps=[x,y,z]/\(Dm a x/\fL x)/\(Dm b y/\fL y)/\Dm c z/\fL z:=by
 obtain⟨k1,p1,c,z,rfl,rfl,h1,hz,l1⟩:=h.last hl
 obtain⟨a,b,x,y,rfl,rfl,hx,hy⟩:=h1.two l1
 exact⟨a,b,c,x,y,z,rfl,rfl,hx,hy,hz⟩
noncomputable def bq(m:Int):Nat:=(m-4).toNat
noncomputable abbrev gN4(i j k l:Nat):Ei:=λv τ G Q=>match v with
 | .tup [p,q,r,s]=>Q (st (st (st (st τ i (some p)) j (some q)) k (some r)) l (some s)) G
 |_=>False
theorem Dr{X:Cx}{x:Str}{pos:Pos}{i j k l:Nat}{y z u:Str}{p1 p2 p3 p4:Pos}{n:Nat}(hc:X.calm=true)(hN:X.N.Nodup)(hi:X.N[i]? =some x)(hx:vm X.env.scope x)(hj:X.N[j]? =some y)(hy:vm X.env.scope y)(hk:X.N[k]? =some z)(hz:vm X.env.scope z)(hl:X.N[l]? =some u)(hu:vm X.env.scope u)
  (hf:X.fn x=true\/X.env.scope.names.lookup x=some .local:=by first|exact .inl rfl|exact .inr rfl|assumption) (hf2:X.fn y=true\/X.env.scope.names.lookup y=some .local:=by first|exact .inl rfl|exact .inr rfl|assumption) (hf3:X.fn z=true\/X.env.scope.names.lookup z=some .local:=by first|exact .inl rfl|exact .inr rfl|assumption) (hf4:X.fn u=true\/X.env.scope.names.lookup u=some .local:=by first|exact .inl rfl|exact .inr rfl|assumption):
  JG X (.Tuple [.Name x p1,.Name y p2,.Name z p3,.Name u p4] n pos) (gN4 i j k l):=
 .of (xG (n:=4) hc (iw (ik hN hi hx hf) (iw (ik hN hj hy hf2) (iw (ik hN hk hz hf3) (iw (ik hN hl hu hf4) ux)))) (by rfl) (by rfl)) λv σ H Q hPl=>by
  obtain⟨p,τ,G,Q2,d,rs,rp,q,cl⟩:=hPl
  unfold gN4 at q
  split at q
  ·rename_i p1 p2 p3 p4
   obtain⟨a,vs,rfl,sq,dv⟩:=d
   obtain⟨v1,r1,rfl,d1,dv⟩:=dv
   obtain⟨v2,r2,rfl,d2,dv⟩:=dv
   obtain⟨v3,r3,rfl,d3,dv⟩:=dv
   obtain⟨v4,r4,rfl,d4,dv⟩:=dv
   obtain rfl:r4=[]:=dv
   exact⟨a,[v1,v2,v3,v4],rfl,sq,rfl,v1,[v2,v3,v4],rfl,v2,[v3,v4],rfl,v3,[v4],rfl,v4,[],rfl,rfl,cl _ _ _ _ q ((((rs.set d1 i).set d2 j).set d3 k).set d4 l) rp .refl⟩
  ·exact q.elim
theorem sI{n i:Nat}{f:Nat->Nat}(h:i<n):f i<=cZ n f:=by
 induction n with
 |zero=>ac_nf
 |succ n ih=>
  simp only[cZ]
  by_cases e:i=n
  ·subst e;ac_nf
  ·have:=ih (by ac_nf);ac_nf
noncomputable def bM{α:Type}(o:Nat->Nat)(l:List (α×Nat)):Nat:=(l.map λx=>o x.2).sum
noncomputable def pk{α:Type}(o:Nat->Nat):List (α×Nat)->Nat->Option (α×Nat×Nat)
 |[],_=>none
 |x::l,k=>if k<o x.2 then some (x.1,x.2,k)else pk o l (k-o x.2)
section
variable{α β:Type}{o:Nat->Nat}
theorem pk_cons(x:α×Nat)(l:List (α×Nat))(k:Nat):pk o (x::l) k=if k<o x.2 then some (x.1,x.2,k)else pk o l (k-o x.2):=rfl
theorem gO:bM o ([]:List (α×Nat))=0:=rfl
theorem fG(x:α×Nat)(l:List (α×Nat)):bM o (x::l)=o x.2+bM o l:=by unfold bM;rw[aw,bn]
theorem kA(l m:List (α×Nat)):bM o (l++m)=bM o l+bM o m:=by unfold bM;rw[a8,List.sum_append]
theorem iX(f:α->β)(l:List (α×Nat)):bM o (l.map λx=>(f x.1,x.2))=bM o l:=by unfold bM;rw[bx];rfl
theorem p0:∀(l:List (α×Nat)) (k:Nat),k<bM o l->∃a e r,pk o l k=some (a,e,r)/\(a,e)∈l/\r<o e
 |[],k,h=>by rw[gO]at h;ac_nf
 |x::l,k,h=>by
  unfold pk
  by_cases e:k<o x.2
  ·rw[if_pos e];exact⟨x.1,x.2,k,rfl,by simp,e⟩
  ·rw[if_neg e]
   rw[fG]at h
   obtain⟨a,e',r,h1,h2,h3⟩:=p0 l (k-o x.2) (by ac_nf)
   exact⟨a,e',r,h1,by simp[h2],h3⟩
theorem p7:∀(l m:List (α×Nat)) (k:Nat),k<bM o l->pk o (l++m) k=pk o l k
 |[],m,k,h=>by rw[gO]at h;ac_nf
 |x::l,m,k,h=>by
  rw[List.cons_append]
  unfold pk
  by_cases e:k<o x.2
  ·rw[if_pos e,if_pos e]
  ·rw[if_neg e,if_neg e]
   rw[fG]at h
   exact p7 l m _ (by ac_nf)
theorem na:∀(l m:List (α×Nat)) (k:Nat),bM o l<=k->pk o (l++m) k=pk o m (k-bM o l)
 |[],m,k,h=>by rw[gO];rfl
 |x::l,m,k,h=>by
  rw[fG]at h⊢
  rw[List.cons_append]
  conv=>lhs;unfold pk
  rw[if_neg (by ac_nf),na l m _ (by ac_nf)]
  congr 1
  ac_nf
theorem oH(f:α->β):∀(l:List (α×Nat)) (k:Nat),pk o (l.map λx=>(f x.1,x.2)) k=(pk o l k).map λy=>(f y.1,y.2)
 |[],k=>rfl
 |x::l,k=>by
  rw[aw]
  unfold pk
  by_cases e:k<o x.2
  ·rw[if_pos e,if_pos e];rfl
  ·rw[if_neg e,if_neg e];exact oH f l _
theorem uw{γ:Type}(F:Nat->List (β×Nat))(g:α->β->γ):∀(l:List (α×Nat)) (k:Nat),pk o (l.flatMap λt=>(F t.2).map λu=>(g t.1 u.1,u.2)) k=(pk (λe=>bM o (F e)) l k).bind λy=>(pk o (F y.2.1) y.2.2).map λz=>(g y.1 z.1,z.2)
 |[],k=>rfl
 |x::l,k=>by
  rw[eW]
  rw[pk_cons]
  have hw:bM o ((F x.2).map λu=>(g x.1 u.1,u.2))=bM o (F x.2):=iX (g x.1) (F x.2)
  by_cases e:k<bM o (F x.2)
  ·rw[if_pos e,p7 _ _ _ (by rw[hw];exact e),oH (g x.1) (F x.2) k]
   rfl
  ·rw[if_neg e,na _ _ _ (by rw[hw];ac_nf),hw]
   exact uw F g l _
theorem iT{γ:Type}(F:Nat->List (β×Nat))(g:α->β->γ):∀(l:List (α×Nat)),bM o (l.flatMap λt=>(F t.2).map λu=>(g t.1 u.1,u.2))=bM (λe=>bM o (F e)) l
 |[]=>rfl
 |x::l=>by rw[eW,kA,iX (g x.1) (F x.2),fG,iT F g l]
theorem Bk{n:Nat}(l:List (α×Nat))(h:∀s∈l,s.2<n):bM o l=cZ n λk=>jF l k*o k:=Mu l h
end
theorem Et{T:List Nat}{p:Pt}{e:Nat}{o:Nat->Nat}(he:e<=T.length):bM o (bc T p e)=cZ (T.length+1) λj=>nT T p e j*o j:=Bk _ λs hs=>rQ (g9 T p e he s hs)
noncomputable def fZ(T:List Nat):List Pt->Nat->List (List Tr×Nat)
 |[],e=>[([],e)]
 |p::ps,e=>(bc T p e).flatMap λt=>(fZ T ps t.2).map λu=>(t.1::u.1,u.2)
theorem sG(T:List Nat):∀(ps:List Pt) (sm:List (List Tr×Nat)),fY T ps sm=sm.flatMap λs=>(fZ T ps s.2).map λu=>(s.1++u.1,u.2)
 |[],sm=>by
  unfold fY fZ
  induction sm with
  |nil=>rfl
  |cons s sm ih=>rw[eW,<-ih];simp
 |p::ps,sm=>by
  unfold fY
  rw[sG T ps]
  induction sm with
  |nil=>rfl
  |cons s sm ih=>
   rw[eW,gL,ih,eW]
   congr 1
   conv=>rhs;unfold fZ
   rw[List.map_flatMap,List.flatMap_map]
   refine rj λt ht=> ?_
   rw[bx]
   refine fz λu hu=> ?_
   simp
theorem mK(T:List Nat)(ps:List Pt)(e:Nat):bc T (.row ps) e=(fZ T ps e).map λs=>(.row s.1,s.2):=by
 unfold bc
 rw[sG]
 simp
theorem qJ{α:Type}{L:Nat}:∀(l:List (α×Nat)) (k:Nat),pk (dl L) l k=((l.filter λt=>t.2==L)[k]?).map λt=>(t.1,t.2,0)
 |[],k=>by simp[pk]
 |x::l,k=>by
  unfold pk dl
  by_cases e:L=x.2
  ·rw[if_pos e,List.filter_cons_of_pos (by simp[e])]
   cases k with
   |zero=>simp
   |succ k=>
    rw[if_neg (by ac_nf)]
    have:=qJ (L:=L) l k
    unfold dl at this
    simpa using this
  ·rw[if_neg e,if_neg (by ac_nf),List.filter_cons_of_neg (by simp;exact λh=>e h.symm)]
   have:=qJ (L:=L) l (k-0)
   unfold dl at this
   simpa using this
end L3
namespace L2
open PySem PySem.Spec PyProof.Rows
noncomputable def La(td ty:TE):TE:=λσ H Q=>td σ H λx H1=>∃a,x= .ref a/\OB H1 a/\ty σ H1 λy H2=>∃b kvs more,y= .ref b/\H2 a=some (.dK kvs)/\Rd H2 b (.dK more)/\a≠b/\kvs.length+more.length<=aO/\Q .non (upd H2 a (.dK (jV kvs more)))
theorem Ff{X:Cx}{o e:Expr}{apos cpos:Pos}{td ty:TE}(ho:PE X o td)(he:PE X e ty)(m:M1 X o "update" apos e cpos):PE X (.Call (.Attribute o "update" apos) [e] [] cpos) (La td ty):=by
 intro pins s σ H Q I h
 refine wpAny_Call_method m.base m.few m.line PySem.F.plainAttrs_dict PySem.F.slot_dict_update PySem.F.type_dict_update (eD (ho pins s σ H _ I h) λu s1 hPl=> ?_)
 obtain⟨x,H1,I1,rx,a,ex,d,q1⟩:=hPl
 subst ex
 obtain rfl:u=aE a:=rx
 obtain⟨t1,t2,_⟩:=DF I1 d
 refine⟨t1,t2,?_⟩
 rw[m.trees]
 refine ig rfl (mv (jC (eD (he pins s1 σ H1 _ I1 q1) λiv s2 ⟨y,H2,I2,ry,b,kvs,more,ey,ea,eb,ne,hl,q2⟩=>pS ?_)))
 subst ey
 obtain rfl:iv=aE b:=ry
 obtain⟨z,hd,vs,rel,dd⟩:=DU I2.hok ea
 obtain⟨z',hd',ms,rel',dm⟩:=pA I2.hok eb
 refine call_meetsIn PySem.F.slot_dict_update dd.typeIs PySem.F.entry_dict_update (PySem.F.args_dict_update_2 _ _) (meets_dict_update (mixKind X.prog X.w) a b ne hd') ⟨vs,ms,dd,dm,by rw[<-rel.length,<-rel'.length];exact hl,λh' dd' dm' hs=> ?_⟩
 have he':∃q,h'.get? a=some q:=let⟨q,_,_,hq,_⟩:=dd';⟨q,hq⟩
 have hz:(jV kvs more).length<=aO:=aR (jx more kvs) hl
 exact⟨.non,_,nH (t':=s2.toks) I2 (by rw[ea];exact cE) hs he' (uW hz hd (rel'.merge rel) dd'),rfl,q2⟩
end L2
namespace L3
open PySem L2
noncomputable def yM(C:Addr)(f:Str)(x:PV)(tv:E2)(τ:iS)(G:Gp)(Q:Gp->Prop):Prop:=match x with
 | .ref a=>match G a with
  |some (.ins C' _ fs)=>C'=C/\match fs.lookup f with
   |some (.int i)=>tv τ G λy G1=>match y with
    | .int j=>match G1 a with
     |some (.ins C'' dx' fs')=>C''=C/\fs'.length<1000/\Q (up G1 a (.ins C dx' (kI f (.int (i-j)) fs')))
     |_=>False
    |_=>False
   |_=>False
  |_=>False
 |_=>False
noncomputable abbrev B1(C:Addr)(ta tv:E2)(f:Str):S2:=λD τ G=>ta τ G λx G1=>yM C f x tv τ G1 λG3=>D.nx τ G3
theorem AA{X:Cx}{C:Addr}{o value:Expr}{f:Str}{ta tv:E2}{pos tpos:Pos}(c:Cls X.K C)(n:NoAttr X.K C f)(ha:JE X o ta)(hv:JE X value tv):
  JS X (.AugAssign (.Attribute o f tpos) .Sub value pos) (B1 C ta tv f):= .of (sX ha.h hv.h Kf) λD σ H ⟨τ,G,D2,rs,rp,q,cl⟩=>by
 refine⟨τ,G,_,rs,rp,q,λx G1 u H1 q1 d1 r1 k1=> ?_⟩
 unfold yM at q1
 split at q1
 ·rename_i a
  split at q1
  ·rename_i C' dx fs hG
   obtain⟨rfl,q1⟩:=q1
   split at q1
   ·rename_i i hl
    obtain rfl:u= .ref a:=d1
    obtain⟨vs,hH,df⟩:=r1 a _ hG
    obtain⟨w',hw,dw⟩:=nE df hl
    obtain rfl:w'= .int i:=dw
    refine⟨a,_,dx,vs,_,rfl,hH,c,n,hw,τ,G1,_,rs.keep k1,r1,q1,λy G2 v H2 q2 d2 r2 k2=> ?_⟩
    split at q2
    ·rename_i j
     split at q2
     ·rename_i C'' dx' fs' hG2
      obtain⟨rfl,hl2,q2⟩:=q2
      obtain rfl:v= .int j:=d2
      obtain⟨vs2,hH2,df2⟩:=r2 a _ hG2
      have kk:Keep X.K H2 (L2.upd H2 a (.ins C'' dx' (jf f (.int (i-j)) vs2))):=kQ hH2
      exact⟨i,j,rfl,rfl,dx',vs2,hH2,by rw[qe df2];exact hl2,cl.nx _ _ _ _ q2 (rs.keep ((k1.trans k2).trans kk)) (r2.putI hH2 (qd (q:= .int (i-j)) rfl df2)) ((k1.trans k2).trans kk)⟩
     ·exact q2.elim
    ·exact q2.elim
   ·exact q1.elim
  ·exact q1.elim
 ·exact q1.elim
noncomputable def Au(kvs more:List (Key×PV)):List (Key×PV):=more.foldl (λacc kv=>iu acc kv.1 kv.2) kvs
theorem DKv.merge{K:PySem.W.Frag}{H:Hp}:∀{more:List (Key×PV)} {ms:List (Key×V)} {kvs:List (Key×PV)} {vs:List (Key×V)},DKv K H more ms->DKv K H kvs vs->DKv K H (Au kvs more) (jV vs ms)
 |[],ms,kvs,vs,h,g=>by obtain rfl:ms=[]:=h;exact g
 |(x,p)::more,ms,kvs,vs,h,g=>by
  obtain⟨v,r,rfl,d,z⟩:=h
  show DKv K H (Au (iu kvs x p) more) (jV (kj vs x v) r)
  exact DKv.merge z (g.put d)
noncomputable def Ex(x y:PV)(G:Gp)(Q:K2):Prop:=match x,y with
 | .ref a,.ref b=>match G a,j7 G b with
  |some (.dK kvs),some more=>a≠b/\kvs.length+more.length<=16000000/\Q .non (up G a (.dK (Au kvs more)))
  |_,_=>False
 |_,_=>False
theorem HH{a b:Addr}{G:Gp}{kvs more:List (Key×PV)}{Q:K2}(h:G a=some (.dK kvs))(h2:j7 G b=some more)(ne:a≠b)(hl:kvs.length+more.length<=16000000)(q:Q .non (up G a (.dK (Au kvs more)))):Ex (.ref a) (.ref b) G Q:=by
 unfold Ex;simp only[h,h2];exact⟨ne,hl,q⟩
noncomputable abbrev Op(td te:E2):E2:=λτ G Q=>td τ G λx G1=>Kb x G1/\te τ G1 λy G2=>Ex x y G2 Q
theorem AD{X:Cx}{d e:Expr}{td te:E2}{apos cpos:Pos}(hd:JE X d td)(he:JE X e te)(m:L2.M1 X d "update" apos e cpos:=by exact⟨rfl,rfl,rfl,rfl⟩):JE X (.Call (.Attribute d "update" apos) [e] [] cpos) (Op td te):=
 .of (Ff hd.h he.h m) λσ H Q hPl=>by
  obtain⟨τ,G,Q2,rs,rp,q,cl⟩:=hPl
  refine⟨τ,G,_,rs,rp,q,λp1 G1 v1 H1 q1 d1 r1 k1=> ?_⟩
  obtain⟨⟨a,kvs,rfl,ea⟩,q1⟩:=q1
  obtain rfl:v1= .ref a:=d1
  obtain⟨vs,hv,dv⟩:=r1.dR ea
  refine⟨a,rfl,.inl ⟨vs,hv⟩,τ,G1,_,rs.keep k1,r1,q1,λp2 G2 v2 H2 q2 d2 r2 k2=> ?_⟩
  unfold Ex at q2
  cases p2 with
  |ref b=>
   simp only at q2
   split at q2
   ·rename_i kv2 more eg em
    obtain⟨ne,hl,q2⟩:=q2
    obtain rfl:v2= .ref b:=d2
    obtain⟨vs2,hv2,dv2⟩:=r2.dK eg
    obtain⟨ms,hm,dm⟩:=r2.dR em
    exact⟨b,vs2,ms,rfl,hv2,hm,ne,by rw[dv2.length,dm.length,jq];ac_nf,cl _ _ _ _ q2 rfl (r2.putD hv2 (dm.merge dv2)) ((k1.trans k2).trans (lj hv2))⟩
   ·exact q2.elim
  |_=>exact q2.elim
end L3
namespace PySem
section
variable{prog:aJ}{w:aV}{A:Around}{E:ae->ai->Prop}{s:ai}{d:Addr}
noncomputable def HB(kvs:List (L2.Key×ae))(prog:aJ)(w:aV):Nat->ae->Prop:=λi v=>∃k x,kvs[i]? =some (k,x)/\(L2.mixKind prog w).is k v=true
theorem mG{R:Result->ai->Prop}{kvs:List (L2.Key×ae)}{ep:Nat}(hh:A.handled=none)(hd:(d==eR)=false)(hm:s.heap.DictAt (L2.mixKind prog w) d kvs ep)(S:Addr)(hne:S≠d)(res:ae)(c:Nat)(hS:s.heap.get? S=some {cls:= .type "list",dict:=none,data:= .seq #[] c,slots:= #[]})(hn:kvs.length<=aO)
  (hR:∀(s':ai) acc' c',(∀b o,b≠S->s.heap.get? b=some o->s'.heap.get? b=some o)->s'.gens=s.gens->s'.os=s.os->s'.heap.get? S=some {cls:= .type "list",dict:=none,data:= .seq acc' c',slots:= #[]}->ItemsOf (HB kvs prog w) acc' kvs.length->R (.ok (.ret res)) s'):
  wpAny (aQ prog w) A.in1 (cP (.ref S) (.ref d) res)
   (λfin s'=>match fin with| .done f=>R (.ok f) s'| .again c'=>c'.quiet=true/\codeAny (aQ prog w) A c' R s') (λe s'=>R (.error e) s') s:=by
 unfold cP
 have h1:fW (.ref S) (.ref d)=false:=by simp[fW,hne]
 have hT1:s.TypeIs (.ref d) "dict" :=hm.dictOf.typeIs
 refine aa (gP hT1 ?_)
 rw[if_neg (by rw[h1];decide)]
 refine aa (ud hd hm ?_)
 have hm2:(s.heap.push {cls:= .type "dict_keyiterator",data:= .fields #[.ref d,.int 0 0,.int kvs.length 0,.int ep 0]}).DictAt (L2.mixKind prog w) d kvs ep:=hm.at' λo e=>af _ e
 have hI:(s.heap.push {cls:= .type "dict_keyiterator",data:= .fields #[.ref d,.int 0 0,.int kvs.length 0,.int ep 0]}).IsKeyIter s.heap.objs.size d 0 kvs.length ep:=⟨_,aK _ rfl,rfl,rfl⟩
 have kp2:∀b o,s.heap.get? b=some o->(s.heap.push {cls:= .type "dict_keyiterator",data:= .fields #[.ref d,.int 0 0,.int kvs.length 0,.int ep 0]}).get? b=some o:=λb o q=>af _ q
 have hdl:d<s.heap.objs.size:=by obtain⟨o,es,ho,_⟩:=hm;exact aB ho
 have hSl:S<s.heap.objs.size:=aB hS
 generalize s.heap.push {cls:= .type "dict_keyiterator",data:= .fields #[.ref d,.int 0 0,.int kvs.length 0,.int ep 0]}=g2 at hm2 hI kp2⊢
 refine aa (cJ ?_)
 unfold pd
 have hT2:ai.TypeIs {s with heap:=g2} (.ref d) "dict" :=hm2.dictOf.typeIs
 refine aa (wpAny_specialOf hT2 F.slot_dict_len.lookup ?_)
 wp_delta
 refine aa (lY (T:= "dict") (v:= .ref d) (b:=true) hT2 (by rw[isSubtype_type];kernel_rfl) ?_)
 show wpAny _ A.in1 (typeOf (aE d)>>=_) _ _ _
 refine aa (gP hT2 ?_)
 refine aq ?_
 have nI:d≠s.heap.objs.size:=aN hdl
 have nL:S≠s.heap.objs.size:=aN hSl
 have hSf:S∉[s.heap.objs.size,d]:=by
  simp only[aI,bC,or_false,not_or]
  exact⟨nL,hne⟩
 show wpAny _ A.in1 (rule "list.extend.makes-room" >>=λ_=>cu.List.listTouch (.ref S)>>=λ_=>
  again (.builtin "list.extend.loop" ⟨[.ref S,.ref s.heap.objs.size,res],[]⟩)) _ _ _
 refine aa (iq ?_)
 refine aa ?_
 show wpAny _ A.in1 (updateSeq S (·.push .none)>>=λ_=>updateSeq S (·.pop)) _ _ _
 have hL2:=kp2 _ _ hS
 refine aa (ii (s:={s with heap:=g2}) hL2 rfl ?_)
 have hL3:=dG (c9 (·.push br)) hL2 rfl
 refine ii (hz:=by seq_fits) hL3 rfl ?_
 have hL4:=dG (c9 (·.pop)) hL3 rfl
 have oth:∀b o,b≠S->g2.get? b=some o->((g2.update S (c9 (·.push br))).update S (c9 (·.pop))).get? b=some o:=
  λb o hb e=>(bK _ _ (aG hb)).trans ((bK _ _ (aG hb)).trans e)
 have hh1:A.in1.handled=none:=by simp[hh]
 have W:=(Walks.dictKeys (prog:=prog) (w:=w) (knd:=L2.mixKind prog w) hh1 s.heap.objs.size d nI kvs ep).toS
 refine aq ⟨plainId_quiet F.plain_extend_loop _,codeAny_extend_loopS W hn _ hSf _ kvs.length 0 _ _ _ rfl (bt _)
  (W.frame 0 {s with heap:=g2} _ s.toks ⟨hI,hm2⟩ (ao _) λb hb o e=>oth b o (λh=>hSf (h▸hb)) e) hL4 (ItemsOf.nil _) λs' acc' c' hmv hS'' hacc=> ?_⟩
 refine hR s' acc' c' (λb o hb e=> ?_) hmv.gens hmv.os hS'' hacc
 have hbl:b<s.heap.objs.size:=aB e
 refine hmv.heap b o ?_ (oth b o hb (kp2 b o e))
 simp only[aI,bC,or_false,not_or]
 exact⟨hb,aN hbl⟩
theorem rK{Q:ae->ai->Prop}{kvs:List (L2.Key×ae)}{ep:Nat}(hh:A.handled=none)(hd:(d==eR)=false)(hm:s.heap.DictAt (L2.mixKind prog w) d kvs ep)(hn:kvs.length<=aO)
  (hQ:∀(s':ai) acc' c',(∀b o,s.heap.get? b=some o->s'.heap.get? b=some o)->s'.gens=s.gens->s'.os=s.os->s'.heap.get? s.heap.objs.size=some {cls:= .type "list",dict:=none,data:= .seq acc' c',slots:= #[]}->ItemsOf (HB kvs prog w) acc' kvs.length->Q (.ref s.heap.objs.size) s'):
  wpAny (aQ prog w) A (call (.type "list") [.ref d]) Q E s:=by
 refine callType_codes (Q₁:=λobj s₁=>obj= .ref s.heap.objs.size/\s₁={s with heap:=s.heap.push {cls:= .type "list",data:= .seq #[]}}) F.called_list (F.typeCall_list_1 _) F.entry_list_init
  (code_list_new _ ⟨rfl,rfl⟩) λobj s₁ h₁=> ?_
 obtain⟨rfl,rfl⟩:=h₁
 have hS:(s.heap.push {cls:= .type "list",data:= .seq #[]}).get? s.heap.objs.size=some {cls:= .type "list",data:= .seq #[]}:=aK _ rfl
 have hdl:d<s.heap.objs.size:=by obtain⟨o,es,ho,_⟩:=hm;exact aB ho
 have hne:s.heap.objs.size≠d:=iC hdl
 have hm1:(s.heap.push {cls:= .type "list",data:= .seq #[]}).DictAt (L2.mixKind prog w) d kvs ep:=hm.at' λo e=>af _ e
 refine⟨⟨_,hS,rfl⟩,F.args_list_init_2 _ _,?_⟩
 show wpAny _ _ (do let old <-cu.List.listItems (.ref s.heap.objs.size);cu.List.listUpdate (.ref s.heap.objs.size) (λ_=> #[]);letGo old.toList.reverse;cP (.ref s.heap.objs.size) (.ref d) .none) _ _ _
 refine aa ?_
 unfold cu.List.listItems
 refine aa (dU hS rfl (aq ?_))
 show wpAny _ _ (updateSeq s.heap.objs.size (λ_=> #[])>>=λ_=>letGo (#[]:Array ae).toList.reverse>>=λ_=>cP (.ref s.heap.objs.size) (.ref d) .none) _ _ _
 refine aa (ii hS rfl ?_)
 have hS₂:=dG (c9 (λ_=>(#[]:Array ae))) hS rfl
 have oth:∀b o,b≠s.heap.objs.size->(s.heap.push {cls:= .type "list",data:= .seq #[]}).get? b=some o->((s.heap.push {cls:= .type "list",data:= .seq #[]}).update s.heap.objs.size (c9 (λ_=>(#[]:Array ae)))).get? b=some o:=
  λb o hb e=>(bK _ _ (aG hb)).trans e
 refine aa (wQ ?_)
 have hm2:=hm1.at' λo e=>oth d o (aG hne) e
 refine mG (A:=A.in1) (by simp[hh]) hd hm2 _ hne .none _ hS₂ hn λs' acc' c' hk g o hS' hacc=> ?_
 exact⟨rfl,hQ s' acc' c' (λb o e=>hk b o (aN (aB e)) (oth b o (aN (aB e)) (af _ e))) g o hS' hacc⟩
end
end PySem
namespace L3
open PySem L2
noncomputable def qV:C2:=λps G Q=>match ps with
 |[.ref a]=>match j7 G a with
  |some kvs=>∀c,G c=none->Q (.ref c) (up G c (.lst (kvs.map λkv=>kP kv.1)))
  |none=>False
 |_=>False
theorem zr{a:Addr}{G:Gp}{kvs:List (Key×PV)}{Q:K2}(h:j7 G a=some kvs)(q:∀c,G c=none->Q (.ref c) (up G c (.lst (kvs.map λkv=>kP kv.1)))):qV [.ref a] G Q:=by
 unfold qV;simp only[h];exact q
theorem Dj{K:PySem.W.Frag}{H:Hp}:∀(ks:List Key),Dvs K H (ks.map kP) (ks.map kV)
 |[]=>rfl
 |k::ks=>⟨_,_,rfl,LQ k,Dj ks⟩
theorem GP{X:Cx}(hc:X.calm=true):iF X (.type "list") (qT X.K qV):=by
 intro pins s σ H xs us Q I rs h
 obtain⟨ps,G,Q2,d,rp,h,cl⟩:=h
 unfold qV at h
 split at h
 ·rename_i a
  split at h
  ·rename_i kvs ea
   obtain⟨v,rfl,dv⟩:=fR d
   obtain rfl:v= .ref a:=dv
   obtain⟨u,rfl,ru⟩:=rs.one
   obtain rfl:u=aE a:=ru
   obtain⟨vs,hv,dk⟩:=rp.dR ea
   obtain⟨z,hd,ws,kv,dd⟩:=pA I.hok hv
   obtain⟨ep,da⟩:=dd.dictAt
   have hl:=kv.length
   have hl2:=dk.length
   refine rK (I.ok.hd hc) hd da (by ac_nf) λs' acc c hk g o hS hacc=> ?_
   have hn:s.heap.get? s.heap.objs.size=none:=by
    cases e:s.heap.get? s.heap.objs.size with
    |none=>rfl
    |some o=>exact absurd (aB e) (c7 _)
   have hHl:H s.heap.objs.size=none:=I.hok.none_of hn
   obtain⟨hp',g',d',t',o'⟩:=s'
   obtain rfl:g'=s.gens:=g
   obtain rfl:o'=s.os:=o
   have e1:(kvs.map λkv=>kP kv.1)=(vs.map (·.1)).map kP:=by rw[<-yg dk,bx];rfl
   refine⟨.ref s.heap.objs.size,upd H s.heap.objs.size (.lst ((vs.map (·.1)).map kV)),I.call (ch:=[]) (Un.laidN hk hn hHl) (I.hok.laidN hk hHl ?_) I.bare (λb z=>absurd z (by simp)),rfl,cl _ _ _ _ (h _ (rp.none hHl)) rfl ?_ (cg hHl)⟩
   ·refine⟨by simp;ac_nf,acc.toList,c,yC ?_ λi x u hx hu=> ?_,by simpa using hS⟩
    ·rw[bu,ak,ak]
     have:=hacc.1
     ac_nf
    ·obtain⟨k,x',hkx,hkv⟩:=hacc.2 i u (by rw[<-lI];exact hu)
     have e3:(ws.map (·.1))[i]? =some k:=by rw[aC,hkx];rfl
     rw[<-kv.keys]at e3
     rw[aC,e3]at hx
     cases hx
     exact Dk hkv
   ·rw[e1]
    exact rp.new hHl (Dj _)
  ·exact h.elim
 ·exact h.elim
theorem Dw{X:Cx}{e:Expr}{es:List Expr}{t:A2}{p pos:Pos}(B:BN X.mg)(hc:X.calm=true)(ha:JA X (e::es) t)(hg:Gl X "list" :=by rfl)(he:au (e::es) X.env=(false,eval e X.env)::au es X.env:=by rfl)(hpl:(bT pos (au es X.env)).any (·.1)=false:=by rfl):
  JE X (.Call (.Name "list" p) (e::es) [] pos) (uU qV t):=wq (GP hc) B.list AZ ha hg (by decide) (by decide) he hpl
structure rT(K:PySem.W.Frag)(C:Addr)(f:Str):Prop where
 c:Cls K C
 n:NoAttr K C f
theorem JX{X:Cx}{C:Addr}{e:Expr}{f:Str}{t:E2}{pos:Pos}(h:rT X.K C f)(he:JE X e t)(hb:cy e f X.env (eval e X.env)=eval e X.env:=by rfl):JE X (.Attribute e f pos) (ML C t f):=Hq h.c h.n he hb
theorem zP{prog:aJ}{w:aV}{A:Around}{E:ae->ai->Prop}{s:ai}{z TI TO i1 i2 l1 l2:Addr}{k:Nat}{xs ys:Array ae}{c1 c2:ae}{a b:ae}{Q:ae->ai->Prop}
  (d:[z,TI,TO,i1,i2].Nodup) (hz:kq s.heap z TI TO .none) (hTI:eB s.heap TI (.ref i1) (.ref i2)) (hTO:eB s.heap TO a b)
  (h1:s.heap.IsTupleIter i1 l1 k) (h2:s.heap.IsListIter i2 l2 k) (t1:s.heap.IsTuple l1 xs) (t2:s.heap.IsList l2 ys) (n1:l1∉[z,TI,TO,i1,i2]) (n2:l2∉[z,TI,TO,i1,i2]) (hx:xs[k]? =some c1) (hy:ys[k]? =some c2)
  (hQ:∀h':Heap,kq h' z TI TO (rawInt ↑s.heap.objs.size)->(∃a b,eB h' TO a b)->h'.IsTupleIter i1 l1 (k+1)->h'.IsListIter i2 l2 (k+1)->
   eB h' s.heap.objs.size c1 c2->h'.objs.size=s.heap.objs.size+1->
   (∀c o,c≠z->c≠TO->c≠i1->c≠i2->s.heap.get? c=some o->h'.get? c=some o)->Q (.ref s.heap.objs.size) {s with heap:=h'}):
  wpAny (aQ prog w) A (cu.«zip.__next__» {pos:=[.ref z]}) (λfin s'=>∃v,fin=Fin.done (Flow.ret v)/\Q v s') E s:=by
 simp only[aZ,aI,bC,or_false,not_or]at d n1 n2
 obtain⟨⟨zTI,zTO,z1,z2⟩,⟨TITO,TI1,su⟩,⟨TO1,TO2⟩,i12,_⟩:=d
 obtain⟨lz1,_,lO1,l11,l12⟩:=n1
 obtain⟨lz2,_,lO2,l21,l22⟩:=n2
 refine aa (show wpAny _ _ (pure (aE z,([]:List ae))) _ _ _ from aq ?_)
 refine aa (bG hz rfl rfl ?_)
 refine aa (bG hz rfl rfl ?_)
 refine aa (dU hTI rfl ?_)
 refine aa (aa (bG hz rfl rfl (aq ?_)))
 simp only[if_true]
 refine aa (iq (aa (bG hz rfl rfl ?_)))
 refine aa (eQ hz (by simp) λh₁ hz₁ hs₁=> ?_)
 have hz1:kq h₁ z TI TO .ellipsis:=hz₁
 refine aa ?_
 simp only[rR,tR,lH,vn]
 refine aa (aa (lz ?_))
 change wpAny _ _ (bind (bL (aE i1)) λx=>pure (some x)) _ _ _
 refine aa (jk (h1.extBut hs₁.extBut (aG z1)) (t1.extBut hs₁.extBut lz1) hx λh₂ j2 sb2=>aq ?_)
 have hTO2:eB h₂ TO a b:=sb2.extBut _ _ TO1 (hs₁.extBut _ _ (aG zTO) hTO)
 refine aa (dU hTO2 rfl (aa (pG hTO2 λh₃ p3 sb3=>aa (wQ (aq ?_)))))
 refine aa (aa (lz ?_))
 change wpAny _ _ (bind (bL (aE i2)) λx=>pure (some x)) _ _ _
 have k2:h₃.IsListIter i2 l2 k:=((h2.extBut hs₁.extBut (aG z2)).extBut sb2.extBut (aG i12)).extBut sb3.extBut (aG TO2)
 have t2':h₃.IsList l2 ys:=((t2.extBut hs₁.extBut lz2).extBut sb2.extBut l21).extBut sb3.extBut lO2
 refine aa (wpAny_nextOf_list_item k2 t2' hy λh₄ j4 sb4=>aq ?_)
 have hTO4:eB h₄ TO c1 b:=sb4.extBut _ _ TO2 p3
 refine aa (dU hTO4 rfl (aa (pG hTO4 λh₅ p5 sb5=>aa (wQ (aq (aq ?_))))))
 have hTO5:eB h₅ TO c1 c2:=p5
 refine aa (dU hTO5 rfl (aa (zR ?_)))
 have sz5:h₅.objs.size=s.heap.objs.size:=by rw[sb5.1,sb4.1,sb3.1,sb2.1,hs₁.1]
 have hz5:kq h₅ z TI TO .ellipsis:=sb5.extBut _ _ zTO (sb4.extBut _ _ z2 (sb3.extBut _ _ zTO (sb2.extBut _ _ z1 hz1)))
 rw[sz5]
 have zl:z<s.heap.objs.size:=aB hz
 refine aa (aa (eQ (s:={s with heap:=h₅.push _}) (af _ hz5) (by simp) λh₆ hz6 sb6=> ?_))
 refine eQ hz6 (by simp) λh₇ hz7 sb7=>aq ⟨_,rfl,?_⟩
 have up:∀c o,c≠z->h₅.get? c=some o->h₇.get? c=some o:=λc o n e=>sb7.extBut _ _ n (sb6.extBut _ _ n (af _ e))
 have j1:h₅.IsTupleIter i1 l1 (k+1):=((j2.extBut sb3.extBut (aG TO1)).extBut sb4.extBut i12).extBut sb5.extBut (aG TO1)
 have j2':h₅.IsListIter i2 l2 (k+1):=j4.extBut sb5.extBut (aG TO2)
 refine hQ h₇ hz7 ⟨_,_,up _ _ (aG zTO) hTO5⟩ (j1.extBut (λc o n e=>up c o n e) (aG z1)) (j2'.extBut (λc o n e=>up c o n e) (aG z2)) ?_ ?_ ?_
 ·refine sb7.extBut _ _ (iC zl) (sb6.extBut _ _ (iC zl) ?_)
  rw[<-sz5]
  exact aK _ rfl
 ·rw[sb7.1,sb6.1,cS,sz5]
 ·intro c o n1 n2 n3 n4 e
  exact up c o n1 (sb5.extBut _ _ n2 (sb4.extBut _ _ n4 (sb3.extBut _ _ n2 (sb2.extBut _ _ n3 (hs₁.extBut _ _ n1 e)))))
theorem rZ{prog:aJ}{w:aV}{A:Around}{E:ae->ai->Prop}{s:ai}{z TI TO i1 i2 l1 l2:Addr}{k:Nat}{xs ys:Array ae}{c1 c2:ae}{a b:ae}{Q:Option ae->ai->Prop}
  (d:[z,TI,TO,i1,i2].Nodup) (hz:kq s.heap z TI TO .none) (hTI:eB s.heap TI (.ref i1) (.ref i2)) (hTO:eB s.heap TO a b)
  (h1:s.heap.IsTupleIter i1 l1 k) (h2:s.heap.IsListIter i2 l2 k) (t1:s.heap.IsTuple l1 xs) (t2:s.heap.IsList l2 ys) (n1:l1∉[z,TI,TO,i1,i2]) (n2:l2∉[z,TI,TO,i1,i2]) (hx:xs[k]? =some c1) (hy:ys[k]? =some c2)
  (hQ:∀h':Heap,kq h' z TI TO (rawInt ↑s.heap.objs.size)->(∃a b,eB h' TO a b)->h'.IsTupleIter i1 l1 (k+1)->h'.IsListIter i2 l2 (k+1)->
   eB h' s.heap.objs.size c1 c2->h'.objs.size=s.heap.objs.size+1->
   (∀c o,c≠z->c≠TO->c≠i1->c≠i2->s.heap.get? c=some o->h'.get? c=some o)->Q (some (.ref s.heap.objs.size)) {s with heap:=h'}):
  wpAny (aQ prog w) A (pyNext (.ref z)) Q E s:=by
 have hT:s.TypeIs (.ref z) "zip" :=⟨_,hz,rfl⟩
 exact aa (lB (cF hT g7 (cY g7 hT vk
  (zP d hz hTI hTO h1 h2 t1 t2 n1 n2 hx hy λh' a1 a2 a3 a4 a5 a6 a7=>aq (hQ h' a1 a2 a3 a4 a5 a6 a7)) (sw (aE z)))))
theorem Ba(l1 l2:Addr):
  Meets (cu.«zip.__new__» {pos:=[.type "zip",.ref l1,.ref l2]}) λA R s=>
   (∃xs ys,s.heap.IsTuple l1 xs/\s.heap.IsList l2 ys)/\
   ∀h':Heap,kq h' (s.heap.objs.size+4) (s.heap.objs.size+2) (s.heap.objs.size+3) .none->eB h' (s.heap.objs.size+2) (.ref s.heap.objs.size) (.ref (s.heap.objs.size+1))->eB h' (s.heap.objs.size+3) .none .none->
    h'.IsTupleIter s.heap.objs.size l1 0->h'.IsListIter (s.heap.objs.size+1) l2 0->h'.objs.size=s.heap.objs.size+5->(∀c o,s.heap.get? c=some o->h'.get? c=some o)->
    R (.ok (.ret (.ref (s.heap.objs.size+4)))) {s with heap:=h'}:=by
 refine Meets.of_wp λprog w A R s h=> ?_
 obtain⟨⟨xs,ys,t1,t2⟩,h⟩:=h
 refine aa (aa (show wpAny _ _ (pure _) _ _ _ from aq ?_))
 refine wpAny_ite_false rfl (aa (wpAny_of_eq sub_zip (wpAny_ite_false rfl (aq (wpAny_ite_false rfl ?_)))))
 refine aa (aa ?_)
 refine aa (aa (cJ (wpAny_pyIter_tuple t1 (aq ?_))))
 refine aa (aa (cJ (uc (t2.push _) (aq ?_))))
 refine aq (aq ?_)
 refine aa (zR ?_ (show 2<=aO by decide))
 refine aa (zR ?_ (show 2<=aO by decide))
 refine aa (Jb ?_ (show 5<=aO+2 by decide))
 have z1:=cS s.heap {cls:=bE "tuple_iterator",data:=dD #[aE l1,dO 0 0]}
 generalize e1:s.heap.push {cls:=bE "tuple_iterator",data:=dD #[aE l1,dO 0 0]}=g1 at*
 have z2:=cS g1 {cls:=bE "list_iterator",data:=dD #[aE l2,dO 0 0]}
 have p1:g1.get? s.heap.objs.size=some {cls:=bE "tuple_iterator",data:=dD #[aE l1,dO 0 0]}:=by rw[<-e1];exact aK _ rfl
 have q1:∀c o,s.heap.get? c=some o->g1.get? c=some o:=λc o q=>by rw[<-e1];exact af _ q
 have p2:=aK g1 (o:={cls:=bE "list_iterator",data:=dD #[aE l2,dO 0 0]}) rfl
 have q2:∀c o,g1.get? c=some o->(g1.push {cls:=bE "list_iterator",data:=dD #[aE l2,dO 0 0]}).get? c=some o:=λc o q=>af _ q
 generalize g1.push {cls:=bE "list_iterator",data:=dD #[aE l2,dO 0 0]}=g2 at*
 rw[z1]at z2 p2
 refine aq ⟨_,rfl,?_⟩
 have z3:=cS g2 {cls:=bE "tuple",data:=eZ #[aE s.heap.objs.size,aE g1.objs.size]}
 have p3:=aK g2 (o:={cls:=bE "tuple",data:=eZ #[aE s.heap.objs.size,aE g1.objs.size]}) rfl
 have q3:∀c o,g2.get? c=some o->(g2.push {cls:=bE "tuple",data:=eZ #[aE s.heap.objs.size,aE g1.objs.size]}).get? c=some o:=λc o q=>af _ q
 show R (Except.ok (Flow.ret (aE ((g2.push {cls:=bE "tuple",data:=eZ #[aE s.heap.objs.size,aE g1.objs.size]}).push {cls:=bE "tuple",data:=eZ #[br,br]}).objs.size))) {s with heap:=(((g2.push {cls:=bE "tuple",data:=eZ #[aE s.heap.objs.size,aE g1.objs.size]}).push {cls:=bE "tuple",data:=eZ #[br,br]}).push {cls:=bE "zip",data:=dD #[br,e8 false,e8 false,aE g2.objs.size,aE (g2.push {cls:=bE "tuple",data:=eZ #[aE s.heap.objs.size,aE g1.objs.size]}).objs.size]})}
 generalize g2.push {cls:=bE "tuple",data:=eZ #[aE s.heap.objs.size,aE g1.objs.size]}=g3 at*
 have z4:=cS g3 {cls:=bE "tuple",data:=eZ #[br,br]}
 have p4:=aK g3 (o:={cls:=bE "tuple",data:=eZ #[br,br]}) rfl
 have q4:∀c o,g3.get? c=some o->(g3.push {cls:=bE "tuple",data:=eZ #[br,br]}).get? c=some o:=λc o q=>af _ q
 generalize g3.push {cls:=bE "tuple",data:=eZ #[br,br]}=g4 at*
 have s2:g2.objs.size=s.heap.objs.size+2:=z2
 have s3:g3.objs.size=s.heap.objs.size+3:=by rw[z3,s2]
 have s4:g4.objs.size=s.heap.objs.size+4:=by rw[z4,s3]
 rw[s2,s3,s4]
 have z5:=cS g4 {cls:=bE "zip",data:=dD #[br,e8 false,e8 false,aE (s.heap.objs.size+2),aE (s.heap.objs.size+3)]}
 have p5:=aK g4 (o:={cls:=bE "zip",data:=dD #[br,e8 false,e8 false,aE (s.heap.objs.size+2),aE (s.heap.objs.size+3)]}) rfl
 have q5:∀c o,g4.get? c=some o->(g4.push {cls:=bE "zip",data:=dD #[br,e8 false,e8 false,aE (s.heap.objs.size+2),aE (s.heap.objs.size+3)]}).get? c=some o:=λc o q=>af _ q
 rw[s4]at z5 p5
 rw[s3]at p4
 rw[s2,z1]at p3
 exact h _ p5 (q5 _ _ (q4 _ _ p3)) (q5 _ _ p4) ⟨_,q5 _ _ (q4 _ _ (q3 _ _ (q2 _ _ p1))),rfl,rfl⟩ ⟨_,q5 _ _ (q4 _ _ (q3 _ _ p2)),rfl,rfl⟩ z5 λc o q=>q5 _ _ (q4 _ _ (q3 _ _ (q2 _ _ (q1 _ _ q))))
theorem AW{prog:aJ}{w:aV}{A:Around}{E:ae->ai->Prop}{s:ai}{l1 l2:Addr}{xs ys:Array ae}{Q:ae->ai->Prop}(t1:s.heap.IsTuple l1 xs)(t2:s.heap.IsList l2 ys)
  (h:∀h':Heap,kq h' (s.heap.objs.size+4) (s.heap.objs.size+2) (s.heap.objs.size+3) .none->eB h' (s.heap.objs.size+2) (.ref s.heap.objs.size) (.ref (s.heap.objs.size+1))->eB h' (s.heap.objs.size+3) .none .none->
    h'.IsTupleIter s.heap.objs.size l1 0->h'.IsListIter (s.heap.objs.size+1) l2 0->h'.objs.size=s.heap.objs.size+5->(∀c o,s.heap.get? c=some o->h'.get? c=some o)->
    Q (.ref (s.heap.objs.size+4)) {s with heap:=h'}):
  wpAny (aQ prog w) A (call (.type "zip") [.ref l1,.ref l2]) Q E s:=
 callType_new F.called_zip (by decide) (F.typeCall_zip_2 _ _) (F.newCall_zip_2 _ _) (λobj=>F.args_object_init_3 obj _ _) F.entry_zip_new (Ba l1 l2)
  ⟨⟨xs,ys,t1,t2⟩,λh' a1 a2 a3 a4 a5 a6 a7=>⟨⟨_,a1,rfl⟩,h h' a1 a2 a3 a4 a5 a6 a7⟩⟩
theorem Bb{prog:aJ}{w:aV}{A:Around}{E:ae->ai->Prop}{s:ai}{z TI TO i1 i2 l1 l2:Addr}{k:Nat}{xs ys:Array ae}{c1:ae}{a b:ae}{Q:Fin->ai->Prop}
  (hh:A.handled=none) (d:[z,TI,TO,i1,i2].Nodup) (hz:kq s.heap z TI TO .none) (hTI:eB s.heap TI (.ref i1) (.ref i2)) (hTO:eB s.heap TO a b)
  (h1:s.heap.IsTupleIter i1 l1 k) (h2:s.heap.IsListIter i2 l2 k) (t1:s.heap.IsTuple l1 xs) (t2:s.heap.IsList l2 ys) (n1:l1∉[z,TI,TO,i1,i2]) (n2:l2∉[z,TI,TO,i1,i2]) (hx:xs[k]? =some c1) (hy:ys[k]? =none)
  (hE:∀(h':Heap) (e:Addr),(∀c o,c≠z->c≠TO->c≠i1->c≠i2->s.heap.get? c=some o->h'.get? c=some o)->(∃o,h'.get? e=some o/\o.cls= .type "StopIteration")->E (.ref e) {s with heap:=h'}):
  wpAny (aQ prog w) A (cu.«zip.__next__» {pos:=[.ref z]}) Q E s:=by
 simp only[aZ,aI,bC,or_false,not_or]at d n1 n2
 obtain⟨⟨zTI,zTO,z1,z2⟩,⟨TITO,TI1,su⟩,⟨TO1,TO2⟩,i12,_⟩:=d
 obtain⟨lz1,_,lO1,l11,l12⟩:=n1
 obtain⟨lz2,_,lO2,l21,l22⟩:=n2
 refine aa (show wpAny _ _ (pure (aE z,([]:List ae))) _ _ _ from aq ?_)
 refine aa (bG hz rfl rfl ?_)
 refine aa (bG hz rfl rfl ?_)
 refine aa (dU hTI rfl ?_)
 refine aa (aa (bG hz rfl rfl (aq ?_)))
 simp only[if_true]
 refine aa (iq (aa (bG hz rfl rfl ?_)))
 refine aa (eQ hz (by simp) λh₁ hz₁ hs₁=> ?_)
 have hz1:kq h₁ z TI TO .ellipsis:=hz₁
 refine aa ?_
 simp only[rR,tR,lH,vn]
 refine aa (aa (lz ?_))
 change wpAny _ _ (bind (bL (aE i1)) λx=>pure (some x)) _ _ _
 refine aa (jk (h1.extBut hs₁.extBut (aG z1)) (t1.extBut hs₁.extBut lz1) hx λh₂ j2 sb2=>aq ?_)
 have hTO2:eB h₂ TO a b:=sb2.extBut _ _ TO1 (hs₁.extBut _ _ (aG zTO) hTO)
 refine aa (dU hTO2 rfl (aa (pG hTO2 λh₃ p3 sb3=>aa (wQ (aq ?_)))))
 refine aa (aa (lz ?_))
 change wpAny _ _ (bind (bL (aE i2)) λx=>pure (some x)) _ _ _
 have k2:h₃.IsListIter i2 l2 k:=((h2.extBut hs₁.extBut (aG z2)).extBut sb2.extBut (aG i12)).extBut sb3.extBut (aG TO2)
 have t2':h₃.IsList l2 ys:=((t2.extBut hs₁.extBut lz2).extBut sb2.extBut l21).extBut sb3.extBut lO2
 refine aa (wpAny_nextOf_list_end hh k2 t2' hy λh₄ e sb4 he=> ?_)
 have hz4:kq h₄ z TI TO .ellipsis:=sb4 _ _ z2 (sb3.extBut _ _ zTO (sb2.extBut _ _ z1 hz1))
 obtain⟨o,ho,hc⟩:=he
 refine eQ hz4 (by simp) λh₅ hz5 sb5=>hE h₅ e (λc u n1 n2 n3 n4 q=> ?_) ⟨o,sb5.extBut _ _ (λq=> ?_) ho,hc⟩
 ·exact sb5.extBut _ _ n1 (sb4 _ _ n4 (sb3.extBut _ _ n2 (sb2.extBut _ _ n3 (hs₁.extBut _ _ n1 q))))
 ·subst q
  rw[show h₄.get? e=_ from hz4]at ho
  cases ho
  exact absurd (bE.inj hc) (by decide)
theorem uz{prog:aJ}{w:aV}{A:Around}{E:ae->ai->Prop}{s:ai}{z TI TO i1 i2 l1 l2:Addr}{k:Nat}{xs ys:Array ae}{c1:ae}{a b:ae}{Q:Option ae->ai->Prop}
  (hh:A.handled=none) (d:[z,TI,TO,i1,i2].Nodup) (hz:kq s.heap z TI TO .none) (hTI:eB s.heap TI (.ref i1) (.ref i2)) (hTO:eB s.heap TO a b)
  (h1:s.heap.IsTupleIter i1 l1 k) (h2:s.heap.IsListIter i2 l2 k) (t1:s.heap.IsTuple l1 xs) (t2:s.heap.IsList l2 ys) (n1:l1∉[z,TI,TO,i1,i2]) (n2:l2∉[z,TI,TO,i1,i2]) (hx:xs[k]? =some c1) (hy:ys[k]? =none)
  (hQ:∀h':Heap,(∀c o,c≠z->c≠TO->c≠i1->c≠i2->s.heap.get? c=some o->h'.get? c=some o)->Q none {s with heap:=h'}):
  wpAny (aQ prog w) A (pyNext (.ref z)) Q E s:=by
 have hT:s.TypeIs (.ref z) "zip" :=⟨_,hz,rfl⟩
 exact aa (lB (cF hT g7 (cY g7 hT vk
  (Bb hh d hz hTI hTO h1 h2 t1 t2 n1 n2 hx hy λh' e hk ⟨o,ho,hc⟩=>aa (lY ⟨o,ho,hc⟩ isSubtype_stop (aq (hQ h' hk)))) (sw (aE z)))))
noncomputable def KH(K:PySem.W.Frag)(a1 a2:Addr):It:=
 ⟨λi H=>∃xs ys x y,SqT K H a1 xs/\SqL K H a2 ys/\xs[i]? =some x/\ys[i]? =some y,
  λi H v H'=>∃p,H p=none/\v= .ref p/\∀xs ys,SqT K H a1 xs->SqL K H a2 ys->∃x y,xs[i]? =some x/\ys[i]? =some y/\H'=upd H p (.tup [x,y]),
  λi H=>∃xs ys,SqT K H a1 xs/\SqL K H a2 ys/\(xs.length<=i\/ys.length<=i)⟩
theorem zV{P:aJ}{w:aV}{K:PySem.W.Frag}{elts:List Expr}{x1:Nat}{pos:Pos}{a1 a2:Addr}{z TI TO i1 i2:Addr}(d:[z,TI,TO,i1,i2].Nodup)(n1:a1∉[z,TI,TO,i1,i2])(n2:a2∉[z,TI,TO,i1,i2]):
  sr P w K (.Tuple elts x1 pos) (KH K a1 a2) [z,TI,TO,i1,i2] z (λi h=>kq h z TI TO .none/\eB h TI (.ref i1) (.ref i2)/\(∃a b,eB h TO a b)/\h.IsTupleIter i1 a1 i/\h.IsListIter i2 a2 i) where
 mem:=by simp
 obj:=λi h st b hb=>by
  obtain⟨hz,hTI,⟨a,c,hTO⟩,⟨o1,e1,_,d1⟩,⟨o2,e2,_,d2⟩⟩:=st
  have hb':b=z\/b=TI\/b=TO\/b=i1\/b=i2:=by simpa using hb
  rcases hb' with rfl|rfl|rfl|rfl|rfl
  ·exact⟨_,hz,λv q=>by cases (show dD _=rS v from q)⟩
  ·exact⟨_,hTI,λv q=>by cases (show eZ _ _=rS v from q)⟩
  ·exact⟨_,hTO,λv q=>by cases (show eZ _ _=rS v from q)⟩
  ·exact⟨o1,e1,λv q=>by rw[d1]at q;cases q⟩
  ·exact⟨o2,e2,λv q=>by rw[d2]at q;cases q⟩
 keep:=λi h h' st k=>by
  obtain⟨hz,hTI,⟨a,c,hTO⟩,⟨o1,e1,c1,d1⟩,⟨o2,e2,c2,d2⟩⟩:=st
  exact⟨k z (by simp) _ hz,k TI (by simp) _ hTI,⟨a,c,k TO (by simp) _ hTO⟩,⟨o1,k i1 (by simp) o1 e1,c1,d1⟩,⟨o2,k i2 (by simp) o2 e2,c2,d2⟩⟩
 item:=by
  intro X hP hw hK hc i pins s σ H E I hf st hg
  subst hP hw hK
  obtain⟨hz,hTI,⟨a,b,hTO⟩,h1,h2⟩:=st
  obtain⟨xs,ys,x,y,sq1,sq2,hx,hy⟩:=hg
  obtain⟨us1,rv1,p1,_⟩:=I.tuple sq1
  obtain⟨us2,rv2,p2,_⟩:=I.list sq2
  obtain⟨u,hu,ru⟩:=rv1.get hx
  obtain⟨v,hv,rv⟩:=rv2.get hy
  have lts:∀b∈[z,TI,TO,i1,i2],b<s.heap.objs.size:=λb hb=>by
   have hb':b=z\/b=TI\/b=TO\/b=i1\/b=i2:=by simpa using hb
   rcases hb' with rfl|rfl|rfl|rfl|rfl
   ·exact aB hz
   ·exact aB hTI
   ·exact aB hTO
   ·obtain⟨o,e,_⟩:=h1;exact aB e
   ·obtain⟨o,e,_⟩:=h2;exact aB e
  refine rZ d hz hTI hTO h1 h2 (show s.heap.IsTuple a1 us1.toArray from p1) p2.isList n1 n2 (c1:=u) (c2:=v) (by simpa using hu) (by simpa using hv) λg1 gz gTO gi1 gi2 gT gsz gk=> ?_
  refine⟨_,rfl,wpAny_letOwnedTupleGo_zip gz λg2 hz2 hs2=> ?_⟩
  replace hs2:eA z g1 g2:=hs2
  have hpn:H s.heap.objs.size=none:=I.hok.fresh (ao _)
  have k2:∀b o,b∉[z,TI,TO,i1,i2]->s.heap.get? b=some o->g2.get? b=some o:=λb o n q=>by
   simp only[aI,bC,or_false,not_or]at n
   exact hs2.extBut b o n.1 (gk b o n.1 n.2.2.1 n.2.2.2.1 n.2.2.2.2 q)
  have hTI2:eB g2 TI (.ref i1) (.ref i2):=by
   simp only[aZ,aI,bC,or_false,not_or]at d
   exact hs2.extBut _ _ (aG d.1.1) (gk _ _ (aG d.1.1) d.2.1.1 d.2.1.2.1 d.2.1.2.2 hTI)
  have ht2:g2.get? s.heap.objs.size=some {cls:= .type "tuple",data:= .seq #[u,v]}:=hs2.extBut _ _ (iC (lts z (by simp))) gT
  have ne1:∀b o,H b=some o->b∉[z,TI,TO,i1,i2]:=λb o q hb=>by rw[(hf b hb).1]at q;cases q
  have lt:∀b o,s.heap.get? b=some o->b≠s.heap.objs.size:=λb o q=>aN (aB q)
  have hok:HOk X.prog X.w (upd H s.heap.objs.size (.tup [x,y])) g2:=λb o q=>by
   by_cases hb:b=s.heap.objs.size
   ·subst hb
    rw[cw]at q
    cases q
    refine⟨(by show 2<=aO;decide),[u,v],.cons ru (.cons rv .nil),⟨_,ht2,rfl,_,rfl⟩⟩
   ·rw[bD hb]at q
    refine(I.hok b o q).stay (λc v hc' z=> ?_) (λc z=>by rw[bD (cr z hpn)];exact z) λc xs z=>by rw[bD (cr z hpn)];exact z
    refine k2 c v ?_ z
    rcases hc' with rfl|hc'
    ·exact ne1 _ _ q
    ·exact ne1 _ _ hc'
  have un:Un (lq X.stack) [z,TI,TO,i1,i2] H (upd H s.heap.objs.size (.tup [x,y])) s.heap g2:=by
   refine⟨λb o q _ _ hb=>k2 b o hb q,λb o q _ _ hb=>⟨o.slots,k2 b o hb q⟩,λb o q n _=>by rw[bD (lt b o q)];exact n,
    λb o q hb=>⟨o,k2 b o hb q⟩,λb xs q=>by rw[bD (cr q hpn)];exact q,λb o xs q=>by rw[bD (cr q hpn)];exact q,λb ps q=>⟨#[],by rw[bD (cr q hpn),q];simp⟩⟩
  have I2:Inv X pins σ (upd H s.heap.objs.size (.tup [x,y])) {s with heap:=g2}:=I.call' (s':={s with heap:=g2}) rfl un hok I.bare λb hb=>by
   have q:=hf b hb
   exact⟨q.2.2.2.1,q.2.1,q.2.2.2.2.1,q.2.2.2.2.2⟩
  obtain⟨a',b',gTO⟩:=gTO
  have d':=d
  simp only[aZ,aI,bC,or_false,not_or]at d'
  refine⟨.ref s.heap.objs.size,_,I2,rfl,⟨s.heap.objs.size,hpn,rfl,λxs' ys' h1 h2=>⟨x,y,by rw[I.tuple_inj h1 sq1];exact hx,by rw[I.list_inj h2 sq2];exact hy,rfl⟩⟩,⟨hz2,hTI2,⟨_,_,hs2.extBut _ _ (aG d'.1.2.1) gTO⟩,gi1.extBut hs2.extBut (aG d'.1.2.2.1),gi2.extBut hs2.extBut (aG d'.1.2.2.2)⟩,λb hb=> ?_⟩
  rw[bD (aN (lts b hb))]
  exact(hf b hb).1
 done:=by
  intro X hP hw hK hc i pins s σ H E I hf st hg
  subst hP hw hK
  obtain⟨hz,hTI,⟨a,b,hTO⟩,h1,h2⟩:=st
  obtain⟨xs,ys,sq1,sq2,hx⟩:=hg
  obtain⟨us1,rv1,p1,_⟩:=I.tuple sq1
  obtain⟨us2,rv2,p2,_⟩:=I.list sq2
  have hl:=rv1.length
  have hl2:=rv2.length
  have fin:∀g2:Heap,(∀c o,c≠z->c≠TO->c≠i1->c≠i2->s.heap.get? c=some o->g2.get? c=some o)->Inv X pins σ H {s with heap:=g2}:=λg2 gk=>by
   have k2:∀b o,b∉[z,TI,TO,i1,i2]->s.heap.get? b=some o->g2.get? b=some o:=λb o n q=>by
    simp only[aI,bC,or_false,not_or]at n
    exact gk b o n.1 n.2.2.1 n.2.2.2.1 n.2.2.2.2 q
   have ne1:∀b o,H b=some o->b∉[z,TI,TO,i1,i2]:=λb o q hb=>by rw[(hf b hb).1]at q;cases q
   have hok:HOk X.prog X.w H g2:=λb o q=>by
    refine(I.hok b o q).stay (λc v hc' z=> ?_) (λc z=>z) λc xs z=>z
    refine k2 c v ?_ z
    rcases hc' with rfl|hc'
    ·exact ne1 _ _ q
    ·exact ne1 _ _ hc'
   have un:Un (lq X.stack) [z,TI,TO,i1,i2] H H s.heap g2:=by
    refine⟨λb o q _ _ hb=>k2 b o hb q,λb o q _ _ hb=>⟨o.slots,k2 b o hb q⟩,λb o q n _=>n,
     λb o q hb=>⟨o,k2 b o hb q⟩,λb xs q=>q,λb o xs q=>q,λb ps q=>⟨#[],by rw[q];simp⟩⟩
   exact I.call' (s':={s with heap:=g2}) rfl un hok I.bare λb hb=>by
    have q:=hf b hb
    exact⟨q.2.2.2.1,q.2.1,q.2.2.2.2.1,q.2.2.2.2.2⟩
  by_cases hx1:xs.length<=i
  ·exact uy (I.ok.hd hc) d hz hTI hTO h1 (show s.heap.IsTuple a1 us1.toArray from p1) n1 (by simp;ac_nf) λg2 gk=>⟨rfl,fin g2 gk⟩
  ·obtain⟨u,hu,_⟩:=rv1.get (al (show i<xs.length by ac_nf))
   exact uz (I.ok.hd hc) d hz hTI hTO h1 h2 (show s.heap.IsTuple a1 us1.toArray from p1) p2.isList n1 n2 (c1:=u) (by simpa using hu) (by simp;ac_nf) λg2 gk=>⟨rfl,fin g2 gk⟩
 self:=λ_ _ _ _ _ st h=>wpAny_pyIter_zip st.1 h
noncomputable def Mr(K:PySem.W.Frag)(ta:TA):TI:=λσ H R=>ta σ H λvs H1=>∃a b xs ys,vs=[.ref a,.ref b]/\SqT K H1 a xs/\SqL K H1 b ys/\R (KH K a b) H1
theorem E9{X:Cx}{a b:Expr}{ta:TA}{p pos:Pos}{elts:List Expr}{x1:Nat}{tp:Pos}(hg:Gl X "zip")(hm:X.mg "zip" =none)(ha:PA X [a,b] ta)(hs:au [a,b] X.env=(false,eval a X.env)::au [b] X.env:=by rfl)(hpl:((bT pos (au [b] X.env)).any λx=>x.fst)=false:=by rfl):
  PI X (.Tuple elts x1 tp) (.Call (.Name "zip" p) [a,b] [] pos) (Mr X.K ta):=by
 intro pins s σ H R I h
 refine fO (oP (u:= .type "zip") I hg hm (by decide+kernel) ?_)
 refine fE (eD (ha pos pins s σ H _ I h) λus s1 hPl=> ?_) hs hpl
 obtain⟨vs,H1,I1,r1,q1⟩:=hPl
 obtain⟨a,b,xs,ys,rfl,sq1,sq2,q⟩:=q1
 obtain⟨u,v,rfl,r,r'⟩:=r1.two
 cases r
 cases r'
 obtain⟨us1,rv1,p1,_⟩:=I1.tuple sq1
 obtain⟨us2,rv2,p2,_⟩:=I1.list sq2
 have l1:a<s1.heap.objs.size:=by obtain⟨o,e,_⟩:=(show s1.heap.IsTuple a us1.toArray from p1);exact aB e
 have l2:b<s1.heap.objs.size:=by obtain⟨o,n,e,_⟩:=p2;exact aB e
 refine AW (show s1.heap.IsTuple a us1.toArray from p1) p2.isList λh' hz hTI hTO hi1 hi2 hz' hk=> ?_
 refine wpAny_pyIter_zip hz ?_
 have nin:∀c,c<s1.heap.objs.size->c∉[s1.heap.objs.size+4,s1.heap.objs.size+2,s1.heap.objs.size+3,s1.heap.objs.size,s1.heap.objs.size+1]:=λc hc=>by
  simp only[aI,bC,or_false,not_or]
  refine⟨?_,?_,?_,?_,?_⟩<;>exact aN (by ac_nf)
 refine⟨s1.heap.objs.size+4,[s1.heap.objs.size+4,s1.heap.objs.size+2,s1.heap.objs.size+3,s1.heap.objs.size,s1.heap.objs.size+1],_,_,H1,rfl,I1.kept (t':=s1.toks) λb o e=>hk b o e,zV ?_ (nin a l1) (nin b l2),⟨hz,hTI,⟨_,_,hTO⟩,hi1,hi2⟩,λb hb=> ?_,q⟩
 ·exact nd5 s1.heap.objs.size
 ·have hle:s1.heap.objs.size<=b:=by
   have hb':b=s1.heap.objs.size+4\/b=s1.heap.objs.size+2\/b=s1.heap.objs.size+3\/b=s1.heap.objs.size\/b=s1.heap.objs.size+1:=by simpa using hb
   rcases hb' with rfl|rfl|rfl|rfl|rfl<;>first|exact Nat.le_add_right _ _|exact ao _
  exact I1.fpOk hle (I1.hok.fresh hle)
theorem Gr{K:PySem.W.Frag}{H1:Hp}{a b:Addr}{us:List V}{xs ys:List PV}(s1:SqT K H1 a us)(d1:Dvs K H1 xs us):wN K H1 (KH K a b) (ju xs ys) (λG=>lk G b=some ys):=λi H G k r c=>by
 have q1:=k.1 _ _ s1
 have e1:=d1.keep k
 obtain⟨vs,q2,e2⟩:=fU r c
 have hpl:=l8 (xs:=xs) (ys:=ys)
 refine⟨λhi=> ?_,λhi=>⟨us,vs,q1,q2,?_⟩,λv H' hi h=> ?_⟩
 ·rw[hpl]at hi
  obtain⟨u,hu,_⟩:=e1.at (al (show i<xs.length by ac_nf))
  obtain⟨v,hv,_⟩:=e2.at (al (show i<ys.length by ac_nf))
  exact⟨us,vs,u,v,q1,q2,hu,hv⟩
 ·rw[e1.length,e2.length];ac_nf
 ·obtain⟨p,hp,rfl,h⟩:=h
  obtain⟨u,v,hu,hv,rfl⟩:=h us vs q1 q2
  obtain⟨x,hx,dx⟩:=e1.get hu
  obtain⟨y,hy,dy⟩:=e2.get hv
  have kn:Keep K H (upd H p (.tup [u,v])):=cg hp
  exact⟨.tup [x,y],oJ hx hy,kn,r.tup hp,p,_,rfl,.of cw,.cons (dx.keep kn) (.cons (dy.keep kn) .nil)⟩
noncomputable abbrev Oj(t:A2):su:=λτ G R=>t τ G λps G1=>∃b xs ys,ps=[.tup xs,.ref b]/\lk G1 b=some ys/\R (ju xs ys) (λG=>lk G b=some ys) G1
theorem Gb{X:Cx}{a b:Expr}{ta:A2}{p pos tp:Pos}{elts:List Expr}{x1:Nat}(hm:X.mg "zip" =none)(ha:JA X [a,b] ta)(hg:Gl X "zip" :=by rfl)(hs:au [a,b] X.env=(false,eval a X.env)::au [b] X.env:=by rfl)(hpl:((bT pos (au [b] X.env)).any λx=>x.fst)=false:=by rfl):
  JI X (.Tuple elts x1 tp) (.Call (.Name "zip" p) [a,b] [] pos) (Oj ta):= .of (E9 hg hm ha.h hs hpl) λσ H R ⟨τ,G,R2,rs,rp,h,cl⟩=>by
 refine⟨τ,G,_,rs,rp,h,λps G1 vs H1 q d r k=> ?_⟩
 obtain⟨b,xs,ys,rfl,c2,q⟩:=q
 obtain⟨v,vr,rfl,d1,u,vr2,rfl,d2,d3⟩:=d
 obtain rfl:vr2=[]:=d3
 obtain⟨a,us,rfl,s1,e1⟩:=d1
 obtain rfl:u= .ref b:=d2
 obtain⟨ws,q2,e2⟩:=fU r c2
 exact⟨a,b,us,ws,rfl,s1,q2,cl _ _ _ _ _ q r k (Gr s1 e1)⟩
structure Nx(P:aJ)(w:aV)(K:PySem.W.Frag)(mg:Str->Option ae)(base:Heap)(n:Str)(C f:Addr)(fd:aW)(k:Nat)(ps:List Str)(sp:iH):Prop where
 c:Mk K C f
 ok:i9 P w K mg base k f fd ps sp
 b:Binds K fd ps []
 g:mg n=some (.ref C)
theorem uL{X:Cx}{C f':Addr}{fd:aW}{k k':Nat}{ps:List Str}{x:Str}{e:Expr}{es:List Expr}{t:A2}{p pos:Pos}{sp:iH}(M:Nx X.prog X.w X.K X.mg X.base x C f' fd k ps sp)(hr:Room k' X.A)(hk:k+1<=k')(ha:JA X (e::es) t)(hg:Gl X x:=by rfl)
  (hdb:(x==("__debug__" :Str))=false:=by decide) (he:au (e::es) X.env=(false,eval e X.env)::au es X.env:=by rfl) (hpl:(bT pos (au es X.env)).any (·.1)=false:=by rfl):
  JE X (.Call (.Name x p) (e::es) [] pos) (Hx C sp t):=Dz M.c M.ok M.b hr hk M.g ha hg hdb he hpl
theorem Gd{X:Cx}{K:PySem.W.Frag}{D:Addr}{e:Expr}{es:List Expr}{t:A2}{p pos:Pos}(xk:sA K D)(hK:X.K=K)(B:BN X.mg)(ha:JA X (e::es) t)(hg:Gl X "isinstance" :=by rfl)(he:au (e::es) X.env=(false,eval e X.env)::au es X.env:=by rfl)(hpl:(bT pos (au es X.env)).any (·.1)=false:=by rfl):JE X (.Call (.Name "isinstance" p) (e::es) [] pos) (uU (AL K) t):=by
 subst hK
 exact Dx B ha hg he hpl
theorem xY{X:Cx}{C:Addr}{o value:Expr}{f:Str}{ta tv:E2}{pos tpos:Pos}(h:rT X.K C f)(ha:JE X o ta)(hv:JE X value tv):
  JS X (.AugAssign (.Attribute o f tpos) .Add value pos) (vR C ta tv f):=tu h.c h.n ha hv
end L3
namespace T17
open PySem L2 L3
local macro_rules | `(tactic| left) => `(tactic| with_reducible conv => whnf)
local macro_rules | `(tactic| exists $e:term) => `(tactic| (left; refine $e))
local macro_rules | `(tactic| ext) => `(tactic| (left; refine fD rfl rfl (nX rfl ?_)))
local macro_rules | `(tactic| nofun) => `(tactic| (left; refine eO rfl ?_))
local macro_rules | `(tactic| symm) => `(tactic| repeat' first
 | (show JG _ (.Tuple [_, _, _, _] _ _) _; first
  | exact Dr (i := 2) (j := 3) (k := 4) (l := 5) rfl (by assumption) rfl (by first | exact iI rfl | exact g6 rfl) rfl (by first | exact iI rfl | exact g6 rfl) rfl (by first | exact iI rfl | exact g6 rfl) rfl (by first | exact iI rfl | exact g6 rfl))
 | (show JT _ (.Compare (.Constant .none _ _) [.In] _ _) _; first
  | refine' kR (Ar (by assumption)) ?_ ?_ rfl)
 | (show JE _ (.Subscript (.Name _ _) (.Name "place" _) _) _; first
  | refine' x8 (by assumption) ?_ ?_)
 | (show JI _ _ (.Name "ways" _) _; first
  | refine' uJ ?_)
 | (show JI _ _ (.Name "more" _) _; first
  | refine' uJ ?_)
 | (show JI _ _ (.Name "turns" _) _; first
  | refine' uJ ?_)
 | (show JS _ (.Assign [.Subscript (.Name "ways" _) _ _] _ _) _; first
  | refine' oS ?_ (qZ ?_ ?_ (yS (by assumption))))
 | (show JS _ (.Assign [.Subscript (.Subscript _ _ _) _ _] _ _) _; first
  | refine' oS ?_ (qZ ?_ ?_ (yS (by assumption))))
 | (show JS _ (.Assign [.Subscript _ _ _] (.Constant _ _ _) _) _; first
  | refine' oS ?_ (qZ ?_ ?_ (yS (by assumption))))
 | (show JE _ (.Subscript (.Subscript (.Attribute _ "table" _) _ _) _ _) _; first
  | refine' x8 (by assumption) ?_ ?_)
 | (show JE _ (.Call (.Attribute _ "get" _) [_, _] [] _) _; first
  | refine' JV (by assumption) ?_ ?_ ?_)
 | (show JE _ (.Dict [some _] [_] _) _; first
  | refine' Gm ?_ ?_)
 | (show JS _ (.AugAssign (.Attribute _ _ _) .Sub _ _) _; first
  | refine' AA (by assumption) (by assumption) ?_ ?_)
 | (show JS _ (.AugAssign (.Attribute _ _ _) .Add _ _) _; first
  | refine' xY (by assumption) ?_ ?_)
 | (show JI _ _ (.Call (.Name "zip" _) [_, .Subscript _ _ _] _ _) _; first
  | refine' Gb (BN.zip (by assumption)) ?_)
 | (show JE _ (.Call (.Name "isinstance" _) [.Name "e" _, _] _ _) _; first
  | refine' Gd (by assumption) (by rfl) (by assumption) ?_)
 | (show JE _ (.Call (.Name "Counts" _) _ _ _) _; first
  | refine' uL (by assumption) (by assumption) (by first | assumption | omega) ?_)
 | (show JE _ (.Call (.Name "Descent" _) _ _ _) _; first
  | refine' uL (by assumption) (by assumption) (by first | assumption | omega) ?_)
 | (show JE _ (.Call (.Name "ByNumber" _) _ _ _) _; first
  | refine' uL (by assumption) (by assumption) (by first | assumption | omega) ?_)
 | (show JE _ (.Attribute _ _ _) _; first
  | refine' JX (by assumption) ?_)
 | (show JI _ _ (.Name "ends" _) _; first
  | refine' uJ ?_)
 | (show JE _ (.Subscript (.Name "ends" _) _ _) _; first
  | refine' x8 (by assumption) ?_ ?_)
 | (show JS _ (.Assign [.Subscript (.Name "ahead" _) _ _] _ _) _; first
  | refine' oS ?_ (qZ ?_ ?_ (yS (by assumption))))
 | (show JE _ (.Call (.Attribute _ "update" _) [_] [] _) _; first
  | refine' AD ?_ ?_)
 | (show JE _ (.Call (.Name "list" _) _ _ _) _; first
  | refine' Dw (by assumption) rfl ?_)
 | (show JE _ (.Call (.Name "sorted" _) _ _ _) _; first
  | refine' r9 (by assumption) rfl ?_)
 | (show JB _ _ _; first
  | exact JH
  | refine' JD ?_
  | refine' Gg ?_ ?_)
 | (show JA _ _ _; first
  | exact JM
  | refine' Gj ?_ ?_)
 | (show JF _ _ _; first
  | exact Jv
  | refine' Ju ?_)
 | (show JO _ _ _; first
  | exact F0
  | refine' FZ ?_)
 | (show JS _ (.Assign [.Name _ _] _ _) _; first
  | refine' Eo 0 ?_ (by assumption)
  | refine' Eo 1 ?_ (by assumption)
  | refine' Eo 2 ?_ (by assumption)
  | refine' Eo 3 ?_ (by assumption)
  | refine' Eo 4 ?_ (by assumption)
  | refine' Eo 5 ?_ (by assumption)
  | refine' Eo 6 ?_ (by assumption)
  | refine' Eo 7 ?_ (by assumption)
  | refine' Eo 8 ?_ (by assumption)
  | refine' Eo 9 ?_ (by assumption))
 | (show JS _ (.Assign [.Attribute _ _ _] _ _) _; first
  | refine' Js (by assumption) (by assumption) ?_ ?_)
 | (show JS _ (.AugAssign (.Attribute _ _ _) _ _ _) _; first
  | refine' tu (by assumption) (by assumption) ?_ ?_)
 | (show JS _ (.Try _ _ _ _ _) _; first
  | refine' nv (j := 3) (by assumption) (by assumption) (by first | assumption | omega) (by assumption) (by assumption) (by assumption) (by assumption) (by assumption) ?_ (λ_ => ?_)
  | refine' nv (j := 4) (by assumption) (by assumption) (by first | assumption | omega) (by assumption) (by assumption) (by assumption) (by assumption) (by assumption) ?_ (λ_ => ?_)
  | refine' nv (j := 5) (by assumption) (by assumption) (by first | assumption | omega) (by assumption) (by assumption) (by assumption) (by assumption) (by assumption) ?_ (λ_ => ?_)
  | refine' nv (j := 6) (by assumption) (by assumption) (by first | assumption | omega) (by assumption) (by assumption) (by assumption) (by assumption) (by assumption) ?_ (λ_ => ?_))
 | (show JS _ (.Raise _ _ _) _; first
  | refine' Do (by assumption) (by assumption) (by assumption) ?_)
 | (show JE _ (.Attribute _ _ _) _; first
  | refine' Hq (by assumption) (by assumption) ?_)
 | (show JS _ (.Assign [.Tuple _ _ _] _ _) _; first
  | refine' oS ?_ ?_)
 | (show JS _ (.Assign [.Subscript _ _ _] _ _) _; first
  | refine' oS ?_ (qZ ?_ ?_ Ha))
 | (show JS _ (.Return (some _) _) _; first
  | refine' Jr ?_)
 | (show JS _ (.If _ _ _ _) _; first
  | refine' LZ ?_ ?_ ?_)
 | (show JS _ (.For _ _ _ [] _) _; first
  | refine' Dp PassesOwn.never rfl ?_ ?_ ?_
  | refine' Dp PassesOwn.leaving rfl ?_ ?_ ?_)
 | (show JS _ (.While _ _ [] _) _; first
  | refine' wm PassesOwn.never ?_ ?_
  | refine' wm PassesOwn.leaving ?_ ?_)
 | (show JS _ (.Expr _ _) _; first
  | refine' FX ?_)
 | (show JS _ (.AugAssign (.Name _ _) _ _ _) _; first
  | refine' oR (n := 0) qK ?_ (by assumption) rfl (by first | exact iI rfl | exact g6 rfl)
  | refine' oR (n := 1) qK ?_ (by assumption) rfl (by first | exact iI rfl | exact g6 rfl)
  | refine' oR (n := 2) qK ?_ (by assumption) rfl (by first | exact iI rfl | exact g6 rfl)
  | refine' oR (n := 3) qK ?_ (by assumption) rfl (by first | exact iI rfl | exact g6 rfl)
  | refine' oR (n := 4) qK ?_ (by assumption) rfl (by first | exact iI rfl | exact g6 rfl)
  | refine' oR (n := 5) qK ?_ (by assumption) rfl (by first | exact iI rfl | exact g6 rfl))
 | (show JS _ (.AugAssign (.Subscript _ _ _) _ _ _) _; first
  | refine' FY Mv qK Ha ?_ ?_ ?_)
 | (show JS _ _ _; first
  | exact FW)
 | (show JE _ (.Name _ _) _; first
  | exact jv 0
  | exact jv 1
  | exact jv 2
  | exact jv 3
  | exact jv 4
  | exact jv 5
  | exact jv 6
  | exact jv 7
  | exact jv 8
  | exact jv 9
  | exact Dq (by assumption)
  | exact JU (by assumption)
  | exact JR (by assumption)
  | exact L5 (by assumption))
 | (show JE _ (.Constant _ _ _) _; first
  | exact Mj
  | exact Mb
  | exact Oi
  | exact Mf)
 | (show JE _ (.BinOp _ .Add _ _) _; first
  | refine' jaE (by assumption) ?_ ?_
  | refine' JL ?_ ?_)
 | (show JE _ (.BinOp _ .Sub _ _) _; first
  | refine' Jz ?_ ?_)
 | (show JE _ (.BinOp _ .Mult _ _) _; first
  | refine' JJ ?_ ?_)
 | (show JE _ (.BinOp _ .Mod _ _) _; first
  | refine' JK ?_ ?_)
 | (show JE _ (.BinOp _ .FloorDiv _ _) _; first
  | refine' Gf ?_ ?_)
 | (show JE _ (.BinOp _ .Pow _ _) _; first
  | refine' JC ?_ ?_)
 | (show JT _ (.Compare _ [.Eq] _ _) _; first
  | refine' LY (by assumption) ?_ ?_)
 | (show JT _ (.Compare _ [.NotEq] _ _) _; first
  | refine' LS (by assumption) ?_ ?_)
 | (show JE _ (.Compare _ [.NotEq] _ _) _; first
  | refine' L6 (by assumption) ?_ ?_)
 | (show JT _ (.Compare _ [.Lt] _ _) _; first
  | refine' LU ?_ ?_)
 | (show JE _ (.Compare _ [.Lt] _ _) _; first
  | refine' L7 ?_ ?_)
 | (show JT _ (.Compare _ [.Gt] _ _) _; first
  | refine' LW ?_ ?_)
 | (show JT _ (.Compare _ [.GtE] _ _) _; first
  | refine' LX ?_ ?_)
 | (show JE _ (.Compare _ [.GtE] _ _) _; first
  | refine' L8 ?_ ?_)
 | (show JT _ (.Compare _ [.In] _ _) _; first
  | refine' LV ?_ ?_ rfl)
 | (show JT _ (.Compare _ [.Is] _ _) _; first
  | refine' Jp ?_ ?_ rfl)
 | (show JT _ (.Compare _ [.LtE, .Lt] _ _) _; first
  | refine' FV ?_ ?_ ?_)
 | (show JT _ (.UnaryOp .Not _ _) _; first
  | refine' Jo ?_)
 | (show JT _ (.BoolOp _ _ _) _; first
  | refine' Oe ?_)
 | (show JW _ _ _; first
  | refine' LR ?_ ?_
  | refine' Jm ?_ ?_
  | refine' Jl ?_
  | refine' FT ?_)
 | (show JT _ _ _; first
  | refine' Jn ?_)
 | (show JE _ (.UnaryOp .Not _ _) _; first
  | refine' Me ?_)
 | (show JE _ (.UnaryOp .USub _ _) _; first
  | refine' Of KY ?_)
 | (show JE _ (.BoolOp _ _ _) _; first
  | refine' Mn ?_ ?_
  | refine' Og ?_ ?_
  | refine' Md ?_)
 | (show JE _ (.IfExp _ _ _ _) _; first
  | refine' Ml ?_ ?_ ?_)
 | (show JE _ (.List _ _) _; first
  | refine' Mh ?_)
 | (show JE _ (.Tuple _ _ _) _; first
  | refine' Ma ?_)
 | (show JE _ (.Subscript _ (.Slice _ _ _ _) _) _; first
  | refine' Mc ?_
  | refine' jsE (by assumption) ?_ ?_ ?_
  | refine' Gk ?_ ?_ ?_)
 | (show JE _ (.Subscript _ _ _) _; first
  | refine' Mi ?_ ?_)
 | (show JE _ (.Call (.Attribute _ _ _) _ _ _) _; first
  | refine' AF ?_ ?_
  | refine' AE ?_ ?_
  | refine' Ga ?_ ?_
  | refine' Jt ?_
  | refine' JP (by assumption) (by assumption) (by first | assumption | omega) ?_ ?_
  | refine' JQ (by assumption) (by assumption) (by first | assumption | omega) ?_)
 | (show JE _ (.Dict [] [] _) _; first
  | exact JY)
 | (show JE _ (.Call (.Name "isinstance" _) [.Name "caught" _, _] _ _) _; first
  | refine' Dx (by assumption) ?_)
 | (show JE _ (.Call (.Name _ _) _ _ _) _; first
  | refine' Mm (by assumption) (by assumption) (by first | assumption | omega) ?_
  | refine' DC Fl (by assumption) (by assumption) (by assumption) (by first | assumption | omega) ?_
  | refine' JZ (by assumption) (by assumption) (by first | assumption | omega) ?_
  | refine' Dz (by assumption) (by assumption) (by assumption) (by assumption) (by first | assumption | omega) (by assumption) ?_
  | refine' Jy (by assumption) ?_
  | refine' Ge (by assumption) ?_
  | refine' Jx (by assumption) rfl ?_
  | refine' Jw (by assumption) rfl ?_
  | refine' Du (by assumption) ?_)
 | (show JI _ _ (.Call (.Name _ _) _ _ _) _; first
  | refine' AH (BN.range (by assumption)) ?_
  | refine' AG (BN.range (by assumption)) ?_
  | refine' zw ?_
  | refine' zx ?_)
 | (show JI _ _ _ _; first
  | refine' zw ?_
  | refine' zx ?_)
 | (show JG _ (.Name _ _) _; first
  | exact Ep 0 (by assumption)
  | exact Ep 1 (by assumption)
  | exact Ep 2 (by assumption)
  | exact Ep 3 (by assumption)
  | exact Ep 4 (by assumption)
  | exact Ep 5 (by assumption)
  | exact Ep 6 (by assumption)
  | exact Ep 7 (by assumption)
  | exact Ep 8 (by assumption)
  | exact Ep 9 (by assumption))
 | (show JG _ (.Tuple _ _ _) _; first
  | exact uK 0 (by assumption)
  | exact uK 1 (by assumption)
  | exact uK 2 (by assumption)
  | exact uK 3 (by assumption)
  | exact uK 4 (by assumption)
  | exact uK 5 (by assumption)
  | exact uK 6 (by assumption)
  | exact uK 7 (by assumption)
  | exact uK 8 (by assumption)))
noncomputable def gG(names:List (Str×eE)):er:={kind:= .function,names:=names,isGenerator:=false,isCoroutine:=false,more:=[]}
noncomputable abbrev w6:Stmt:=top 1
noncomputable abbrev wZ:Stmt:=top 2
section
variable{P:aJ}{w:aV}{K:PySem.W.Frag}{mg:Str->Option ae}{base:Heap}{f fi:Addr}{fd di:aW}
theorem y4:bA ["pattern", "kind"] ["pattern"] (aL w6):=⟨rfl,rfl,rfl,by decide+kernel,rfl,by decide+kernel,by decide+kernel⟩
noncomputable def pZ:iH:=λps G Q=>∃p,ps=[ib p]/\Q (.tup (cL (cz p))) G
theorem CV(F:Fun K "inner_patterns" "inner_patterns" w6 f fd)(B:BN mg):i9 P w K mg base 1 f fd ["pattern"] pZ:=by
 have nd:=y4.nd
 refine lu F y4 (λvs G Q h=> ?_) (λcdv A outer s H E as G Q hr h=> ?_)
 ·obtain⟨p,rfl,_⟩:=h
  rfl
 have hU:=fk hr
 apply j3
 case a=>symm
 obtain⟨p,rfl,q⟩:=h
 cases p with
 |none=>exact⟨cW,rfl,rfl,rfl,rfl,cW,rfl,rfl,cW,G,GE.refl,q⟩
 |blank=>exact⟨cW,rfl,rfl,rfl,rfl,cW,rfl,rfl,cW,G,GE.refl,q⟩
 |sign s=>exact⟨cW,rfl,rfl,rfl,rfl,cW,rfl,rfl,cW,G,GE.refl,q⟩
 |row ps=>exact⟨cW,rfl,rfl,G,GE.refl,q⟩
 |pick ps=>exact⟨cW,rfl,rfl,G,GE.refl,q⟩
 |again p=>exact⟨cW,rfl,rfl,rfl,rfl,cW,G,GE.refl,q⟩
 |held n p=>exact⟨cW,rfl,rfl,rfl,rfl,cW,rfl,rfl,cW,G,GE.refl,q⟩
 |price n p=>exact⟨cW,rfl,rfl,rfl,rfl,cW,rfl,rfl,cW,G,GE.refl,q⟩
theorem y3:bA ["pattern", "makes", "waiting", "make"] ["pattern"] (aL wZ):=⟨rfl,rfl,rfl,by decide+kernel,rfl,by decide+kernel,by decide+kernel⟩
noncomputable def pY:iH:=λps G Q=>∃p,ps=[ib p]/\size p<=10000/\∀c,G c=none->Q (.ref c) (up G c (.lst (cL (makes p))))
theorem CU(F:Fun K "makes_of" "makes_of" wZ f fd)(B:BN mg)(C:cU P w K mg base 1 "inner_patterns" fi di ["pattern"] pZ):i9 P w K mg base 2 f fd ["pattern"] pY:=by
 have nd:=y3.nd
 refine lu F y3 (λvs G Q h=> ?_) (λcdv A outer s H E as G Q hr h=> ?_)
 ·obtain⟨p,rfl,_⟩:=h
  rfl
 have hU:=fk hr
 apply j3
 case a=>symm
 obtain⟨p,rfl,hz,q⟩:=h
 refine⟨cW,λm hm=>⟨cW,λv hv=> ?_⟩⟩
 obtain⟨hvm,hv⟩:=eI hv
 refine⟨λk τ G'=>∃(dn st:List Pt) (z:Option PV),τ=[some (ib p),some (.ref m),some (.ref v),z]/\G' m=some (.lst (cL dn))/\G' v=some (.lst (cL st.reverse))/\GE G G'/\dn++dH st=makes p/\k=cf st,
  ⟨_,[],[p],.none,rfl,by rw[aH (aG hvm),aj];rfl,by rw[aj];rfl,(GE.refl.new hm).mod hv,by simp[dH],rfl⟩,?_⟩
 rintro k τ G' ⟨dn,st,z,rfl,gm,gv,ge,he,rfl⟩
 have hl:dn.length+cf st=size p:=by
  have:=congrArg iV he
  rwa [aP,fH,bY]at this
 refine nq (aM gv) ?_
 cases st with
 |nil=>
  have hd:dn=makes p:=by simpa [dH]using he
  subst hd
  exact⟨_,ge.at gm,q m hm⟩
 |cons x st=>
  have ln:(cL (x::st).reverse).length=st.length+1:=by rw[cx,dW];rfl
  have hs:cf (x::st)=size x+cf st:=rfl
  have hx:=i0 x
  have hi:=cK (cz x)
  have hst:=cK st
  rw[show cL (x::st).reverse=cL st.reverse++[ib x]by rw[io,iA];rfl]at gv ln⊢
  refine iK ?_ ?_
  ·refine decide_eq_true ?_
   rw[ln];ac_nf
  refine⟨⟨_,gv⟩,Lq gv ?_⟩
  refine⟨⟨cL dn,by rw[aH (aG hvm)];exact gm⟩,gW (by rw[aH (aG hvm)];exact gm) (by rw[cx];ac_nf) ?_⟩
  refine⟨⟨_,by rw[aH hvm,aj]⟩,x,rfl,Km (by rw[aH hvm,aj]) ?_ ?_⟩
  ·rw[dW,cx,cx,dW];ac_nf
  refine⟨cf (cz x++st),?_,dn++[x],cz x++st,_,rfl,?_,?_,((ge.mod hv).mod hm).mod hv,?_,rfl⟩
  ·rw[mX];ac_nf
  ·rw[aH (aG hvm),aj,iA];rfl
  ·rw[aj,List.reverse_append,iA,uR (cz x)]
  ·rw[lN]
   rw[<-he]
   simp[dH,jl x]
end
theorem uV{lo:Int}{n i:Nat}{x:PV}(h:(jP lo n)[i]? =some x):i<n/\x= .int (lo-i):=by
 unfold jP at h
 rw[aC]at h
 cases e:(bJ n)[i]? with
 |none=>rw[e]at h;cases h
 |some j=>
  rw[e]at h
  have hi:i<n:=by
   have:=(am.mp e).1
   simpa using this
  rw[dB hi]at e
  cases e
  cases h
  exact⟨hi,rfl⟩
theorem rB(lo:Int)(n:Nat):(jP lo n).length=n:=by unfold jP;simp
theorem zA{n j:Nat}(h:j<n):AI n (j:Int)=some j:=by
 unfold AI
 rw[if_pos (by ac_nf),if_pos (by ac_nf)]
 simp
theorem rN{α:Type}(xs:List α)(x:α):qh (xs++[x]) (-1)=some x:=by
 unfold qh AI
 rw[if_neg (by ac_nf),if_pos (by simp;ac_nf)]
 show(xs++[x])[(-1+((xs++[x]).length:Int)).toNat]? =some x
 rw[aP,show(-1+((xs.length+[x].length:Nat):Int)).toNat=xs.length by simp;ac_nf]
 simp
theorem uS{ps:List Pt}{i:Nat}{x:PV}(h:(cL ps)[i]? =some x):∃c,ps[i]? =some c/\x=ib c:=by
 rw[gn,aC]at h
 cases e:ps[i]? with
 |none=>rw[e]at h;cases h
 |some c=>rw[e]at h;cases h;exact⟨c,rfl,rfl⟩
theorem iQ{ps:List Pt}{i:Nat}{c:Pt}(h:ps[i]? =some c):(cL ps)[i]? =some (ib c):=by
 rw[gn,aC,h];rfl
noncomputable abbrev mD:Stmt:=top 3
section
variable{P:aJ}{w:aV}{K:PySem.W.Frag}{mg:Str->Option ae}{base:Heap}{f fi fm:Addr}{fd di dm:aW}
theorem sP:bA ["pattern", "makes", "sizes", "parts", "number", "numbers", "part"] ["pattern"] (aL mD):=⟨rfl,rfl,rfl,by decide+kernel,rfl,by decide+kernel,by decide+kernel⟩
theorem tJ:dJ (aL mD) ["pattern", "makes", "sizes", "parts", "number", "numbers", "part"] (gG [(".0",.local),("make",.local)]) ["make"] [none] 0 "make" =true:=by decide+kernel
noncomputable def oo:iH:=λps G Q=>∃p,ps=[ib p]/\size p<=10000/\∀c,G c=none->Q (.ref c) (up G c (.lst (gF p)))
theorem xK(F:Fun K "parts_of" "parts_of" mD f fd)(B:BN mg)(CI:cU P w K mg base 1 "inner_patterns" fi di ["pattern"] pZ)(CM:cU P w K mg base 2 "makes_of" fm dm ["pattern"] pY):i9 P w K mg base 3 f fd ["pattern"] oo:=by
 have nd:=sP.nd
 refine lu F sP (λvs G Q h=> ?_) (λcdv A outer s H E as G Q hr h=> ?_)
 ·obtain⟨p,rfl,_⟩:=h
  rfl
 have hU:=fk hr
 apply j3
 case a=>
  symm
  all_goals try (refine' nw (n:=2) (ix:=[none]) (j:=0) nd rfl rfl tJ rfl ?_ (λC s H fp=>⟨?_,?_⟩))
  all_goals try (refine' nw (n:=3) (ix:=[none]) (j:=0) nd rfl rfl tJ rfl ?_ (λC s H fp=>⟨?_,?_⟩))
  all_goals symm
 obtain⟨p,rfl,hz,q⟩:=h
 have lM:(cL (makes p)).length=size p:=by rw[cx,bY]
 exists⟨p,rfl,hz,λmk hmk=> ?_⟩
 left
 rw[nj]
 left
 intro sz hsz
 have nsm:sz≠mk:=(eI hsz).1
 refine rL (λ_=>true) (λ_=> .int 1) (by rw[lM];ac_nf) (λys=>aM (by rw[aH (aG nsm),aj])) (λx ys R _ hR=>hR) (λx ys R _ _ hR=>hR) ?_
 rw[nZ.mpr (λ_ _=>rfl),List.map_const',lM]
 left
 rw[aM (show up (up G mk _) sz _ mk=some (.lst (cL (makes p)))by rw[aH (aG nsm),aj])]
 left
 intro pa hpa
 obtain⟨nps,hpa2⟩:=eI hpa
 obtain⟨npm,hpa3⟩:=eI hpa2
 have hsz':=(eI hsz).2
 refine rL (λ_=>true) (λ_=> .tup []) (by rw[lM];ac_nf) (λys=>aM (by rw[aH (aG npm),aH (aG nsm),aj])) (λx ys R _ hR=>hR) (λx ys R _ _ hR=>⟨cW,hR⟩) ?_
 rw[nZ.mpr (λ_ _=>rfl),List.map_const',lM]
 exists nq (xs:=cL (makes p)) (aM (by rw[aH (aG npm),aH (aG nsm),aj])) ?_
 rw[lM]
 exists⟨rfl,⟨by ac_nf,by ac_nf,by decide,by decide⟩,?_⟩
 rw[show((size p:Int)-1- -1).toNat=size p by ac_nf]
 refine⟨λi τ G2=>∃(S T:List PV) (t4 t5 t6:Option PV),τ=[some (ib p),some (.ref mk),some (.ref sz),some (.ref pa),t4,t5,t6]/\G2 mk=some (.lst (cL (makes p)))/\G2 sz=some (.lst S)/\G2 pa=some (.lst T)/\GE G G2/\
  S.length=size p/\T.length=size p/\(∀j,j<size p-i->S[j]? =some (.int 1))/\(∀j c,size p-i<=j->(makes p)[j]? =some c->S[j]? =some (.int (size c))/\T[j]? =some (.tup ((cN (j+1) (cz c)).map gh))),?_,?_,?_,?_⟩
 ·refine⟨_,_,_,_,_,rfl,by rw[aH (aG npm),aH (aG nsm),aj],by rw[aH (aG nps),aj],aj,((GE.refl.new hmk).mod hsz').mod hpa3,by simp,by simp,λj hj=> ?_,λj c hj hc=> ?_⟩
  ·rw[kx,if_pos (by ac_nf)]
  ·have:=(am.mp hc).1
   rw[bY]at this
   ac_nf
 ·intros;trivial
 ·rintro i x τ G2 hx ⟨S,T,t4,t5,t6,rfl,gm,gs,gp,ge,lS,lT,h1,h2⟩
  obtain⟨hi,rfl⟩:=uV hx
  obtain⟨j0,hj0⟩:∃j0,j0=size p-1-i:=⟨_,rfl⟩
  have hjn:((size p:Int)-1-i)=(j0:Int):=by ac_nf
  rw[hjn]
  have hjl:j0<(makes p).length:=by rw[bY];ac_nf
  obtain⟨c0,hc0⟩:∃c0,(makes p)[j0]? =some c0:=⟨_,al hjl⟩
  exists⟨cW,λnb hnb=> ?_⟩
  have nbm:mk≠nb:=aX gm hnb
  have nbs:sz≠nb:=aX gs hnb
  have nbp:pa≠nb:=aX gp hnb
  exists cj (aM (by rw[aH nbm];exact gm)) (bF (iQ hc0)) ?_
  exists⟨c0,rfl,?_⟩
  exists⟨λk τ G3=>∃(S2:List PV) (t6:Option PV),τ=[some (ib p),some (.ref mk),some (.ref sz),some (.ref pa),some (.int j0),some (.ref nb),t6]/\G3 mk=some (.lst (cL (makes p)))/\G3 sz=some (.lst S2)/\G3 pa=some (.lst T)/\G3 nb=some (.lst ((cN (j0+1) ((cz c0).take k)).map gh))/\GE G G3/\
   S2.length=size p/\S2[j0]? =some (.int (1+cf ((cz c0).take k)))/\∀j,j≠j0->S2[j]? =S[j]?,?_,?_,?_,?_⟩
  ·refine⟨S,t6,rfl,by rw[aH nbm];exact gm,by rw[aH nbs];exact gs,by rw[aH nbp];exact gp,aj,ge.new hnb,lS,?_,λ_ _=>rfl⟩
   rw[h1 j0 (by ac_nf)];simp[cf]
  ·intros;trivial
  ·rintro k x τ G3 hx3 ⟨S2,t6',rfl,gm3,gs3,gp3,gn3,ge3,lS2,e1,e2⟩
   obtain⟨c,hc,rfl⟩:=uS hx3
   have hkl:k<(cz c0).length:=(am.mp hc).1
   have tk:(cz c0).take (k+1)=(cz c0).take k++[c]:=by rw[bB,hc];rfl
   have spl:cz c0=(cz c0).take k++c::(cz c0).drop (k+1):=by
    have e3:=(dF k (cz c0)).symm
    rw[eP hkl]at e3
    have e4:(cz c0)[k]=c:=by
     have:=hc;rw[al hkl]at this;exact bf this
    rw[e4]at e3
    exact e3
   have hpart:=vK hc0 spl
   have hle:=vJ hpart
   have hcp:=fC c
   exists⟨⟨_,gn3⟩,?_⟩
   exists cj (aM gs3) (bF e1) ?_
   exists rO ?_
   exists gW gn3 (by rw[ak,eN,bv];have:=cK (cz c0);have:=vJ hc0;have:=i0 c0;ac_nf) ?_
   have nn:(nb:Addr)≠sz:=aG nbs
   exists Mo (i:=(j0:Int)) (aM (by rw[aH nbs];exact gs3)) (bF e1) ?_
   exists cj (aM aj) (rN _ _) ?_
   left
   have e5:S2[j0+1+cf ((cz c0).take k)]? =some (.int (size c)):=by
    rw[e2 _ (by ac_nf)]
    exact(h2 _ c (by ac_nf) hpart).1
   refine cj (aM (by rw[aH nbs];exact gs3)) (by
    have e6:=bF e5
    rw[show(((j0+1+cf ((cz c0).take k):Nat):Int))=(j0:Int)+(1+(cf ((cz c0).take k):Int))by ac_nf]at e6
    exact e6) ?_
   exists gE (k:=(j0:Int)) (by rw[aH nbs];exact gs3) (zA (by ac_nf)) ?_
   refine⟨_,_,rfl,by rw[aH (aG nsm),aH nbm];exact gm3,aj,by rw[aH (by exact nps),aH nbp];exact gp3,?_,(ge3.mod (by
    cases e:G nb with
    |none=>rfl
    |some o=>rw[ge _ _ e]at hnb;cases hnb)).mod hsz',by rw[List.length_set];exact lS2,?_,λj hj=> ?_⟩
   ·rw[aH (aG nbs),aj,tk,lR,a8]
    simp[cN,gh]
    ac_nf
   ·rw[cI (by ac_nf),tk,mX]
    simp[cf];ac_nf
   ·rw[cq (aG hj)];exact e2 j hj
  ·rintro τ G3 ⟨S2,t6',rfl,gm3,gs3,gp3,gn3,ge3,lS2,e1,e2⟩
   rw[cx,bi]at gn3 e1
   exists qt (aM gn3) ?_
   exists gE (k:=(j0:Int)) gp3 (zA (by ac_nf)) ?_
   refine⟨S2,_,_,_,_,rfl,by rw[aH (aG npm)];exact gm3,by rw[aH (aG nps)];exact gs3,aj,ge3.mod hpa3,lS2,by rw[List.length_set];exact lT,λj hj=> ?_,λj c hj hc=> ?_⟩
   ·rw[e2 j (by ac_nf)];exact h1 j (by ac_nf)
   ·by_cases hjj:j=j0
    ·subst hjj
     rw[hc0]at hc;cases hc
     refine⟨?_,?_⟩
     ·rw[e1,i0 c0];simp
     ·rw[cI (by ac_nf)]
    ·rw[e2 j hjj,cq (aG hjj)]
     exact h2 j c (by ac_nf) hc
 ·rintro τ G2 ⟨S,T,t4,t5,t6,rfl,gm,gs,gp,ge,lS,lT,h1,h2⟩
  rw[rB]at h1 h2
  have eT:T=gF p:=by
   apply List.ext_getElem?
   intro j
   by_cases hj:j<size p
   ·obtain⟨c,hc⟩:∃c,(makes p)[j]? =some c:=⟨_,al (by rw[bY];exact hj)⟩
    rw[(h2 j c (by ac_nf) hc).2,fQ hc]
   ·rw[cO (by ac_nf),cO (by rw[rY];ac_nf)]
  subst eT
  exact⟨_,ge.at gp,q pa hpa3⟩
end
noncomputable abbrev HF:Stmt:=top 5
section
variable{P:aJ}{w:aV}{K:PySem.W.Frag}{mg:Str->Option ae}{base:Heap}{f:Addr}{fd:aW}
theorem Hf:bA ["ways", "more", "times", "place"] ["ways", "more", "times"] (aL HF):=⟨rfl,rfl,rfl,by decide+kernel,rfl,by decide+kernel,by decide+kernel⟩
noncomputable def vH:iH:=λps G Q=>∃(a b:Addr) (t n:Nat) (ws ms:Ws) (h g:Nat->Nat),ps=[.ref a,.ref b,.int (t:Int)]/\G a=some (.dK (fc ws))/\G b=some (.rd (fc ms))/\Wy ws n h/\Wy ms n g/\0<t/\n<=1000/\(∀w∈ms,w.2<2^64)/\Q .non (up G a (.dK (fc (mr t ws ms))))
theorem IW(F:Fun K "add_ways" "add_ways" HF f fd)(B:BN mg):i9 P w K mg base 1 f fd ["ways", "more", "times"] vH:=by
 have nd:=Hf.nd
 refine lu F Hf (λvs G Q h=> ?_) (λcdv A outer s H E as G Q hr h=> ?_)
 ·obtain⟨_,_,_,_,_,_,_,_,rfl,_⟩:=h
  rfl
 have hU:=fk hr
 apply j3
 case a=>symm
 obtain⟨a,b,t,n,ws,ms,h,g,rfl,ga,gb,hw,hm,ht,hn,hb,q⟩:=h
 have key:(fc ms).map (λkv=>kP kv.1)=ms.map λw=>PV.int (w.1:Int):=by unfold fc;rw[bx];rfl
 have nab:b≠a:=λz=>by rw[z,ga]at gb;cases gb
 exists yh rfl gb ?_
 rw[key]
 refine⟨λi τ G'=>∃z:Option PV,τ=[some (.ref a),some (.ref b),some (.int (t:Int)),z]/\G'=up G a (.dK (fc (mr t ws (ms.take i)))),⟨none,rfl,?_⟩,?_,?_,?_⟩
 ·rw[List.take_zero];exact(yD ga).symm
 ·rintro i τ G' _ ⟨z,_,rfl⟩
  rw[aH nab];exact gb
 ·rintro i x τ G' hx ⟨z,rfl,rfl⟩
  rw[aC]at hx
  cases em:ms[i]? with
  |none=>rw[em]at hx;cases hx
  |some m=>
   rw[em]at hx
   cases hx
   have hi:=hw.put_part (i:=i) ht hm
   exists⟨rb (jR aj),?_⟩
   exists uO (jR aj) rfl ?_
   rw[vq hi.pos]
   left
   have e1:=oO hm.nd em
   have hp:=hm.pos m (av em)
   refine lO (nJ (by rw[aH nab];exact gb)) rfl (show g8 (fc ms) (.inl (m.1:Int))=some (.int (m.2:Int))by rw[mJ ms m.1 hm.pos,e1,if_neg (by ac_nf)]) ?_
   exists Da (.inl ⟨by ac_nf,by have:=hb m (av em);ac_nf⟩) ?_
   exists rO ?_
   exists qD aj rfl (by have:=hi.len;unfold fc;rw[ak];ac_nf) ?_
   refine⟨_,rfl,?_⟩
   rw[gJ,A1 em,<-qH _ _ _ hi.nd]
   congr 4
 ·rintro τ G' ⟨z,rfl,rfl⟩
  rw[ak,bi]
  exact⟨_,GE.refl,q⟩
end
noncomputable abbrev yz:Stmt:=eJ (top 6) 0
noncomputable abbrev wX:Stmt:=eJ (top 6) 2
noncomputable abbrev Bi:Stmt:=eJ (top 6) 3
noncomputable abbrev HD:Stmt:=eJ (top 6) 4
noncomputable abbrev Bf:Stmt:=eJ (top 6) 5
noncomputable abbrev xg:Stmt:=eJ (top 6) 6
section
variable{P:aJ}{w:aV}{K:PySem.W.Frag}{mg:Str->Option ae}{base:Heap}{f fa C:Addr}{fd da:aW}
theorem Hb:bA ["self", "number", "at", "ways", "part", "further", "place"] ["self", "number", "at"] (aL HD):=⟨rfl,rfl,rfl,by decide+kernel,rfl,by decide+kernel,by decide+kernel⟩
noncomputable def A5(C:Addr)(V:List Nat->Pt->Nat->Nat->Nat)(ok:Pt->Bool):iH:=λps G Q=>∃(a dx m pa tb:Addr) (ts:List Addr) (T:List Nat) (p q:Pt) (n e:Nat),ps=[.ref a,.int (n:Int),.int (e:Int)]/\Cs T p/\Tb C G a T p (Dn n e) dx m pa tb ts/\(makes p)[n]? =some q/\ok q=true/\e<=T.length/\
 ∀d ws,G d=none->Wy ws (T.length+1) (V T q e)->Q (.ref d) (up G d (.rd (fc ws)))
noncomputable def HG:List Nat->Pt->Nat->Nat->Nat:=λT q e=>lC T (cz q) (dl e)
theorem IT(c:Cls K C)(n1:NoAttr K C "signs")(n2:NoAttr K C "makes")(n3:NoAttr K C "parts")(n4:NoAttr K C "table")(F:Fun K "count_row" "Counts.count_row" HD f fd)(B:BN mg)(CA:cU P w K mg base 1 "add_ways" fa da ["ways", "more", "times"] vH):i9 P w K mg base 2 f fd ["self", "number", "at"] (A5 C HG λ_=>true):=by
 have nd:=Hb.nd
 refine GA F Hb (λvs G Q h=> ?_) (λcdv A outer s H E as G Q hr h=> ?_)
 ·obtain⟨_,_,_,_,_,_,_,_,_,_,_,rfl,_⟩:=h
  rfl
 have hU:=fk hr
 apply j3
 case a=>symm
 obtain⟨a,dx,m,pa,tb,ts,T,p,qq,n,e,rfl,cs,tbl,hq,-,he,q⟩:=h
 left
 intro w0 hw0
 exists uX rfl aj ?_
 rw[gJ]
 exists cH (by rw[aH (aX tbl.ins hw0)];exact tbl.ins) rfl ?_
 exists cj (aM (by rw[aH (aX tbl.pts hw0)];exact tbl.pts)) (bF (fQ hq)) ?_
 left
 have lnP:((cN (n+1) (cz qq)).map gh).length=(cz qq).length:=by rw[ak,eN]
 refine⟨λi τ G'=>∃(w1:Addr) (ws:Ws) (t4 t5 t6:Option PV),τ=[some (.ref a),some (.int (n:Int)),some (.int (e:Int)),some (.ref w1),t4,t5,t6]/\G w1=none/\G' w1=some (.dK (fc ws))/\GE G G'/\Wy ws (T.length+1) (lC T ((cz qq).take i) (dl e)),?_,?_,?_,?_⟩
 ·exact⟨w0,[(e,1)],none,none,none,rfl,hw0,aj,GE.refl.new hw0,Wy.one (by ac_nf)⟩
 ·intros;trivial
 ·rintro i x τ G' hx ⟨w1,ws,t4,t5,t6,rfl,hw1,gw,ge,wy⟩
  have hxl:=(am.mp hx).1
  rw[lnP]at hxl
  obtain⟨cc,hcc⟩:∃cc,(cz qq)[i]? =some cc:=⟨_,al hxl⟩
  obtain⟨j,rfl,hj,hnj⟩:=gR hq hcc hx
  left
  intro fu hfu
  have nfw:fu≠w1:=λz=>by rw[z,gw]at hfu;cases hfu
  have hfu0:G fu=none:=by
   cases ez:G fu with
   |none=>rfl
   |some o=>rw[ge _ _ ez]at hfu;cases hfu
  exists Kq rfl (by rw[aH (aG nfw)];exact gw) ?_
  rw[jN]
  refine⟨λi τ G2=>∃(fs:Ws) (t6:Option PV),τ=[some (.ref a),some (.int (n:Int)),some (.int (e:Int)),some (.ref w1),some (.int (j:Int)),some (.ref fu),t6]/\G2 w1=some (.rd (fc ws))/\G2 fu=some (.dK (fc fs))/\GE G G2/\Wy fs (T.length+1) (xH T cc (ws.take i)),?_,?_,?_,?_⟩
  ·exact⟨[],t6,rfl,aj,by rw[aH nfw,aj];rfl,((ge.mod hfu0).mod hw1),Wy.nil⟩
  ·rintro i τ G2 _ ⟨fs,t6,_,g1,_⟩
   exact g1
  ·rintro i2 x τ G2 hx ⟨fs,t6,rfl,g1,g2,oX,wf⟩
   obtain⟨v,hv,rfl⟩:=zu hx
   obtain⟨k1,k2,k3⟩:=wy.key hv
   have hle:e<=v.1:=uv _ (λk hk=>Hy hk) v.1 (by rw[k1];ac_nf)
   have tb2:=tbl.ge oX
   obtain⟨t,d,kvs,ms,r1,r2,r3,r4,r5⟩:=tb2.read hj (k:=v.1) (by
    rcases dz e v.1 with z|z
    ·exact .inl z
    ·exact .inr ⟨by ac_nf,hnj⟩) (by ac_nf)
   exists cH tb2.ins rfl ?_
   exists cj (aM tb2.tbl) (bF r1) ?_
   exists lO (jR r2) rfl r3 ?_
   exists lO (nJ g1) rfl (wy.read hv) ?_
   exists⟨fu,d,v.2,T.length+1,fs,ms,_,_,rfl,g2,r4,wf,r5,k2,by have:=cs.len;ac_nf,r5.big cs (av hj) (by ac_nf),?_⟩
   refine⟨mr v.2 fs ms,_,rfl,by rw[aH (aG nfw)];exact g1,aj,oX.mod hfu0,?_⟩
   refine(wf.add k2 r5.nd r5.lt r5.pos).congr λx=> ?_
   rw[sY hv,r5.val]
  ·rintro τ G2 ⟨fs,t6,rfl,g1,g2,oX,wf⟩
   rw[ak,bi]at wf
   exists⟨fu,fs,_,_,_,rfl,hfu0,g2,oX,wf.congr λx=> ?_⟩
   rw[vX wy,mz,hcc]
   exact congrFun (oF T cc _ _).symm x
 ·rintro τ G' ⟨w1,ws,t4,t5,t6,rfl,hw1,gw,ge,wy⟩
  rw[lnP]at wy
  rw[bi]at wy
  left
  exact⟨_,GW.rd ge gw,q w1 ws hw1 wy⟩
end
section
variable{P:aJ}{w:aV}{K:PySem.W.Frag}{mg:Str->Option ae}{base:Heap}{f fa C:Addr}{fd da:aW}
theorem BR:bA ["self", "number", "at", "ways", "part"] ["self", "number", "at"] (aL Bf):=⟨rfl,rfl,rfl,by decide+kernel,rfl,by decide+kernel,by decide+kernel⟩
noncomputable def Bo:List Nat->Pt->Nat->Nat->Nat:=λT q e j=>((cz q).map λp=>nT T p e j).sum
theorem none_of{G G':Gp}{a:Addr}(ge:GE G G')(h:G' a=none):G a=none:=by
 cases ez:G a with
 |none=>rfl
 |some o=>rw[ge _ _ ez]at h;cases h
theorem Fv(c:Cls K C)(n1:NoAttr K C "signs")(n2:NoAttr K C "makes")(n3:NoAttr K C "parts")(n4:NoAttr K C "table")(F:Fun K "count_pick" "Counts.count_pick" Bf f fd)(B:BN mg)(CA:cU P w K mg base 1 "add_ways" fa da ["ways", "more", "times"] vH):i9 P w K mg base 2 f fd ["self", "number", "at"] (A5 C Bo λ_=>true):=by
 have nd:=BR.nd
 refine GA F BR (λvs G Q h=> ?_) (λcdv A outer s H E as G Q hr h=> ?_)
 ·obtain⟨_,_,_,_,_,_,_,_,_,_,_,rfl,_⟩:=h
  rfl
 have hU:=fk hr
 apply j3
 case a=>symm
 obtain⟨a,dx,m,pa,tb,ts,T,p,qq,n,e,rfl,cs,tbl,hq,-,he,q⟩:=h
 left
 intro w0 hw0
 exists cH (by rw[aH (aX tbl.ins hw0)];exact tbl.ins) rfl ?_
 exists cj (aM (by rw[aH (aX tbl.pts hw0)];exact tbl.pts)) (bF (fQ hq)) ?_
 left
 have lnP:((cN (n+1) (cz qq)).map gh).length=(cz qq).length:=by rw[ak,eN]
 refine⟨λi τ G'=>∃(ws:Ws) (t4:Option PV),τ=[some (.ref a),some (.int (n:Int)),some (.int (e:Int)),some (.ref w0),t4]/\G' w0=some (.dK (fc ws))/\GE G G'/\Wy ws (T.length+1) (λj=>(((cz qq).take i).map λp=>nT T p e j).sum),?_,?_,?_,?_⟩
 ·exact⟨[],none,rfl,aj,GE.refl.new hw0,Wy.nil⟩
 ·intros;trivial
 ·rintro i x τ G' hx ⟨ws,t4,rfl,gw,ge,wy⟩
  have hxl:=(am.mp hx).1
  rw[lnP]at hxl
  obtain⟨cc,hcc⟩:∃cc,(cz qq)[i]? =some cc:=⟨_,al hxl⟩
  obtain⟨j,rfl,hj,hnj⟩:=gR hq hcc hx
  have tb2:=tbl.ge ge
  obtain⟨t,d,kvs,ms,r1,r2,r3,r4,r5⟩:=tb2.read hj (k:=e) (.inr ⟨rfl,hnj⟩) he
  exists cH tb2.ins rfl ?_
  exists cj (aM tb2.tbl) (bF r1) ?_
  exists lO (jR r2) rfl r3 ?_
  exists⟨w0,d,1,T.length+1,ws,ms,_,_,rfl,gw,r4,wy,r5,by ac_nf,by have:=cs.len;ac_nf,r5.big cs (av hj) he,?_⟩
  refine⟨mr 1 ws ms,_,rfl,aj,ge.mod hw0,?_⟩
  refine(wy.add (by ac_nf) r5.nd r5.lt r5.pos).congr λx=> ?_
  rw[r5.val,mz,hcc]
  simp
 ·rintro τ G' ⟨ws,t4,rfl,gw,ge,wy⟩
  rw[lnP]at wy
  rw[bi]at wy
  left
  exact⟨_,GW.rd ge gw,q w0 ws hw0 wy⟩
theorem za:bA ["self", "number", "at", "ways", "turns", "place"] ["self", "number", "at"] (aL xg):=⟨rfl,rfl,rfl,by decide+kernel,rfl,by decide+kernel,by decide+kernel⟩
noncomputable def zU:List Nat->Pt->Nat->Nat->Nat:=λT q e=>nT T q e
noncomputable def Kc:Pt->Bool
 | .again _=>true
 |_=>false
theorem C6(c:Cls K C)(n1:NoAttr K C "signs")(n2:NoAttr K C "makes")(n3:NoAttr K C "parts")(n4:NoAttr K C "table")(F:Fun K "count_again" "Counts.count_again" xg f fd)(B:BN mg)(CA:cU P w K mg base 1 "add_ways" fa da ["ways", "more", "times"] vH):i9 P w K mg base 2 f fd ["self", "number", "at"] (A5 C zU Kc):=by
 have nd:=za.nd
 refine GA F za (λvs G Q h=> ?_) (λcdv A outer s H E as G Q hr h=> ?_)
 ·obtain⟨_,_,_,_,_,_,_,_,_,_,_,rfl,_⟩:=h
  rfl
 have hU:=fk hr
 apply j3
 case a=>symm
 obtain⟨a,dx,m,pa,tb,ts,T,p,qq,n,e,rfl,cs,tbl,hq,hag,he,q⟩:=h
 cases qq with
 |again r=>
  have hcb:=cs.ag r (av hq)
  obtain⟨j,ej,hj,hnj⟩:=gR (i:=0) (cc:=r) hq rfl rfl
  have hj1:j=n+1:=iW.mp (PV.int.inj ej).symm
  left
  intro w0 hw0
  exists uX rfl aj ?_
  rw[gJ]
  have ge0:GE G (up G w0 (.dK [(.inl (e:Int),.int 1)])):=GE.refl.new hw0
  have tb1:=tbl.ge ge0
  obtain⟨t,d,kvs,tw,r1,r2,r3,r4,r5⟩:=tb1.read hj (k:=e) (.inr ⟨rfl,hnj⟩) he
  exists cH tb1.ins rfl ?_
  exists cH tb1.ins rfl ?_
  exists cj (aM tb1.pts) (bF (fQ hq)) ?_
  exists eO (x:= .int (j:Int)) (by rw[hj1];rfl) ?_
  exists cj (aM tb1.tbl) (bF r1) ?_
  exists lO (jR r2) rfl r3 ?_
  exists yh rfl r4 ?_
  rw[jN]
  refine⟨λi τ G'=>∃(ws:Ws) (t5:Option PV),τ=[some (.ref a),some (.int (n:Int)),some (.int (e:Int)),some (.ref w0),some (.ref d),t5]/\G' w0=some (.dK (fc ws))/\G' d=some (.rd (fc tw))/\GE G G'/\Wy ws (T.length+1) (λj=>dl e j+xH T (.again r) (tw.take i) j),?_,?_,?_,?_⟩
  ·exact⟨[(e,1)],none,rfl,aj,r4,ge0,(Wy.one (by ac_nf)).congr λj=>rfl⟩
  ·rintro i τ G' _ ⟨ws,t5,_,_,g2,_⟩
   exact g2
  ·rintro i x τ G' hx ⟨ws,t5,rfl,gw,gd,ge,wy⟩
   obtain⟨v,hv,rfl⟩:=zu hx
   obtain⟨k1,k2,k3⟩:=r5.key hv
   have hle:e<v.1:=by
    rcases dz e v.1 with z|z
    ·exact z
    ·rw[jK hcb z]at k1;ac_nf
   have tb2:=tbl.ge ge
   obtain⟨t2,d2,kvs2,ms,s1,s2,s3,s4,s5⟩:=tb2.read hq (k:=v.1) (.inl hle) (by ac_nf)
   exists cH tb2.ins rfl ?_
   exists cj (aM tb2.tbl) (bF s1) ?_
   exists lO (jR s2) rfl s3 ?_
   exists lO (nJ gd) rfl (r5.read hv) ?_
   exists⟨w0,d2,v.2,T.length+1,ws,ms,_,_,rfl,gw,s4,wy,s5,k2,by have:=cs.len;ac_nf,s5.big cs (av hq) (by ac_nf),?_⟩
   refine⟨mr v.2 ws ms,_,rfl,aj,by rw[aH (λz=>by rw[z,gw]at gd;cases gd)];exact gd,ge.mod hw0,?_⟩
   refine(wy.add k2 s5.nd s5.lt s5.pos).congr λx=> ?_
   rw[sY hv,s5.val,Nat.add_assoc]
  ·rintro τ G' ⟨ws,t5,rfl,gw,gd,ge,wy⟩
   rw[ak,bi]at wy
   exists⟨_,GW.rd ge gw,q w0 ws hw0 (wy.congr λx=> ?_)⟩
   rw[vX r5]
   exact(iy hcb he).symm
 |_=>cases hag
end
section
variable{P:aJ}{w:aV}{K:PySem.W.Frag}{mg:Str->Option ae}{base:Heap}{f fa fp fr C:Addr}{fd da dp dr:aW}
theorem Hs{S:Str}{c:Nat}{G:Gp}{Q:K2}(q:Q (.bl (decide (c∈S.cps.toList))) G):Mq false (.str ⟨#[c]⟩) (.str S) G Q:=by
 show Q (.bl ((!(gC S ⟨#[c]⟩ 0 S.length 1).isEmpty))) G
 rw[StrLaws.found_one];exact q
theorem jW{z:Str}{G:Gp}{Q:K2}(h:z.length<=16000000)(q:Q (.int z.length) G):jy [.str z] G Q:=⟨h,q⟩
theorem BV:bA ["self", "number", "at", "make", "kind"] ["self", "number", "at"] (aL Bi):=⟨rfl,rfl,rfl,by decide+kernel,rfl,by decide+kernel,by decide+kernel⟩
theorem Fz(c:Cls K C)(n1:NoAttr K C "signs")(n2:NoAttr K C "makes")(n3:NoAttr K C "parts")(n4:NoAttr K C "table")(F:Fun K "count_from" "Counts.count_from" Bi f fd)(B:BN mg)(MP:eS P w K mg base C 2 "count_pick" fp dp ["self", "number", "at"] (A5 C Bo λ_=>true))(MA:eS P w K mg base C 2 "count_again" fa da ["self", "number", "at"] (A5 C zU Kc))(MR:eS P w K mg base C 2 "count_row" fr dr ["self", "number", "at"] (A5 C HG λ_=>true)):i9 P w K mg base 3 f fd ["self", "number", "at"] (A5 C zU λ_=>true):=by
 have nd:=BV.nd
 refine GA F BV (λvs G Q h=> ?_) (λcdv A outer s H E as G Q hr h=> ?_)
 ·obtain⟨_,_,_,_,_,_,_,_,_,_,_,rfl,_⟩:=h
  rfl
 have hU:=fk hr
 apply j3
 case a=>symm
 obtain⟨a,dx,m,pa,tb,ts,T,p,qq,n,e,rfl,cs,tbl,hq,-,he,q⟩:=h
 exists cH tbl.ins rfl ?_
 exists cj (aM tbl.mks) (bF (iQ hq)) ?_
 left
 cases qq with
 |none=>
  nofun
  exists fD rfl rfl (iK rfl ?_)
  left
  intro w0 hw0
  exact⟨_,GW.rd (GE.refl.new hw0) aj,q w0 [] hw0 Wy.nil⟩
 |sign z=>
  nofun
  ext
  exists fD rfl rfl (iK rfl ?_)
  exists cH tbl.ins rfl ?_
  exists jW (by rw[dZ];have:=cs.len;ac_nf) ?_
  rw[dZ]
  left
  have no:nT T (.sign z) e=(λ_=>0)->∀w0,G w0=none->∃G0,GW G0 (up G w0 (.dK []))/\Q (.ref w0) G0:=λh w0 hw0=>⟨_,GW.rd (GE.refl.new hw0) aj,q w0 [] hw0 (by show Wy [] _ (nT T (.sign z) e);rw[h];exact Wy.nil)⟩
  refine sf (λh=> ?_) (λh=> ?_)
  ·have h1:(e:Int)<(T.length:Nat):=of_decide_eq_true h
   have h2:e<T.length:=by ac_nf
   obtain⟨ch,ec⟩:∃ch,T[e]? =some ch:=⟨_,al h2⟩
   exists cH tbl.ins rfl ?_
   exists pr (c:=ch) (by rw[dZ];have:=cs.len;ac_nf) (bF (by rw[p9];exact ec)) ?_
   exists eO (x:= .str z) rfl ?_
   exists Hs ?_
   left
   by_cases hc:ch∈z.cps.toList
   ·refine iK (decide_eq_true hc) ?_
    left
    intro w0 hw0
    exists rO ?_
    exists uX rfl aj ?_
    rw[gJ]
    refine⟨_,GW.rd (GE.refl.new hw0) aj,q w0 [(e+1,1)] hw0 ((Wy.one (by ac_nf)).congr λj=> ?_)⟩
    show _=jF (bc T (.sign z) e) j
    unfold bc
    rw[ec]
    simp only[if_pos hc]
    exact(j8 _ _ _).symm
   ·refine nX (decide_eq_false hc) ?_
    exists no ?_
    funext j
    show jF (bc T (.sign z) e) j=0
    unfold bc
    rw[ec]
    simp only[if_neg hc]
    rfl
  ·have h1:¬(e:Int)<(T.length:Nat):=of_decide_eq_false h
   exists no ?_
   funext j
   show jF (bc T (.sign z) e) j=0
   unfold bc
   rw[cO (by ac_nf)]
   rfl
 |pick ps=>
  nofun
  ext
  ext
  exists fD rfl rfl (iK rfl ?_)
  exists⟨⟨a,dx,_,rfl,tbl.ins,rfl⟩,?_⟩
  exists⟨a,dx,m,pa,tb,ts,T,p,_,n,e,rfl,cs,tbl,hq,rfl,he,λd ws hd hw=>⟨_,GE.refl.gw,q d ws hd (hw.congr λj=> ?_)⟩⟩
  exact p8.symm
 |again r=>
  nofun
  ext
  ext
  ext
  exists fD rfl rfl (iK rfl ?_)
  exists⟨⟨a,dx,_,rfl,tbl.ins,rfl⟩,?_⟩
  left
  exact⟨a,dx,m,pa,tb,ts,T,p,_,n,e,rfl,cs,tbl,hq,rfl,he,λd ws hd hw=>⟨_,GE.refl.gw,q d ws hd hw⟩⟩
 |blank=>
  nofun
  ext
  ext
  ext
  ext
  exists⟨⟨a,dx,_,rfl,tbl.ins,rfl⟩,?_⟩
  left
  exact⟨a,dx,m,pa,tb,ts,T,p,_,n,e,rfl,cs,tbl,hq,rfl,he,λd ws hd hw=>⟨_,GE.refl.gw,q d ws hd (hw.congr λj=>(li rfl he).symm)⟩⟩
 |row ps=>
  nofun
  ext
  ext
  ext
  ext
  exists⟨⟨a,dx,_,rfl,tbl.ins,rfl⟩,?_⟩
  left
  exact⟨a,dx,m,pa,tb,ts,T,p,_,n,e,rfl,cs,tbl,hq,rfl,he,λd ws hd hw=>⟨_,GE.refl.gw,q d ws hd (hw.congr λj=>(li rfl he).symm)⟩⟩
 |held nm r=>
  nofun
  ext
  ext
  ext
  ext
  exists⟨⟨a,dx,_,rfl,tbl.ins,rfl⟩,?_⟩
  left
  exact⟨a,dx,m,pa,tb,ts,T,p,_,n,e,rfl,cs,tbl,hq,rfl,he,λd ws hd hw=>⟨_,GE.refl.gw,q d ws hd (hw.congr λj=>(li rfl he).symm)⟩⟩
 |price nm r=>
  nofun
  ext
  ext
  ext
  ext
  exists⟨⟨a,dx,_,rfl,tbl.ins,rfl⟩,?_⟩
  left
  exact⟨a,dx,m,pa,tb,ts,T,p,_,n,e,rfl,cs,tbl,hq,rfl,he,λd ws hd hw=>⟨_,GE.refl.gw,q d ws hd (hw.congr λj=>(li rfl he).symm)⟩⟩
end
section
variable{P:aJ}{w:aV}{K:PySem.W.Frag}{mg:Str->Option ae}{base:Heap}{f fm fp fr C:Addr}{fd dm dp dr:aW}
theorem yW:bA ["self"] ["self"] (aL wX):=⟨rfl,rfl,rfl,by decide+kernel,rfl,by decide+kernel,by decide+kernel⟩
noncomputable def uj(C:Addr):iH:=λps G Q=>∃(a dx m pa tb:Addr) (ts:List Addr) (T:List Nat) (p:Pt),ps=[.ref a]/\Cs T p/\Tb C G a T p (λ_ _=>True) dx m pa tb ts/\Q (.int (nT T p 0 T.length:Nat)) G
theorem FJ(p:Pt):(makes p)[0]? =some p:=by rw[jl p];rfl
theorem Cy(c:Cls K C)(n1:NoAttr K C "signs")(n4:NoAttr K C "table")(F:Fun K "total" "Counts.total" wX f fd)(B:BN mg):i9 P w K mg base 1 f fd ["self"] (uj C):=by
 have nd:=yW.nd
 refine lu F yW (λvs G Q h=> ?_) (λcdv A outer s H E as G Q hr h=> ?_)
 ·obtain⟨_,_,_,_,_,_,_,_,rfl,_⟩:=h
  rfl
 have hU:=fk hr
 apply j3
 case a=>symm
 obtain⟨a,dx,m,pa,tb,ts,T,p,rfl,cs,tbl,q⟩:=h
 obtain⟨t,d,kvs,ms,r1,r2,r3,r4,r5⟩:=tbl.read (FJ p) (k:=0) trivial (bt _)
 exists cH tbl.ins rfl ?_
 exists cj (i:=0) (aM tbl.tbl) (bF (j:=0) r1) ?_
 exists lO (jR r2) rfl r3 ?_
 exists⟨rb (nJ r4),?_⟩
 exists cH tbl.ins rfl ?_
 exists jW (by rw[dZ];have:=cs.len;ac_nf) ?_
 rw[dZ]
 exists uO (nJ r4) rfl ?_
 rw[vq r5.pos,r5.val]
 exact⟨_,GE.refl,q⟩
theorem BS:bA ["self", "pattern", "text", "at", "number"] ["self", "pattern", "text"] (aL yz):=⟨rfl,rfl,rfl,by decide+kernel,rfl,by decide+kernel,by decide+kernel⟩
theorem Kv:dJ (aL yz) ["self", "pattern", "text", "at", "number"] (gG [(".0",.local),("make",.local)]) ["make"] [none] 0 "make" =true:=by decide+kernel
noncomputable def xx(C:Addr):iH:=λps G Q=>∃(a dx:Addr) (T:List Nat) (p:Pt),ps=[.ref a,ib p,.str (pM T)]/\G a=some (.ins C dx [])/\Cs T p/\∀G' m pa tb ts,Ch [a] G G'->Tb C G' a T p (λ_ _=>True) dx m pa tb ts->Q .non G'
theorem Fx(c:Cls K C)(n1:NoAttr K C "signs")(n2:NoAttr K C "makes")(n3:NoAttr K C "parts")(n4:NoAttr K C "table")(F:Fun K "__init__" "Counts.__init__" yz f fd)(B:BN mg)(CM:cU P w K mg base 2 "makes_of" fm dm ["pattern"] pY)(CP:cU P w K mg base 3 "parts_of" fp dp ["pattern"] oo)(MF:eS P w K mg base C 3 "count_from" fr dr ["self", "number", "at"] (A5 C zU λ_=>true)):i9 P w K mg base 4 f fd ["self", "pattern", "text"] (xx C):=by
 have nd:=BS.nd
 refine lu F BS (λvs G Q h=> ?_) (λcdv A outer s H E as G Q hr h=> ?_)
 ·obtain⟨_,_,_,_,rfl,_⟩:=h
  rfl
 have hU:=fk hr
 apply j3
 case a=>
  symm
  all_goals try (refine' q9 (ix:=[none]) (j:=0) Kv rfl ?_ (λC s H fp=>⟨?_,?_⟩))
  all_goals symm
 obtain⟨a,dx,T,p,rfl,ga,cs,q⟩:=h
 have lM:(cL (makes p)).length=size p:=by rw[cx,bY]
 have hsz:=cs.siz
 have hln:=cs.len
 exists kF ga (ba rfl) ?_
 exists⟨p,rfl,by ac_nf,λm hm=> ?_⟩
 left
 have nma:m≠a:=(eI hm).1
 refine kF (by rw[aH (aG nma),aj]) (ba rfl) ?_
 exists⟨p,rfl,by ac_nf,λpa hpa=> ?_⟩
 left
 obtain⟨npa,hpa2⟩:=eI hpa
 obtain⟨npm,hpa3⟩:=eI hpa2
 have hpa0:G pa=none:=(eI hpa3).2
 have hm0:G m=none:=(eI hm).2
 refine kF (by rw[aH (aG npa),aj]) (ba rfl) ?_
 rw[yE (a:=a) (b:=m) (aG nma),gJ,yE (a:=a) (b:=pa) (aG npa),gJ]
 exists cH aj rfl ?_
 left
 rw[aM (show up (up (up G m _) pa _) a _ m=some (.lst (cL (makes p)))by rw[aH nma,aH (aG npm),aj])]
 left
 intro acc hacc
 obtain⟨nca,hac2⟩:=eI hacc
 obtain⟨ncp,hac3⟩:=eI hac2
 obtain⟨ncm,hac0⟩:=eI hac3
 have k0:Ch [a] G (up (up (up G m (.lst (cL (makes p)))) pa (.lst (gF p))) a (.ins C dx [("signs",.str (pM T)),("makes",.ref m),("parts",.ref pa)])):=((Ch.refl.mod' hm0).mod' hpa0).put (by simp)
 have g0a:up (up (up G m (.lst (cL (makes p)))) pa (.lst (gF p))) a (.ins C dx [("signs",.str (pM T)),("makes",.ref m),("parts",.ref pa)]) a=some (.ins C dx [("signs",.str (pM T)),("makes",.ref m),("parts",.ref pa)]):=aj
 have g0m:up (up (up G m (.lst (cL (makes p)))) pa (.lst (gF p))) a (.ins C dx [("signs",.str (pM T)),("makes",.ref m),("parts",.ref pa)]) m=some (.lst (cL (makes p))):=by rw[aH nma,aH (aG npm),aj]
 have g0p:up (up (up G m (.lst (cL (makes p)))) pa (.lst (gF p))) a (.ins C dx [("signs",.str (pM T)),("makes",.ref m),("parts",.ref pa)]) pa=some (.lst (gF p)):=by rw[aH npa,aj]
 change M4 _ _ _ _ _ _ _ _ (up (up (up G m (.lst (cL (makes p)))) pa (.lst (gF p))) a (.ins C dx [("signs",.str (pM T)),("makes",.ref m),("parts",.ref pa)])) acc
 change up (up (up G m (.lst (cL (makes p)))) pa (.lst (gF p))) a (.ins C dx [("signs",.str (pM T)),("makes",.ref m),("parts",.ref pa)]) acc=none at hacc
 generalize up (up (up G m (.lst (cL (makes p)))) pa (.lst (gF p))) a (.ins C dx [("signs",.str (pM T)),("makes",.ref m),("parts",.ref pa)])=G0 at k0 g0a g0m g0p hacc⊢
 refine⟨λi ys G1=>∃ts:List Addr,ys=ts.map PV.ref/\ts.length=i/\ts.Nodup/\(∀t∈ts,G1 t=some (.dK [])/\G0 t=none)/\GE G0 G1/\G1 acc=some (.lst ys),?_,?_,?_,?_⟩
 ·exact⟨[],rfl,rfl,by simp,by simp,GE.refl.new hacc,aj⟩
 ·rintro i ys G1 hi ⟨ts,rfl,rfl,nd',ht,ge,gc⟩
  refine⟨aM (ge _ _ g0m),gc,?_⟩
  rw[ak];ac_nf
 ·rintro i ys G1 x hx ⟨ts,rfl,rfl,nd',ht,ge,gc⟩
  refine iK rfl ?_
  left
  intro d hd
  have hd0:=none_of ge hd
  have ndc:d≠acc:=λz=>by rw[z,gc]at hd;cases hd
  refine⟨by rw[aH (aG ndc)];exact gc,ts++[d],by rw[a8];rfl,by simp,?_,λt h=> ?_,((ge.mod hd0).mod hacc),aj⟩
  ·rw[List.nodup_append]
   refine⟨nd',by simp,λx hx y hy=> ?_⟩
   cases aA.mp hy
   intro z
   rw[z]at hx
   rw[(ht d hx).1]at hd;cases hd
  ·rcases bo.mp h with h|h
   ·have h1:=ht t h
    exact⟨by rw[aH (λz=>by rw[z,gc]at h1;cases h1.1),aH (aX h1.1 hd)];exact h1.1,h1.2⟩
   ·cases aA.mp h
    exact⟨by rw[aH ndc,aj],hd0⟩
 ·rintro ys G1 ⟨ts,rfl,hts,nd',ht,ge,gc⟩
  rw[lM]at hts
  exists kF (ge _ _ g0a) (ba rfl) ?_
  have nac:a≠acc:=aX g0a hacc
  have k1:Ch [a] G (up G1 a (.ins C dx (KO T m pa acc))):=(k0.trans ge.ch).put (by simp)
  have nta:∀t∈ts,t≠a:=λt h z=>by have:=(ht t h).2;rw[z,g0a]at this;cases this
  have htG:∀t∈ts,G t=none:=λt h=>by
   cases ez:G t with
   |none=>rfl
   |some o=>
    have:=k0 t o (by simpa using nta t h) ez
    rw[(ht t h).2]at this;cases this
  have tb0:Tb C (up G1 a (.ins C dx (KO T m pa acc))) a T p (λ_ _=>False) dx m pa acc ts:=⟨aj,by rw[aH nma];exact ge _ _ g0m,by rw[aH npa];exact ge _ _ g0p,by rw[aH (aG nac)];exact gc,hts,λi t hi=>⟨[],by rw[aH (nta t (av hi))];exact(ht t (av hi)).1,λ_ _ _ hf=>hf.elim⟩⟩
  have l0:∀(j:Nat) (t:Addr),ts[j]? =some t->∃kvs,up G1 a (.ins C dx (KO T m pa acc)) t=some (.dK kvs)/\kvs.length<=0:=λj t hj=>⟨[],by rw[aH (nta t (av hj))];exact(ht t (av hj)).1,ao _⟩
  change (λG3=>_) (up G1 a (.ins C dx (KO T m pa acc)))
  generalize up G1 a (.ins C dx (KO T m pa acc))=G2 at k1 tb0 l0⊢
  exists jW (by rw[dZ];ac_nf) ?_
  rw[dZ]
  exists⟨rfl,⟨by ac_nf,by ac_nf,by decide,by decide⟩,?_⟩
  rw[show((T.length:Int)- -1).toNat=T.length+1 by ac_nf]
  refine⟨λi τ G3=>∃(t3 t4:Option PV),τ=[some (.ref a),some (ib p),some (.str (pM T)),t3,t4]/\Ch [a] G G3/\Tb C G3 a T p (λ_ e=>T.length<e+i) dx m pa acc ts/\∀(j:Nat) (t:Addr),ts[j]? =some t->∃kvs,G3 t=some (.dK kvs)/\kvs.length<=i,?_,?_,?_,?_⟩
  ·exact⟨none,none,rfl,k1,tb0.mono λ_ e h1 h2=>by ac_nf,l0⟩
  ·intros;trivial
  ·rintro i x τ G3 hx ⟨t3,t4,rfl,k3,tb3,l3⟩
   obtain⟨hi,rfl⟩:=uV hx
   obtain⟨e0,he0⟩:∃e0,e0=T.length-i:=⟨_,rfl⟩
   rw[show((T.length:Int)-(i:Nat))=(e0:Nat)by ac_nf]
   exists cH tb3.ins rfl ?_
   exists nq (aM tb3.mks) ?_
   rw[lM]
   exists⟨rfl,⟨by ac_nf,by ac_nf,by decide,by decide⟩,?_⟩
   rw[show((size p:Int)-1- -1).toNat=size p by ac_nf]
   refine⟨λk τ G4=>∃(t4:Option PV),τ=[some (.ref a),some (ib p),some (.str (pM T)),some (.int (e0:Nat)),t4]/\Ch [a] G G4/\Tb C G4 a T p (λj e=>e0<e\/e=e0/\size p<=j+k) dx m pa acc ts/\∀(j:Nat) (t:Addr),ts[j]? =some t->∃kvs,G4 t=some (.dK kvs)/\kvs.length<=i+1/\(j+k<size p->kvs.length<=i),?_,?_,?_,?_⟩
   ·refine⟨t4,rfl,k3,tb3.mono' λj e h0 h1 h2=> ?_,λj t hj=> ?_⟩
    ·rcases h2 with h2|⟨h2,h3⟩
     ·ac_nf
     ·ac_nf
    ·obtain⟨kvs,h1,h2⟩:=l3 j t hj
     exact⟨kvs,h1,by ac_nf,λ_=>h2⟩
   ·intros;trivial
   ·rintro k x τ G4 hx ⟨t4,rfl,k4,tb4,l4⟩
    obtain⟨hk,rfl⟩:=uV hx
    obtain⟨n,hn⟩:∃n,n=size p-1-k:=⟨_,rfl⟩
    rw[show((size p:Int)-1-(k:Nat))=(n:Nat)by ac_nf]
    have hnl:n<(makes p).length:=by rw[bY];ac_nf
    obtain⟨qn,hqn⟩:∃qn,(makes p)[n]? =some qn:=⟨_,al hnl⟩
    obtain⟨t,htn⟩:∃t,ts[n]? =some t:=⟨_,al (by ac_nf)⟩
    obtain⟨kvs,hk1,_,hk3⟩:=l4 n t htn
    exists⟨⟨a,dx,_,rfl,tb4.ins,rfl⟩,?_⟩
    exists⟨a,dx,m,pa,acc,ts,T,p,qn,n,e0,rfl,cs,tb4.mono λj e h1 h2=> ?_,hqn,rfl,by ac_nf,λd ws hd hw=> ?_⟩
    ·rcases h2 with h2|⟨h2,h3⟩
     ·exact .inl h2
     ·exact .inr ⟨h2,by ac_nf⟩
    left
    have ge5:GE G4 (up G4 d (.rd (fc ws))):=GE.refl.new hd
    have tb5:=tb4.ge ge5
    refine cH tb5.ins rfl ?_
    exists cj (aM tb5.tbl) (bF (Ea (α:=Nat) htn)) ?_
    exists qD (ge5 _ _ hk1) rfl (by have:=hk3 (by ac_nf);ac_nf) ?_
    refine⟨_,rfl,(k4.new hd).mod' (htG t (av htn)),tb4.write nd' htn hqn hk1 hd hw λj e h1 h2=> ?_,λj t' hj=> ?_⟩
    ·rcases h2 with h2|⟨h2,h3⟩
     ·exact .inl (.inl h2)
     ·by_cases z:j=n
      ·exact .inr ⟨z,h2⟩
      ·exact .inl (.inr ⟨h2,by ac_nf⟩)
    ·obtain⟨kv',m1,m2,m3⟩:=l4 j t' hj
     by_cases z:t'=t
     ·subst z
      refine⟨_,aj,?_,λh=> ?_⟩
      ·have:=mZ (k:= .inl (e0:Int)) (v:= .ref d) kvs
       have:=hk3 (by ac_nf)
       ac_nf
      ·exfalso
       have pw:=wL.mp nd'
       obtain⟨a1,b1⟩:=am.mp hj
       obtain⟨a2,b2⟩:=am.mp htn
       rcases Nat.lt_or_gt_of_ne (show j≠n by ac_nf)with z|z
       ·exact pw j n a1 a2 z (by rw[b1,b2])
       ·ac_nf
     ·exact⟨kv',by rw[aH z,aH (aX m1 hd)];exact m1,m2,λh=>m3 (by ac_nf)⟩
   ·rintro τ G4 ⟨t4,rfl,k4,tb4,l4⟩
    rw[rB]at tb4 l4
    refine⟨_,_,rfl,k4,tb4.mono λj e h1 h2=> ?_,λj t hj=> ?_⟩
    ·by_cases z:e0<e
     ·exact .inl z
     ·exact .inr ⟨by ac_nf,by ac_nf⟩
    ·obtain⟨kvs,h1,h2,_⟩:=l4 j t hj
     exact⟨kvs,h1,h2⟩
  ·rintro τ G3 ⟨t3,t4,rfl,k3,tb3,l3⟩
   rw[rB]at tb3
   exact⟨_,GE.refl,q G3 m pa acc ts k3 (tb3.mono λj e h1 _=>by ac_nf)⟩
end
noncomputable abbrev Bj:Stmt:=eJ (top 6) 1
noncomputable abbrev w9:Stmt:=eJ (top 13) 0
noncomputable abbrev tZ:Stmt:=eJ (top 13) 1
noncomputable abbrev w8:Stmt:=eJ (top 14) 0
noncomputable abbrev tT:Stmt:=eJ (top 14) 1
noncomputable abbrev tW:Stmt:=eJ (top 14) 2
noncomputable abbrev xa:Stmt:=eJ (top 14) 3
noncomputable abbrev Es:Stmt:=eJ (top 14) 4
noncomputable abbrev qk:Stmt:=eJ (top 14) 5
noncomputable abbrev mF:Stmt:=eJ (top 14) 6
noncomputable abbrev mE:Stmt:=eJ (top 14) 7
noncomputable def mw:List Nat->Nat->Nat×Nat
 |[],k=>(0,k)
 |n::ns,k=>if k<n then(0,k)else((mw ns (k-n)).1+1,(mw ns (k-n)).2)
theorem jS(n:Nat)(ns:List Nat)(k:Nat):mw (n::ns) k=if k<n then(0,k)else((mw ns (k-n)).1+1,(mw ns (k-n)).2):=rfl
section
variable{P:aJ}{w:aV}{K:PySem.W.Frag}{mg:Str->Option ae}{base:Heap}{f C CB:Addr}{fd:aW}
theorem BW:bA ["self", "number", "at"] ["self", "number", "at"] (aL Bj):=⟨rfl,rfl,rfl,by decide+kernel,rfl,by decide+kernel,by decide+kernel⟩
noncomputable def ou(C:Addr):iH:=λps G Q=>∃(a dx m pa tb:Addr) (ts:List Addr) (T:List Nat) (p q:Pt) (n e:Nat),ps=[.ref a,.int (n:Int),.int (e:Int)]/\Tb C G a T p (λ_ _=>True) dx m pa tb ts/\(makes p)[n]? =some q/\e<=T.length/\
 ∀d ws,G d=some (.rd (fc ws))->Wy ws (T.length+1) (nT T q e)->Q (.ref d) G
theorem FA(c:Cls K C)(n4:NoAttr K C "table")(F:Fun K "ends_of" "Counts.ends_of" Bj f fd)(B:BN mg):i9 P w K mg base 1 f fd ["self", "number", "at"] (ou C):=by
 have nd:=BW.nd
 refine lu F BW (λvs G Q h=> ?_) (λcdv A outer s H E as G Q hr h=> ?_)
 ·obtain⟨_,_,_,_,_,_,_,_,_,_,_,rfl,_⟩:=h
  rfl
 have hU:=fk hr
 apply j3
 case a=>symm
 obtain⟨a,dx,m,pa,tb,ts,T,p,qq,n,e,rfl,tbl,hq,he,q⟩:=h
 obtain⟨t,d,kvs,ms,r1,r2,r3,r4,r5⟩:=tbl.read hq (k:=e) trivial he
 exists cH tbl.ins rfl ?_
 exists cj (aM tbl.tbl) (bF r1) ?_
 exists lO (jR r2) rfl r3 ?_
 exact⟨_,GE.refl,q d ms r4 r5⟩
theorem y8:bA ["self", "number"] ["self", "number"] (aL w9):=⟨rfl,rfl,rfl,by decide+kernel,rfl,by decide+kernel,by decide+kernel⟩
noncomputable def yR(CB:Addr):iH:=λps G Q=>∃(a dx:Addr) (k:Int),ps=[.ref a,.int k]/\G a=some (.ins CB dx [])/\Q .non (up G a (.ins CB dx [("left",.int k)]))
theorem C0(c:Cls K CB)(n1:NoAttr K CB "left")(F:Fun K "__init__" "ByNumber.__init__" w9 f fd)(B:BN mg):i9 P w K mg base 1 f fd ["self", "number"] (yR CB):=by
 have nd:=y8.nd
 refine lu F y8 (λvs G Q h=> ?_) (λcdv A outer s H E as G Q hr h=> ?_)
 ·obtain⟨_,_,_,rfl,_⟩:=h
  rfl
 have hU:=fk hr
 apply j3
 case a=>symm
 obtain⟨a,dx,k,rfl,ga,q⟩:=h
 exists kF ga (ba rfl) ?_
 exact⟨_,GE.refl,q⟩
theorem vO:bA ["self", "sizes", "mark"] ["self", "sizes"] (aL tZ):=⟨rfl,rfl,rfl,by decide+kernel,rfl,by decide+kernel,by decide+kernel⟩
noncomputable def kE(CB:Addr):iH:=λps G Q=>∃(a dx sz:Addr) (k:Nat) (ns:List Nat),ps=[.ref a,.ref sz]/\G a=some (.ins CB dx [("left",.int (k:Int))])/\G sz=some (.lst (ns.map gh))/\k<ns.sum/\
 Q (.int ((mw ns k).1:Nat)) (up G a (.ins CB dx [("left",.int ((mw ns k).2:Nat))]))
theorem HP{C a dx:Addr}{f:Str}{G:Gp}{Q:Gp->Prop}{fs:List (Str×PV)}{i j:Int}{τ:iS}{tv:E2}(h:G a=some (.ins C dx fs))(e:fs.lookup f=some (.int i))(hl:fs.length<1000)(hv:∀R:K2,R (.int j) G->tv τ G R)(hq:Q (up G a (.ins C dx (kI f (.int (i-j)) fs)))):yM C f (.ref a) tv τ G Q:=by
 unfold yM;simp only[h,e]
 exact⟨trivial,hv _ (by simp only[h];exact⟨trivial,hl,hq⟩)⟩
theorem Ap(c:Cls K CB)(n1:NoAttr K CB "left")(F:Fun K "choose" "ByNumber.choose" tZ f fd)(B:BN mg):i9 P w K mg base 1 f fd ["self", "sizes"] (kE CB):=by
 have nd:=vO.nd
 refine lu F vO (λvs G Q h=> ?_) (λcdv A outer s H E as G Q hr h=> ?_)
 ·obtain⟨_,_,_,_,_,rfl,_⟩:=h
  rfl
 have hU:=fk hr
 apply j3
 case a=>symm
 obtain⟨a,dx,sz,k,ns,rfl,ga,gs,hk,q⟩:=h
 have nsa:sz≠a:=λz=>by rw[z,ga]at gs;cases gs
 exists⟨λm τ G'=>∃(j r:Nat),τ=[some (.ref a),some (.ref sz),some (.int (j:Int))]/\G'=up G a (.ins CB dx [("left",.int (r:Int))])/\j+m=ns.length/\r<(ns.drop j).sum/\(j+(mw (ns.drop j) r).1,(mw (ns.drop j) r).2)=mw ns k,⟨ns.length,0,k,rfl,(yD ga).symm,by ac_nf,hk,by simp⟩,?_⟩
 rintro m τ G' ⟨j,r,rfl,rfl,hm,hr2,he⟩
 have gs':up G a (.ins CB dx [("left",.int (r:Int))]) sz=some (.lst (ns.map gh)):=by rw[aH nsa];exact gs
 cases ed:ns.drop j with
 |nil=>rw[ed]at hr2;exact absurd hr2 (jh _)
 |cons x xs=>
  have hj:ns[j]? =some x:=by
   have:(ns.drop j)[0]? =some x:=by rw[ed];rfl
   rwa [List.getElem?_drop]at this
  have hat:(ns.map gh)[j]? =some (.int (x:Int)):=by rw[aC,hj];rfl
  have hd1:ns.drop (j+1)=xs:=by rw[<-List.tail_drop,ed];rfl
  rw[ed]at hr2 he
  rw[bn]at hr2
  exists cH aj rfl ?_
  exists cj (aM gs') (bF hat) ?_
  left
  by_cases hx:x<=r
  ·refine iK (decide_eq_true (by ac_nf)) ?_
   exists HP (i:=(r:Int)) (j:=(x:Int)) aj rfl (ba rfl) (λR r'=> ?_) ?_
   ·refine cj (aM gs') (bF hat) ?_
    exact r'
   rw[gJ]
   exists⟨m-1,by have:=(am.mp hj).1;ac_nf,j+1,r-x,rfl,?_,by have:=(am.mp hj).1;ac_nf,by rw[hd1];ac_nf,?_⟩
   ·show up G a (.ins CB dx [("left",.int ((r:Int)-(x:Int)))])=_
    rw[show(r:Int)-(x:Int)=((r-x:Nat):Int)by ac_nf]
   ·rw[hd1,<-he]
    show _=(j+(mw (x::xs) r).1,(mw (x::xs) r).2)
    rw[jS,if_neg (by ac_nf),show j+1+(mw xs (r-x)).1=j+((mw xs (r-x)).1+1)by ac_nf]
  ·refine nX (decide_eq_false (by ac_nf)) ?_
   left
   have e1:mw (x::xs) r=(0,r):=by rw[jS,if_pos (by ac_nf)]
   rw[e1]at he
   have e2:(mw ns k).1=j:=by rw[<-he];rfl
   have e3:(mw ns k).2=r:=by rw[<-he]
   rw[e2,e3]at q
   exact⟨_,GE.refl,q⟩
end
noncomputable abbrev Be:Stmt:=top 17
noncomputable abbrev yy:Stmt:=top 18
noncomputable abbrev ql:Stmt:=top 19
theorem fP{G:Gp}{a l:Addr}(p:Pool G a)(h:G l=none):l≠a:=λe=>by
 obtain⟨o,z⟩:=p.some
 subst e;rw[h]at z;cases z
theorem uq{a:Addr}{G:Gp}{Q:K2}{kvs:List (Key×PV)}(h:G a=some (.dK kvs))(hl:kvs.length<64)(hk:∀kv∈kvs,∃c,kv.1=dE (eM c))
  (q:∀(cs:List Nat) c,cs.Pairwise (· <·)->(∀x,x∈cs↔dE (eM x)∈kvs.map (·.1))->G c=none->Q (.ref c) (up G c (.lst (cs.map λc=> .str (eM c))))):ir [.ref a] G Q:=by
 unfold ir;simp only[h];exact⟨hl,hk,q⟩
open Classical in
theorem sV{kvs:List (Key×PV)}{k:Key}{v:PV}:(iu kvs k v).map (·.1)=if k∈kvs.map (·.1)then kvs.map (·.1)else kvs.map (·.1)++[k]:=by
 have hany:(kvs.any λkv=>decide (kv.1=k))=true↔k∈kvs.map (·.1):=by
  rw[List.any_eq_true,aD]
  constructor
  ·rintro⟨x,hx,e⟩;exact⟨x,hx,of_decide_eq_true e⟩
  ·rintro⟨x,hx,e⟩;exact⟨x,hx,decide_eq_true e⟩
 unfold iu
 by_cases h:k∈kvs.map (·.1)
 ·rw[if_pos (hany.mpr h),if_pos h,bx]
  refine fz λkv _=> ?_
  show(if kv.1=k then(kv.1,v)else kv).1=kv.1
  split<;>rfl
 ·rw[if_neg (λe=>h (hany.mp e)),if_neg h,a8]
  rfl
theorem jZ{lo:Int}{n i:Nat}{x:PV}(h:(kf lo n)[i]? =some x):i<n/\x= .int (lo+i):=by
 unfold kf at h
 rw[aC]at h
 cases e:(bJ n)[i]? with
 |none=>rw[e]at h;cases h
 |some j=>
  rw[e]at h
  have hi:i<n:=by
   have:=(am.mp e).1
   simpa using this
  rw[dB hi]at e
  cases e
  cases h
  exact⟨hi,rfl⟩
theorem iz(lo:Int)(n:Nat):(kf lo n).length=n:=by unfold kf;simp
theorem wn(cs:List Nat):(i8 (aF "") (cs.map eM)).length=cs.length:=by
 rw[<-jX cs,bu];rw[jX];rfl
theorem vV{kvs:List (Key×PV)}{k:Key}{v:PV}{x:Key×PV}(h:x∈iu kvs k v):x.1=k\/x.1∈kvs.map (·.1):=by
 have hm:x.1∈(iu kvs k v).map (·.1):=aD.mpr ⟨x,h,rfl⟩
 rw[sV]at hm
 split at hm
 ·exact .inr hm
 ·rcases bo.mp hm with h|h
  ·exact .inr h
  ·exact .inl (aA.mp h)
section
variable{P:aJ}{w:aV}{K:PySem.W.Frag}{mg:Str->Option ae}{base:Heap}{f fn:Addr}{fd dn:aW}
theorem sQ:bA ["pool", "every", "found", "k"] ["pool"] (aL ql):=⟨rfl,rfl,rfl,by decide+kernel,rfl,by decide+kernel,by decide+kernel⟩
noncomputable def oq:iH:=λps G Q=>∃a,ps=[.ref a]/\Pool G a/\∀z G',1<=z.length->z.length<=5->Pool G' a->Ch [a] G G'->Q (.str z) G'
theorem xL(F:Fun K "_law_letters" "_law_letters" ql f fd)(B:BN mg)(C:cU P w K mg base 1 "_law_next" fn dn ["pool", "base"] gD):i9 P w K mg base 2 f fd ["pool"] oq:=by
 have nd:=sQ.nd
 refine lu F sQ (λvs G Q h=> ?_) (λcdv A outer s H E as G Q hr h=> ?_)
 ·obtain⟨_,rfl,_⟩:=h
  rfl
 have hU:=fk hr
 apply j3
 case a=>symm
 obtain⟨a,rfl,p1,q⟩:=h
 exists⟨by decide,?_⟩
 have evl:(aF " !\"#$&'()*+,-./0123456789:;<=>?@ABCDEFGHIJKLMNOPQRSTUVWXYZ[\\]^_`" ++aF "abcdefghijklmnopqrstuvwxyz{|}~" :Str).cps.toList.length=94:=by decide+kernel
 generalize (aF " !\"#$&'()*+,-./0123456789:;<=>?@ABCDEFGHIJKLMNOPQRSTUVWXYZ[\\]^_`" ++aF "abcdefghijklmnopqrstuvwxyz{|}~" :Str)=ev at evl⊢
 have evs:ev.length=94:=by rw[<-evl,bu];rfl
 left
 intro fd0 hfd
 have nfa:fd0≠a:=fP p1 hfd
 exists⟨a,3,rfl,p1.new hfd,by decide,by decide,λn G1 n0 n3 p2 c1=> ?_⟩
 exists rO ?_
 exists⟨by ac_nf,by ac_nf,λi τ G2=>∃(kvs:List (Key×PV)) (t3:Option PV),τ=[some (.ref a),some (.str ev),some (.ref fd0),t3]/\G2 fd0=some (.dK kvs)/\kvs.length<=i/\(∀kv∈kvs,∃c,kv.1=dE (eM c))/\Pool G2 a/\Ch [a] G G2,⟨[],none,rfl,c1 _ _ (by simpa using nfa) aj,ao _,by simp,p2,(Ch.refl.new hfd).trans c1⟩,?_,?_,?_⟩
 ·intros;trivial
 ·rintro i x τ G2 hx ⟨kvs,t3,rfl,g2,l2,k2,p3,c3⟩
  obtain⟨hi,rfl⟩:=jZ hx
  exists⟨a,94,rfl,p3,by decide,by decide,λm G3 m0 m94 p4 c4=> ?_⟩
  obtain⟨c,ec,hcm⟩:=mq (xs:=ev.cps.toList) m0 (by rw[evl];exact m94)
  exists pr (by ac_nf) ec ?_
  left
  have g3:G3 fd0=some (.dK kvs):=c4 _ _ (by simpa using nfa) g2
  refine qD g3 rfl (by ac_nf) ?_
  refine⟨_,_,rfl,aj,?_,λkv hkv=> ?_,p4.ne nfa,(c3.trans c4).mod' hfd⟩
  ·have:=mZ (k:=dE (⟨#[c]⟩:Str)) (v:= .bl true) kvs
   ac_nf
  ·rcases vV hkv with h|h
   ·exact⟨c,h⟩
   ·obtain⟨y,hy,e⟩:=aD.mp h
    rw[<-e];exact k2 y hy
 ·rintro τ G2 ⟨kvs,t3,rfl,g2,l2,k2,p3,c3⟩
  rw[iz]at l2
  exists qD g2 rfl (by ac_nf) ?_
  have hl:=mZ (k:=dE (aF "a")) (v:= .bl true) kvs
  exists uq aj (by ac_nf) (λkv hkv=> ?_) λcs l hcs hm hl2=> ?_
  ·rcases vV hkv with h|h
   ·exact⟨97,h⟩
   ·obtain⟨y,hy,e⟩:=aD.mp h
    rw[<-e];exact k2 y hy
  have hne:97∈cs:=(hm 97).mpr (by
   have e97:(dE (eM 97):Key)=dE (aF "a"):=rfl
   rw[e97,sV]
   split
   ·rename_i h;exact h
   ·simp)
  have hcl:cs.length<=(iu kvs (dE (aF "a")) (.bl true)).length:=by
   have h1:(cs.map λx=>(dE (eM x):Key)).Nodup:=by
    refine List.Pairwise.map _ (λx y h e=> ?_) (hcs.imp λh=>aN h)
    exact h (vY (dE.inj e))
   have h2:=lK h1 (b:=(iu kvs (dE (aF "a")) (.bl true)).map (·.1)) λk hk=>by
    obtain⟨x,hx,rfl⟩:=aD.mp hk
    exact(hm x).mp hx
   simpa using h2
  exists uI (zs:=cs.map eM) (aM (by rw[aj,bx];rfl)) (by rw[vC,ak];show cs.length+cs.length*0<=_;ac_nf) ?_
  have c0:0<cs.length:=List.length_pos_of_mem hne
  refine⟨_,GE.refl,q _ _ (by rw[wn];ac_nf) (by rw[wn];ac_nf) ((p3.ne nfa).new hl2) ((c3.mod' hfd).new hl2)⟩
end
noncomputable abbrev tX:Stmt:=top 20
section
variable{P:aJ}{w:aV}{K:PySem.W.Frag}{mg:Str->Option ae}{base:Heap}{f fn:Addr}{fd dn:aW}
theorem BQ:bA ["cell"] ["cell"] (aL Be):=⟨rfl,rfl,rfl,by decide+kernel,rfl,by decide+kernel,by decide+kernel⟩
theorem Fu(F:Fun K "_law_pool" "_law_pool" Be f fd)(B:BN mg):i9 P w K mg base 1 f fd ["cell"] xw:=by
 have nd:=BQ.nd
 refine lu F BQ (λvs G Q h=> ?_) (λcdv A outer s H E as G Q hr h=> ?_)
 ·obtain⟨p,rfl,_⟩:=h
  rfl
 have hU:=fk hr
 apply j3
 case a=>symm
 obtain⟨c,rfl,q⟩:=h
 have cp:KJ 10 18:=⟨by decide,by decide,by decide⟩
 refine⟨cp,cp,(by decide:(0:Int)<10^18),cW,λa ha=>⟨_,GE.refl,q a _ ha ⟨_,_,0,aj,?_⟩ (Ch.refl.put (by simp))⟩⟩
 show(0:Int)<=if c-10^18>0 then c-10^18 else 0
 split<;>ac_nf
theorem uu:bA ["pool", "base", "digit", "near", "stir"] ["pool", "base"] (aL yy):=⟨rfl,rfl,rfl,by decide+kernel,rfl,by decide+kernel,by decide+kernel⟩
theorem Fw(F:Fun K "_law_next" "_law_next" yy f fd)(B:BN mg):i9 P w K mg base 1 f fd ["pool", "base"] gD:=by
 have nd:=uu.nd
 refine lu F uu (λvs G Q h=> ?_) (λcdv A outer s H E as G Q hr h=> ?_)
 ·obtain⟨a,b,rfl,_⟩:=h
  rfl
 have hU:=fk hr
 apply j3
 case a=>symm
 obtain⟨a,b,rfl,⟨x,y,z,ga,hx⟩,b1,b2,q⟩:=h
 exists cj (aM ga) rfl ?_
 refine sf (λhp=> ?_) (λhp=> ?_)
 ·left
  refine cj (i:=0) (aM ga) rfl ?_
  refine⟨by ac_nf,?_⟩
  exists cj (i:=0) (aM ga) rfl ?_
  refine⟨⟨by ac_nf,Int.le_trans b2 (by decide)⟩,?_⟩
  exists gE (k:=0) ga rfl ?_
  exact⟨_,GE.refl,q _ _ (eY _ (by ac_nf)) (dI _ (by ac_nf)) ⟨x/b,y,z,aj,Int.ediv_nonneg hx (by ac_nf)⟩ (Ch.refl.put (by simp))⟩
 ·left
  refine cj (i:=2) (aM ga) rfl ?_
  exists gE (k:=2) ga rfl ?_
  exists cj (i:=1) (aM aj) rfl ?_
  exists cj (i:=2) (aM aj) rfl ?_
  refine⟨.inl ⟨by decide,by decide⟩,(by decide:(0:Int)<1000000007),?_⟩
  have n0:0<=(y+7919*(z+1))%1000000007:=eY _ (by decide)
  have n1:(y+7919*(z+1))%1000000007<1000000007:=dI _ (by decide)
  refine⟨.inl ⟨?_,?_⟩,(by decide:(0:Int)<998244353),?_⟩
  ·show-(2^64)<(y+7919*(z+1))%1000000007+11
   ac_nf
  ·show(y+7919*(z+1))%1000000007+11<2^64
   ac_nf
  generalize ((y+7919*(z+1))%1000000007+11)*((y+7919*(z+1))%1000000007+48271)=k
  have s0:0<=k%998244353:=eY _ (by decide)
  have s1:k%998244353<998244353:=dI _ (by decide)
  refine⟨.inl ⟨?_,?_⟩,(by decide:(0:Int)<2147483647),⟨by decide,by decide⟩,(by ac_nf:0<b),?_⟩
  ·show-(2^64)<k%998244353
   ac_nf
  ·show k%998244353<2^64
   ac_nf
  exact⟨_,GE.refl,q _ _ (eY _ (by ac_nf)) (dI _ (by ac_nf)) ⟨x,y,z+1,aj,hx⟩ (Ch.refl.put (by simp))⟩
theorem yY:bA ["pool", "letters", "some"] ["pool", "letters"] (aL tX):=⟨rfl,rfl,rfl,by decide+kernel,rfl,by decide+kernel,by decide+kernel⟩
theorem GK:dJ (aL tX) ["pool", "letters", "some"] (gG [(".0",.local),("sign",.local),("_law_next",.globalImplicit),("pool",.free)]) ["sign", "pool"] [none,some 0] 0 "sign" =true:=by decide+kernel
noncomputable def mQ:iH:=λps G Q=>∃(a:Addr) (z:Str),ps=[.ref a,.str z]/\Pool G a/\1<=z.length/\z.length<=5/\∀s G',1<=s.length->s.length<=5->Pool G' a->Ch [a] G G'->Q (ib (.sign s)) G'
theorem CF(F:Fun K "_law_signs" "_law_signs" tX f fd)(B:BN mg)(C:cU P w K mg base 1 "_law_next" fn dn ["pool", "base"] gD):i9 P w K mg base 2 f fd ["pool", "letters"] mQ:=by
 have nd:=yY.nd
 refine lu F yY (λvs G Q h=> ?_) (λcdv A outer s H E as G Q hr h=> ?_)
 ·obtain⟨_,_,rfl,_⟩:=h
  rfl
 have hU:=fk hr
 apply j3
 case a=>
  symm
  all_goals try (refine' nw (n:=2) (ix:=[none,some 0]) (j:=0) nd rfl rfl GK rfl ?_ (λC s H fp=>⟨?_,?_⟩))
  all_goals symm
 obtain⟨a,z,rfl,p1,z1,z6,q⟩:=h
 have c1:Ch [a] G G:=Ch.refl
 left
 intro acc hacc
 have hla:acc≠a:=λe=>by subst e;obtain⟨o,eo⟩:=p1.some;rw[eo]at hacc;cases hacc
 have fin:∀(y:Addr) (cs:List Nat) G2 τ,gt τ 2=some (.ref y)->cs≠[]->cs.Sublist z.cps.toList->G2 y=some (.lst (cs.map λc=> .str (eM c)))->Pool G2 a->Ch [a] G G2->
   (pK (jO (aT (eC (PV.str "sign")) (aT (GG qY (eC (PV.str "")) (aT (eV 2) cT)) cT)))) {nx:=λx G'=>∃G0,GE G0 G'/\Q PV.non G0,rt:=λp G'=>∃G0,GE G0 G'/\Q p G0} τ G2:=by
  intro y cs G2 τ ht hne hsub gy hp2 hc2
  have hl:cs.length<=5:=aR hsub.length_le (by rw[bu];exact z6)
  left
  rw[ht]
  exists uI (zs:=cs.map eM) (by rw[bx];exact aM gy) (by rw[vC,ak];show cs.length+cs.length*0<=_;ac_nf) ?_
  left
  have hle:(i8 (aF "") (cs.map eM)).length=cs.length:=by
   rw[<-jX cs,bu];rw[jX];rfl
  refine⟨cW,G2,GE.refl,q _ G2 ?_ ?_ hp2 hc2⟩
  ·rw[hle];exact List.length_pos_iff.mpr hne
  ·rw[hle];exact hl
 refine⟨λi ys G2=>∃cs:List Nat,ys=cs.map (λc=> .str (eM c))/\cs.Sublist (z.cps.toList.take i)/\G2 acc=some (.lst ys)/\Pool G2 a/\Ch [a] G G2,⟨[],rfl,List.nil_sublist _,aj,p1.new hacc,Ch.refl.new hacc⟩,?_,?_,?_⟩
 ·rintro i ys G2 hi ⟨cs,rfl,hs,ga,_,_⟩
  refine⟨trivial,ga,?_⟩
  have h1:=hs.length_le
  rw[bv]at h1
  have h2:z.cps.toList.length<=5:=by rw[bu];exact z6
  rw[ak];ac_nf
 ·rintro i ys G2 x hx ⟨cs,rfl,hs,ga,hp2,hc2⟩
  obtain⟨c,hc,rfl⟩:=BJ hx
  have tk:z.cps.toList.take (i+1)=z.cps.toList.take i++[c]:=by rw[bB,hc];rfl
  exists⟨a,2,rfl,hp2,by decide,by decide,λm G3 m0 m1 p3 c3=> ?_⟩
  have ga3:G3 acc=_:=c3 acc _ (by simpa using hla) ga
  exists⟨rfl,rfl,?_⟩
  exists sf (λ_=> ?_) (λ_=> ?_)
  ·left
   refine⟨ga3,cs++[c],by simp,?_,aj,p3.ne hla,(hc2.trans c3).mod' hacc⟩
   rw[tk];exact hs.append_right _|>.trans (List.Sublist.refl _)
  ·refine⟨cs,rfl,?_,ga3,p3,hc2.trans c3⟩
   rw[tk];exact hs.trans (List.sublist_append_left _ _)
 ·rintro ys G2 ⟨cs,rfl,hs,ga,hp2,hc2⟩
  have hs':cs.Sublist z.cps.toList:=by
   have hl:(jr z).length=z.cps.toList.length:=by unfold jr;rw[ak]
   rwa [hl,bi]at hs
  exists⟨cW,λl hl=> ?_⟩
  left
  have lal:acc≠l:=aX ga hl
  refine MI (xs:=cs.map λc=> .str (eM c)) (ys:=[]) (aM (by rw[aH lal];exact ga)) nj ?_ rfl ?_
  ·exact Ae cs
  left
  cases cs with
  |nil=>
   refine iK rfl ?_
   exists⟨by ac_nf,?_⟩
   refine⟨a,z.length,rfl,hp2.new hl,by ac_nf,by ac_nf,λm G3 m0 m1 p3 c3=> ?_⟩
   obtain⟨c,ec,mc⟩:=mq (xs:=z.cps.toList) m0 (by rw[bu];exact m1)
   exists pr (by ac_nf) ec ?_
   exists⟨cW,λl2 hl2=> ?_⟩
   exact fin l2 [c] _ [some (.ref a),some (.str z),some (.ref l2)] rfl (by simp) (List.singleton_sublist.mpr mc) aj (p3.new hl2) ((((c1.trans hc2).new hl).trans c3).new hl2)
  |cons c cs=>
   refine nX rfl ?_
   exact fin acc (c::cs) _ [some (.ref a),some (.str z),some (.ref acc)] rfl (by simp) hs' (by rw[aH lal];exact ga) (hp2.new hl) ((c1.trans hc2).new hl)
end
noncomputable abbrev yx:Stmt:=top 21
noncomputable abbrev Bd:Stmt:=top 22
noncomputable abbrev Bh:Stmt:=top 23
noncomputable abbrev qj:Stmt:=top 24
theorem DP{ps:List Pt}{i:Nat}{x:PV}(h:(cL ps)[i]? =some x):∃c,ps[i]? =some c/\x=ib c:=by
 rw[gn,aC]at h
 cases e:ps[i]? with
 |none=>rw[e]at h;cases h
 |some c=>rw[e]at h;exact⟨c,rfl,(bf h).symm⟩
theorem DY{cs:List Pt}{c:Gp->Prop}{ix:List (Option Nat)}{j:Nat}{τ:iS}{te:E2}{Q:K2}{G1:Gp}{acc:Addr}(g:Pt->PV)(hz:cs.length<1000000)
  (hc:∀ys,c (up G1 acc (.lst ys))) (he:∀x ys (R:K2),x∈cs->R (g x) (up G1 acc (.lst ys))->te (L3.st (kX ix τ) j (some (ib x))) (up G1 acc (.lst ys)) R)
  (hq:Q (.ref acc) (up G1 acc (.lst (cs.map g)))):M4 (cL cs) c ix j τ ke te Q G1 acc:=by
 refine⟨λi ys G=>ys=(cs.take i).map g/\G=up G1 acc (.lst ys),⟨by simp,rfl⟩,?_,?_,?_⟩
 ·rintro i ys G hi ⟨rfl,rfl⟩
  refine⟨hc _,aj,?_⟩
  rw[ak,bv]
  ac_nf
 ·rintro i ys G x hx ⟨rfl,rfl⟩
  obtain⟨d,hd,rfl⟩:=DP hx
  have tk:cs.take (i+1)=cs.take i++[d]:=by rw[bB,hd];rfl
  refine iK rfl ?_
  refine he d _ _ (av hd) ⟨aj,?_,gJ⟩
  rw[tk,a8]
  rfl
 ·rintro ys G ⟨rfl,rfl⟩
  rw[cx,bi]
  exact hq
section
variable{P:aJ}{w:aV}{K:PySem.W.Frag}{mg:Str->Option ae}{base:Heap}{f fa:Addr}{fd da:aW}
theorem BP:bA ["pattern"] ["pattern"] (aL yx):=⟨rfl,rfl,rfl,by decide+kernel,rfl,by decide+kernel,by decide+kernel⟩
theorem Ku:dJ (aL yx) ["pattern"] (gG [(".0",.local),("part",.local),("_law_size",.globalImplicit)]) ["part"] [none] 0 "part" =true:=by decide+kernel
noncomputable def l6(n:Nat):iH:=λps G Q=>∃p,ps=[ib p]/\depth p<=n/\size p<=10000/\Q (.int (size p:Nat)) G
theorem sM:∀ps:List Pt,(ps.map λp=>((size p:Nat):Int)).sum=((cf ps:Nat):Int)
 |[]=>rfl
 |p::ps=>by rw[aw,bn,sM ps];simp only[cf];ac_nf
theorem Ft{n k:Nat}(hk:1<=k)(F:Fun K "_law_size" "_law_size" yx f fd)(B:BN mg)(C:cU P w K mg base k "_law_size" fa da ["pattern"] (l6 n)):i9 P w K mg base (k+1) f fd ["pattern"] (l6 (n+1)):=by
 have nd:=BP.nd
 have hUE:=pO.mk
 refine lu F BP (λvs G Q h=> ?_) (λcdv A outer s H E as G Q hr h=> ?_)
 ·obtain⟨_,rfl,_⟩:=h
  rfl
 have hU:=fk hr
 apply j3
 case a=>
  symm
  all_goals try (refine' q9 Ku rfl ?_ λ_ _ _ _=>⟨?_,?_⟩)
  all_goals symm
 obtain⟨p,rfl,hd,hz,q⟩:=h
 have hdi:=jJ p
 have hsi:=i0 p
 have key:∀(ps:List Pt) (τ:iS) (R:K2),bd ps<=n->cf ps<=10000->(∀acc,G acc=none->R (.ref acc) (up G acc (.lst (ps.map λc=> .int (size c:Nat)))))->∀acc,G acc=none->M4 (cL ps) (λ_=>True) [none] 0 τ ke (gK (l6 n) (aT (eV 0) cT)) R G acc:=λps τ R h1 h2 r acc hacc=>by
  refine DY (λc=> .int (size c:Nat)) ?_ (λ_=>trivial) (λx ys R hx r=> ?_) (r acc hacc)
  ·have:=cK ps;ac_nf
  ·have:=fJ hx
   have:=vI hx
   exact⟨x,rfl,by ac_nf,by ac_nf,r⟩
 have fin:∀(ps:List Pt) (acc:Addr),G acc=none->size p=1+cf ps->z7 [.ref acc] (up G acc (.lst (ps.map λc=> .int (size c:Nat)))) λy G2=>i7 (.int 1) y G2 λp G'=>∃G0,GE G0 G'/\Q p G0:=λps acc hacc e=>by
  refine BC (ns:=ps.map λc=>((size c:Nat):Int)) (aM (by rw[aj,bx];rfl)) ?_
  rw[sM]
  refine ka ⟨G,GE.refl.new hacc,?_⟩
  rw[show(1:Int)+((cf ps:Nat):Int)=((size p:Nat):Int)by ac_nf]
  exact q
 have one:∀(p':Pt),cz p=[p']->l6 n [ib p'] G λy G2=>i7 (.int 1) y G2 λp G'=>∃G0,GE G0 G'/\Q p G0:=λp' e=>by
  rw[e]at hdi hsi
  simp only[bd,cf]at hdi hsi
  refine⟨p',rfl,by ac_nf,by ac_nf,?_⟩
  refine ka ⟨G,GE.refl,?_⟩
  rw[show(1:Int)+((size p':Nat):Int)=((size p:Nat):Int)by ac_nf]
  exact q
 cases p with
 |row ps=>
  have hdi':depth (.row ps)=1+bd ps:=hdi
  have hsi':size (.row ps)=1+cf ps:=hsi
  refine⟨cW,rfl,rfl,?_⟩
  exact key ps _ _ (by ac_nf) (by ac_nf) λacc hacc=>fin ps acc hacc hsi
 |pick ps=>
  have hdi':depth (.pick ps)=1+bd ps:=hdi
  have hsi':size (.pick ps)=1+cf ps:=hsi
  refine⟨cW,rfl,rfl,?_⟩
  exact key ps _ _ (by ac_nf) (by ac_nf) λacc hacc=>fin ps acc hacc hsi
 |again p'=>exact⟨cW,rfl,rfl,cW,rfl,rfl,one p' rfl⟩
 |held m p'=>exact⟨cW,rfl,rfl,cW,rfl,rfl,one p' rfl⟩
 |price m p'=>exact⟨cW,rfl,rfl,cW,rfl,rfl,one p' rfl⟩
 |none=>exact⟨cW,rfl,rfl,cW,rfl,rfl,G,GE.refl,q⟩
 |blank=>exact⟨cW,rfl,rfl,cW,rfl,rfl,G,GE.refl,q⟩
 |sign s=>exact⟨cW,rfl,rfl,cW,rfl,rfl,G,GE.refl,q⟩
end
section
variable{P:aJ}{w:aV}{K:PySem.W.Frag}{mg:Str->Option ae}{base:Heap}{f fn fp fs:Addr}{fd dn dp ds:aW}
noncomputable def wS(d:Int):Nat:=max 1 d.toNat
structure Wd(G:Gp)(a r:Addr)(z:Str)(m:Int):Prop where
 pl:Pool G a
 rm:G r=some (.lst [.int m])
 ne:a≠r
 z1:1<=z.length
 z5:z.length<=5
noncomputable def mS(n:Nat):iH:=λps G Q=>∃(a r:Addr) (z:Str) (d m:Int) (b:Bool),ps=[.ref a,.str z,.int d,.ref r,.bl b]/\Wd G a r z m/\(1<=d/\d<=n)/\d<=5/\m<=9/\
 ∀p (m':Int) G',m'<m->fL p->Dm (bq m-bq m') p->(b=false->bN p=false)->depth p<=wS d->Wd G' a r z m'->Ch [a,r] G G'->Q (ib p) G'
noncomputable def BE(n:Nat):iH:=λps G Q=>∃(a r:Addr) (z:Str) (d m:Int) (b:Bool),ps=[.ref a,.str z,.int d,.ref r,.bl b]/\Wd G a r z m/\(1<=d/\d<=n)/\d<=5/\m<=8/\
 ∀qs (m':Int) G',m'<m->Rw (bq m-bq m') qs->(b=false->iB qs=false)->bd qs<=wS d->Wd G' a r z m'->Ch [a,r] G G'->Q (.tup (cL qs)) G'
theorem BO:bA ["pool", "letters", "deep", "room", "blank", "size", "hard", "found", "k", "may"] ["pool", "letters", "deep", "room", "blank"] (aL Bd):=⟨rfl,rfl,rfl,by decide+kernel,rfl,by decide+kernel,by decide+kernel⟩
theorem Fs{n k:Nat}(hk:8<=k)(F:Fun K "_law_some" "_law_some" Bd f fd)(B:BN mg)(CN:cU P w K mg base 1 "_law_next" fn dn ["pool", "base"] gD)(CS:cU P w K mg base 6 "_law_size" fs ds ["pattern"] (l6 5))(CP:cU P w K mg base k "_law_pattern" fp dp ["pool", "letters", "deep", "room", "blank"] (mS n)):
  i9 P w K mg base (k+1) f fd ["pool", "letters", "deep", "room", "blank"] (BE n):=by
 have nd:=BO.nd
 have hUE:=pO.mk
 refine lu F BO (λvs G Q h=> ?_) (λcdv A outer s H E as G Q hr h=> ?_)
 ·obtain⟨_,_,_,_,_,_,rfl,_⟩:=h
  rfl
 have hU:=fk hr
 apply j3
 case a=>symm
 obtain⟨a,r,z,d,m,b,rfl,wd,hdn,hd5,hm,q⟩:=h
 exists⟨a,2,rfl,wd.pl,by decide,by decide,λs0 G1 s1 s2 p1 c1=> ?_⟩
 exists ka ?_
 exists⟨a,2+s0,rfl,p1,by ac_nf,by ac_nf,λh0 G2 h1 h2 p2 c2=> ?_⟩
 exists⟨cW,λfu hfu=> ?_⟩
 have c02:Ch [a] G G2:=c1.trans c2
 have nfa:fu≠a:=fP p2 hfu
 have hfu0:G fu=none:=by
  cases ez:G fu with
  |none=>rfl
  |some o=>rw[c02 _ _ (by simpa using nfa) ez]at hfu;cases hfu
 have r2:G2 r=some (.lst [.int m]):=c02 _ _ (by simpa using wd.ne.symm) wd.rm
 have nfr:fu≠r:=λe=>by rw[e,r2]at hfu;cases hfu
 have cAR:Ch [a,r] G G2:=c02.mono (by simp)
 obtain⟨N,hN⟩:∃N:Nat,(N:Int)=2+s0:=⟨(2+s0).toNat,by ac_nf⟩
 obtain⟨hh,hhN⟩:∃hh:Nat,(hh:Int)=h0:=⟨h0.toNat,by ac_nf⟩
 have hhl:hh<N:=by ac_nf
 rw[<-hN,<-hhN]
 have fin:∀(qs:List Pt) (mi:Int) (G4:Gp) (τ:iS),gt τ 7=some (.ref fu)->G4 fu=some (.lst (cL qs))->Rw (bq m-bq mi) qs->(b=false->iB qs=false)->bd qs<=wS d->Wd G4 a r z mi->mi<m->Ch [a,r] G G4->
   (pK (uU lZ (aT (eV 7) cT))) {nx:=λx G'=>∃G0,GE G0 G'/\Q PV.non G0,rt:=λp G'=>∃G0,GE G0 G'/\Q p G0} τ G4:=by
  intro qs mi G4 τ ht g4 rw4 b4 d4 w4 hmi c4
  left
  rw[ht]
  exists qt (aM g4) ?_
  exact⟨_,GE.refl,q qs mi G4 hmi rw4 b4 d4 w4 c4⟩
 exists⟨by ac_nf,by ac_nf,?_⟩
 rw[show((N:Int)).toNat=N by ac_nf]
 refine⟨λi τ G3=>∃(ks:List Nat) (qs:List Pt) (mi:Int) (t8 t9:Option PV),τ=[some (.ref a),some (.str z),some (.int d),some (.ref r),some (.bl b),some (.int (N:Int)),some (.int (hh:Int)),some (.ref fu),t8,t9]/\G3 fu=some (.lst (cL qs))/\qs.length=i/\Fam ks qs/\ks.sum+bq mi=bq m/\mi<=m/\(0<i->mi<m)/\bd qs<=wS d/\(b=false->∀c,qs[hh]? =some c->bN c=false)/\Wd G3 a r z mi/\Ch [a,r] G G3,?_,?_,?_,?_⟩
 ·exact⟨[],[],m,none,none,rfl,aj,rfl,.nil,by simp,Int.le_refl _,λh=>by ac_nf,bt _,λ_ c h=>by simp at h,⟨p2.new hfu,by rw[aH (aG nfr)];exact r2,wd.ne,wd.z1,wd.z5⟩,cAR.new hfu⟩
 ·intros;trivial
 ·rintro i x τ G3 hx ⟨ks,qs,mi,t8,t9,rfl,g3,hl,fam,hks,hmi,hmi2,hdq,hbq,w3,c3⟩
  obtain⟨hi,rfl⟩:=jZ hx
  have go:∀(may:Bool) (τ:iS),τ=[some (.ref a),some (.str z),some (.int d),some (.ref r),some (.bl b),some (.int (N:Int)),some (.int (hh:Int)),some (.ref fu),some (.int (0+(i:Int))),some (.bl may)]->(b=false->i=hh->may=false)->∀D:D2,(∀τ G',(∃(ks:List Nat) (qs:List Pt) (mi:Int) (t8 t9:Option PV),τ=[some (.ref a),some (.str z),some (.int d),some (.ref r),some (.bl b),some (.int (N:Int)),some (.int (hh:Int)),some (.ref fu),t8,t9]/\G' fu=some (.lst (cL qs))/\qs.length=i+1/\Fam ks qs/\ks.sum+bq mi=bq m/\mi<=m/\(0<i+1->mi<m)/\bd qs<=wS d/\(b=false->∀c,qs[hh]? =some c->bN c=false)/\Wd G' a r z mi/\Ch [a,r] G G')->D.nx τ G')->
    (qE (uT j9 (eV 7) (aT (gK (mS n) (aT (eV 0) (aT (eV 1) (aT (eV 2) (aT (eV 3) (aT (eV 9) cT)))))) cT))) D τ G3:=by
   intro may τ hτ hmay D hD
   subst hτ
   exists⟨⟨_,g3⟩,?_⟩
   exists⟨a,r,z,d,mi,may,rfl,w3,hdn,hd5,by ac_nf,λp m' G4 hm' okp dmp hbp dp w4 c4=> ?_⟩
   left
   have g4:G4 fu=some (.lst (cL qs)):=c4 _ _ (by simp[nfa,nfr]) g3
   have hl6:(cL qs).length<=3:=by rw[cx];ac_nf
   refine gW g4 (by ac_nf) (hD _ _ ⟨ks++[bq mi-bq m'],qs++[p],m',_,_,rfl,?_,by simp[hl],fam.snoc dmp okp,?_,by ac_nf,λ_=>by ac_nf,?_,λhb c hc=> ?_,?_,?_⟩)
   ·rw[aj,iA];rfl
   ·have:bq m'<=bq mi:=by unfold bq;ac_nf
    simp only[List.sum_append,bn,dL]
    ac_nf
   ·rw[lQ]
    simp only[bd]
    ac_nf
   ·by_cases e:hh=i
    ·have:(qs++[p])[hh]? =some p:=by rw[e,<-hl];simp
     rw[this]at hc;cases hc
     exact hbp (hmay hb e.symm)
    ·by_cases e2:hh<qs.length
     ·rw[bW e2]at hc
      exact hbq hb c hc
     ·rw[cO (by simp;ac_nf)]at hc;cases hc
   ·exact⟨w4.pl.ne nfa,by rw[aH (aG nfr)];exact w4.rm,wd.ne,wd.z1,wd.z5⟩
   ·exact(c3.trans c4).mod' hfu0
  left
  cases hb:b with
  |true=>
   refine go true _ (by rw[hb]) (λh=>by rw[hb]at h;cases h) _ (λτ G' h=> ?_)
   rw[hb]at h
   exact h
  |false=>
   refine nX rfl ?_
   exists C8 rfl rfl ?_
   exists go _ _ (by rw[hb]) (λ_ e=> ?_) _ (λτ G' h=> ?_)
   ·subst e
    simp[kr]
   ·rw[hb]at h
    exact h
 ·rintro τ G3 ⟨ks,qs,mi,t8,t9,rfl,g3,hl,fam,hks,hmi,hmi2,hdq,hbq,w3,c3⟩
  rw[iz]at hl hmi2
  left
  have hmi3:mi<m:=hmi2 (by ac_nf)
  have hbm:bq m<=4:=by unfold bq;ac_nf
  obtain⟨cc,hcc⟩:∃cc,qs[hh]? =some cc:=⟨_,al (by ac_nf)⟩
  have hdcc:depth cc<=bd qs:=fJ (av hcc)
  have dm5:wS d<=5:=by unfold wS;ac_nf
  refine⟨a,3,rfl,w3.pl,by decide,by decide,λn3 G5 n30 n33 p5 c5=> ?_⟩
  have g5:G5 fu=some (.lst (cL qs)):=c5 _ _ (by simpa using nfa) g3
  have w5:Wd G5 a r z mi:=⟨p5,c5 _ _ (by simpa using wd.ne.symm) w3.rm,wd.ne,wd.z1,wd.z5⟩
  have c35:Ch [a,r] G G5:=c3.trans (c5.mono (by simp))
  have plain:Rw (bq m-bq mi) qs:=by
   rcases(show N=2\/N=3 by ac_nf)with e|e
   ·obtain⟨a1,b1,x,y,rfl,rfl,hx,hy⟩:=fam.two (by ac_nf)
    simp only[bn,dL]at hks
    exact(Rw.two hx.1 hy.1 hx.2 hy.2 (by ac_nf)).mono (by ac_nf) (by ac_nf)
   ·obtain⟨a1,b1,c1,x,y,zz,rfl,rfl,hx,hy,hz⟩:=fam.three (by ac_nf)
    simp only[bn,dL]at hks
    exact(Rw.three hx.1 hy.1 hz.1 hx.2 hy.2 hz.2 (by ac_nf)).mono (by ac_nf) (by ac_nf)
  have plainB:b=false->iB qs=false:=λhb=>by
   cases e:iB qs with
   |false=>rfl
   |true=>rw[<-hbq hb cc hcc,zM hcc e]
  have fin2:=λqs' G4=>fin qs' mi G4 [some (.ref a),some (.str z),some (.int d),some (.ref r),some (.bl b),some (.int (N:Int)),some (.int (hh:Int)),some (.ref fu),t8,t9] rfl
  exists fD rfl rfl ?_
  exists sf (λ_=> ?_) (λ_=> ?_)
  ·left
   refine cj (aM g5) (bF (iQ hcc)) ?_
   left
   have okcc:fL cc:=i3 plain.ok.2.2 cc (av hcc)
   have szc:size cc<=10000:=by
    have h1:=i4 cc okcc
    have h2:4^depth cc<=4^5:=bX (by ac_nf) (by ac_nf)
    ac_nf
   refine⟨cc,rfl,by ac_nf,szc,?_⟩
   exists sf (λhs=> ?_) (λ_=> ?_)
   ·have hs4:size cc<4:=by have h1:((size cc:Nat):Int)<4:=of_decide_eq_true hs;ac_nf
    exists cj (aM g5) (bF (iQ hcc)) ?_
    left
    have wU:∀qs',Wd (up G5 fu (.lst (cL qs'))) a r z mi:=λqs'=>⟨w5.pl.ne nfa,by rw[aH (aG nfr)];exact w5.rm,wd.ne,wd.z1,wd.z5⟩
    rcases(show N=2\/N=3 by ac_nf)with e|e
    ·obtain⟨a1,b1,x,y,rfl,rfl,hx,hy⟩:=fam.two (by ac_nf)
     simp only[bn,dL]at hks
     simp only[bd]at hdq
     rcases(show hh=0\/hh=1 by ac_nf)with rfl|rfl
     ·obtain rfl:x=cc:=by simpa using hcc
      refine gE (j:=1) g5 (by rfl) ?_
      exact fin2 [x,x] _ aj ((Rw.twins hx.1 hx.2 hs4 (by ac_nf)).mono (by ac_nf) (by ac_nf)) (λhb=>by simp[iB,hbq hb x rfl]) (by simp only[bd];ac_nf) (wU [x,x]) hmi3 (c35.mod' hfu0)
     ·obtain rfl:y=cc:=by simpa using hcc
      refine gE (j:=0) g5 (by rfl) ?_
      exact fin2 [y,y] _ aj ((Rw.twins hy.1 hy.2 hs4 (by ac_nf)).mono (by ac_nf) (by ac_nf)) (λhb=>by simp[iB,hbq hb y rfl]) (by simp only[bd];ac_nf) (wU [y,y]) hmi3 (c35.mod' hfu0)
    ·obtain⟨a1,b1,c1,x,y,zz,rfl,rfl,hx,hy,hz⟩:=fam.three (by ac_nf)
     simp only[bn,dL]at hks
     simp only[bd]at hdq
     rcases(show hh=0\/hh=1\/hh=2 by ac_nf)with rfl|rfl|rfl
     ·obtain rfl:x=cc:=by simpa using hcc
      refine gE (j:=2) g5 (by rfl) ?_
      exact fin2 [x,y,x] _ aj ((Rw.d1 hy.1 hx.1 hy.2 hx.2 hs4 (by ac_nf)).mono (by ac_nf) (by ac_nf)) (λhb=>by simp[iB,hbq hb x rfl]) (by simp only[bd];ac_nf) (wU [x,y,x]) hmi3 (c35.mod' hfu0)
     ·obtain rfl:y=cc:=by simpa using hcc
      refine gE (j:=0) g5 (by rfl) ?_
      exact fin2 [y,y,zz] _ aj ((Rw.d2 hz.1 hy.1 hz.2 hy.2 hs4 (by ac_nf)).mono (by ac_nf) (by ac_nf)) (λhb=>by simp[iB,hbq hb y rfl]) (by simp only[bd];ac_nf) (wU [y,y,zz]) hmi3 (c35.mod' hfu0)
     ·obtain rfl:zz=cc:=by simpa using hcc
      refine gE (j:=1) g5 (by rfl) ?_
      exact fin2 [x,zz,zz] _ aj ((Rw.d0 hx.1 hz.1 hx.2 hz.2 hs4 (by ac_nf)).mono (by ac_nf) (by ac_nf)) (λhb=>by simp[iB,hbq hb zz rfl]) (by simp only[bd];ac_nf) (wU [x,zz,zz]) hmi3 (c35.mod' hfu0)
   ·exact fin2 qs _ g5 plain plainB hdq w5 hmi3 c35
  ·exact fin2 qs _ g5 plain plainB hdq w5 hmi3 c35
end
section
variable{P:aJ}{w:aV}{K:PySem.W.Frag}{mg:Str->Option ae}{base:Heap}{f fn fp fs:Addr}{fd dn dp ds:aW}
noncomputable def BG(n:Nat):iH:=λps G Q=>∃(a r:Addr) (z:Str) (d m:Int) (b:Bool),ps=[.ref a,.str z,.int d,.ref r,.bl b]/\Wd G a r z m/\(1<=d/\d<=n)/\d<=5/\m<=8/\
 ∀qs (m':Int) G',m'<m->Pk (bq m-bq m') qs->(b=false->jg qs=false)->bd qs<=wS d->Wd G' a r z m'->Ch [a,r] G G'->Q (.tup (cL qs)) G'
theorem BU:bA ["pool", "letters", "deep", "room", "blank", "found", "k"] ["pool", "letters", "deep", "room", "blank"] (aL Bh):=⟨rfl,rfl,rfl,by decide+kernel,rfl,by decide+kernel,by decide+kernel⟩
theorem Fy{n k:Nat}(hk:8<=k)(F:Fun K "_law_hard" "_law_hard" Bh f fd)(B:BN mg)(CN:cU P w K mg base 1 "_law_next" fn dn ["pool", "base"] gD)(CS:cU P w K mg base 6 "_law_size" fs ds ["pattern"] (l6 5))(CP:cU P w K mg base k "_law_pattern" fp dp ["pool", "letters", "deep", "room", "blank"] (mS n)):
  i9 P w K mg base (k+1) f fd ["pool", "letters", "deep", "room", "blank"] (BG n):=by
 have nd:=BU.nd
 have hUE:=pO.mk
 refine lu F BU (λvs G Q h=> ?_) (λcdv A outer s H E as G Q hr h=> ?_)
 ·obtain⟨_,_,_,_,_,_,rfl,_⟩:=h
  rfl
 have hU:=fk hr
 apply j3
 case a=>symm
 obtain⟨a,r,z,d,m,b,rfl,wd,hdn,hd5,hm,q⟩:=h
 exists⟨cW,λfu hfu=> ?_⟩
 have nfa:fu≠a:=fP wd.pl hfu
 have nfr:fu≠r:=λe=>by rw[e,wd.rm]at hfu;cases hfu
 exists⟨a,2,rfl,wd.pl.new hfu,by decide,by decide,λs0 G1 s1 s2 p1 c1=> ?_⟩
 exists ka ?_
 left
 obtain⟨N,hN⟩:∃N:Nat,(N:Int)=2+s0:=⟨(2+s0).toNat,by ac_nf⟩
 rw[<-hN]
 have cAR:Ch [a,r] G G1:=(Ch.refl.new hfu).trans (c1.mono (by simp))
 have fin:∀(qs:List Pt) (mi:Int) (G4:Gp) (τ:iS),gt τ 5=some (.ref fu)->G4 fu=some (.lst (cL qs))->Pk (bq m-bq mi) qs->(b=false->jg qs=false)->bd qs<=wS d->Wd G4 a r z mi->mi<m->Ch [a,r] G G4->
   (pK (uU lZ (aT (eV 5) cT))) {nx:=λx G'=>∃G0,GE G0 G'/\Q PV.non G0,rt:=λp G'=>∃G0,GE G0 G'/\Q p G0} τ G4:=by
  intro qs mi G4 τ ht g4 rw4 b4 d4 w4 hmi c4
  left
  rw[ht]
  exists qt (aM g4) ?_
  exact⟨_,GE.refl,q qs mi G4 hmi rw4 b4 d4 w4 c4⟩
 refine⟨by ac_nf,by ac_nf,?_⟩
 rw[show((N:Int)).toNat=N by ac_nf]
 refine⟨λi τ G3=>∃(ks:List Nat) (qs:List Pt) (mi:Int) (t6:Option PV),τ=[some (.ref a),some (.str z),some (.int d),some (.ref r),some (.bl b),some (.ref fu),t6]/\G3 fu=some (.lst (cL qs))/\qs.length=i/\Fam ks qs/\ks.sum+bq mi=bq m/\mi<=m/\(0<i->mi<m)/\bd qs<=wS d/\(b=false->jg qs=false)/\Wd G3 a r z mi/\Ch [a,r] G G3,?_,?_,?_,?_⟩
 ·exact⟨[],[],m,none,rfl,c1 _ _ (by simpa using nfa) aj,rfl,.nil,by simp,Int.le_refl _,λh=>by ac_nf,bt _,λ_=>rfl,⟨p1,c1 _ _ (by simpa using wd.ne.symm) (by rw[aH (aG nfr)];exact wd.rm),wd.ne,wd.z1,wd.z5⟩,cAR⟩
 ·intros;trivial
 ·rintro i x τ G3 hx ⟨ks,qs,mi,t6,rfl,g3,hl,fam,hks,hmi,hmi2,hdq,hbq,w3,c3⟩
  obtain⟨hi,rfl⟩:=jZ hx
  exists⟨⟨_,g3⟩,?_⟩
  exists⟨a,r,z,d,mi,b,rfl,w3,hdn,hd5,by ac_nf,λp m' G4 hm' okp dmp hbp dp w4 c4=> ?_⟩
  left
  have g4:G4 fu=some (.lst (cL qs)):=c4 _ _ (by simp[nfa,nfr]) g3
  have hl6:(cL qs).length<=3:=by rw[cx];ac_nf
  refine gW g4 (by ac_nf) ⟨ks++[bq mi-bq m'],qs++[p],m',_,rfl,?_,by simp[hl],fam.snoc dmp okp,?_,by ac_nf,λ_=>by ac_nf,?_,λhb=> ?_,?_,?_⟩
  ·rw[aj,iA];rfl
  ·have:bq m'<=bq mi:=by unfold bq;ac_nf
   simp only[List.sum_append,bn,dL]
   ac_nf
  ·rw[lQ]
   simp only[bd]
   ac_nf
  ·rw[wJ,hbq hb]
   simp[jg,hbp hb]
  ·exact⟨w4.pl.ne nfa,by rw[aH (aG nfr)];exact w4.rm,wd.ne,wd.z1,wd.z5⟩
  ·exact(c3.trans c4).mod' hfu
 ·rintro τ G3 ⟨ks,qs,mi,t6,rfl,g3,hl,fam,hks,hmi,hmi2,hdq,hbq,w3,c3⟩
  rw[iz]at hl hmi2
  have hmi3:mi<m:=hmi2 (by ac_nf)
  have hbm:bq m<=4:=by unfold bq;ac_nf
  obtain⟨cc,hcc⟩:∃cc,qs[0]? =some cc:=⟨_,al (by ac_nf)⟩
  have hdcc:depth cc<=bd qs:=fJ (av hcc)
  have dm5:wS d<=5:=by unfold wS;ac_nf
  exists⟨a,3,rfl,w3.pl,by decide,by decide,λn3 G5 n30 n33 p5 c5=> ?_⟩
  have g5:G5 fu=some (.lst (cL qs)):=c5 _ _ (by simpa using nfa) g3
  have w5:Wd G5 a r z mi:=⟨p5,c5 _ _ (by simpa using wd.ne.symm) w3.rm,wd.ne,wd.z1,wd.z5⟩
  have c35:Ch [a,r] G G5:=c3.trans (c5.mono (by simp))
  have plain:Pk (bq m-bq mi) qs:=by
   rcases(show N=2\/N=3 by ac_nf)with e|e
   ·obtain⟨a1,b1,x,y,rfl,rfl,hx,hy⟩:=fam.two (by ac_nf)
    simp only[bn,dL]at hks
    exact(Pk.two hx.1 hy.1 hx.2 hy.2 (by ac_nf)).mono (by ac_nf) (by ac_nf)
   ·obtain⟨a1,b1,c1,x,y,zz,rfl,rfl,hx,hy,hz⟩:=fam.three (by ac_nf)
    simp only[bn,dL]at hks
    exact(Pk.three hx.1 hy.1 hz.1 hx.2 hy.2 hz.2 (by ac_nf)).mono (by ac_nf) (by ac_nf)
  have fin2:=λqs' G4=>fin qs' mi G4 [some (.ref a),some (.str z),some (.int d),some (.ref r),some (.bl b),some (.ref fu),t6] rfl
  exists fD rfl rfl ?_
  exists sf (λ_=> ?_) (λ_=> ?_)
  ·left
   refine cj (i:=0) (aM g5) (bF (j:=0) (iQ hcc)) ?_
   left
   have okcc:fL cc:=i3 plain.ok.2.2 cc (av hcc)
   have szc:size cc<=10000:=by
    have h1:=i4 cc okcc
    have h2:4^depth cc<=4^5:=bX (by ac_nf) (by ac_nf)
    ac_nf
   refine⟨cc,rfl,by ac_nf,szc,?_⟩
   exists sf (λhs=> ?_) (λ_=> ?_)
   ·have hs4:size cc<4:=by have h1:((size cc:Nat):Int)<4:=of_decide_eq_true hs;ac_nf
    exists cj (i:=0) (aM g5) (bF (j:=0) (iQ hcc)) ?_
    left
    have wU:∀qs',Wd (up G5 fu (.lst (cL qs'))) a r z mi:=λqs'=>⟨w5.pl.ne nfa,by rw[aH (aG nfr)];exact w5.rm,wd.ne,wd.z1,wd.z5⟩
    rcases(show N=2\/N=3 by ac_nf)with e|e
    ·obtain⟨a1,b1,x,y,rfl,rfl,hx,hy⟩:=fam.two (by ac_nf)
     simp only[bn,dL]at hks
     simp only[bd]at hdq
     obtain rfl:x=cc:=by simpa using hcc
     refine gE (j:=1) g5 (by rfl) ?_
     exact fin2 [x,x] _ aj ((Pk.twins hx.1 hx.2 hs4 (by ac_nf)).mono (by ac_nf) (by ac_nf)) (λhb=>by have:=hbq hb;simp[jg]at this⊢;exact this.1) (by simp only[bd];ac_nf) (wU [x,x]) hmi3 (c35.mod' hfu)
    ·obtain⟨a1,b1,c1,x,y,zz,rfl,rfl,hx,hy,hz⟩:=fam.three (by ac_nf)
     simp only[bn,dL]at hks
     simp only[bd]at hdq
     obtain rfl:x=cc:=by simpa using hcc
     refine gE (j:=2) g5 (by rfl) ?_
     exact fin2 [x,y,x] _ aj ((Pk.d1 hy.1 hx.1 hy.2 hx.2 hs4 (by ac_nf)).mono (by ac_nf) (by ac_nf)) (λhb=>by have:=hbq hb;simp[jg]at this⊢;exact⟨this.1,this.2.1,this.1⟩) (by simp only[bd];ac_nf) (wU [x,y,x]) hmi3 (c35.mod' hfu)
   ·exact fin2 qs _ g5 plain hbq hdq w5 hmi3 c35
  ·exact fin2 qs _ g5 plain hbq hdq w5 hmi3 c35
end
theorem Iu{x:PV}(h:x∈[PV.int 0,.int 1,.int 2,.int 3,.int 1000]):∃i:Int,x= .int i:=by
 simp only[aI,bC,or_false]at h
 rcases h with rfl|rfl|rfl|rfl|rfl<;>exact⟨_,rfl⟩
theorem Kj{x:PV}(h:x∈[PV.str (aF "x"),.str (aF "yy"),.str (aF "left"),.str (aF "pick"),.str (aF "none")]):∃s:Str,x= .str s/\s.length<=8:=by
 simp only[aI,bC,or_false]at h
 rcases h with rfl|rfl|rfl|rfl|rfl<;>exact⟨_,rfl,by decide⟩
section
variable{P:aJ}{w:aV}{K:PySem.W.Frag}{mg:Str->Option ae}{base:Heap}{f fn fi ft fp fs:Addr}{fd dn di dt da dp ds:aW}
theorem sO:bA ["pool", "letters", "deep", "room", "blank", "way", "part"] ["pool", "letters", "deep", "room", "blank"] (aL qj):=⟨rfl,rfl,rfl,by decide+kernel,rfl,by decide+kernel,by decide+kernel⟩
theorem xJ{n k:Nat}(hk:8<=k)(F:Fun K "_law_pattern" "_law_pattern" qj f fd)(B:BN mg)(CN:cU P w K mg base 1 "_law_next" fn dn ["pool", "base"] gD)(CG:cU P w K mg base 2 "_law_signs" fs ds ["pool", "letters"] mQ)
  (CS:cU P w K mg base (k+1) "_law_some" fi di ["pool", "letters", "deep", "room", "blank"] (BE n)) (CH:cU P w K mg base (k+1) "_law_hard" ft dt ["pool", "letters", "deep", "room", "blank"] (BG n)) (CP:cU P w K mg base k "_law_pattern" fp dp ["pool", "letters", "deep", "room", "blank"] (mS n)):
  i9 P w K mg base (k+2) f fd ["pool", "letters", "deep", "room", "blank"] (mS (n+1)):=by
 have nd:=sO.nd
 have hUE:=pO.mk
 refine lu F sO (λvs G Q h=> ?_) (λcdv A outer s H E as G Q hr h=> ?_)
 ·obtain⟨_,_,_,_,_,_,rfl,_⟩:=h
  rfl
 have hU:=fk hr
 apply j3
 case a=>symm
 obtain⟨a,r,z,d,m,b,rfl,wd,hdn,hd5,hm,q⟩:=h
 exists⟨a,13,rfl,wd.pl,by decide,by decide,λw0 G1 w1 w2 p1 c1=> ?_⟩
 left
 have r1:G1 r=some (.lst [.int m]):=c1 _ _ (by simpa using wd.ne.symm) wd.rm
 refine cj (i:=0) (aM r1) rfl ?_
 exists gE (k:=0) r1 rfl ?_
 have wd2:Wd (up G1 r (.lst [.int (m-1)])) a r z (m-1):=⟨p1.ne wd.ne.symm,aj,wd.ne,wd.z1,wd.z5⟩
 have c2:Ch [a,r] G (up G1 r (.lst [.int (m-1)])):=(c1.mono (by simp)).put (by simp)
 change (λG=>_) (up G1 r (.lst [.int (m-1)]))
 generalize up G1 r (.lst [.int (m-1)])=G2 at wd2 c2⊢
 have hq1:bq (m-1)<=bq m:=by unfold bq;ac_nf
 have hq5:bq m<=5:=by unfold bq;ac_nf
 have leaf:∀D:D2,D.rt=(λp G'=>∃G0,GE G0 G'/\Q p G0)->(oB (Nj (G8 (vB (iP Om (eV 5) (eC (PV.int 10)))) (vB (eV 4))) (pK (iP ra (DR (aT (jO (aT (eC (PV.str (aF "blank"))) cT)) (aT (jO (aT (eC (PV.str (aF "none"))) cT)) cT))) (iP DN (gK gD (aT (eV 0) (aT (eC (PV.int 8)) cT))) (eC (PV.int 7))))) vQ) (pK (gK mQ (aT (eV 0) (aT (eV 1) cT))))) D [some (.ref a),some (.str z),some (.int d),some (.ref r),some (.bl b),some (.int w0),none] G2:=by
  intro D hD
  have tell:∀p G',fL p->Dm 0 p->(b=false->bN p=false)->depth p<=1->Pool G' a->Ch [a] G2 G'->D.rt (ib p) G':=λp G' ok dm hb hd pl ch=>by
   rw[hD]
   exact⟨_,GE.refl,q p (m-1) G' (by ac_nf) ok (dm.mono (by ac_nf) (by ac_nf)) hb (by unfold wS;ac_nf) ⟨pl,ch _ _ (by simpa using wd.ne.symm) wd2.rm,wd.ne,wd.z1,wd.z5⟩ (c2.trans (ch.mono (by simp)))⟩
  have sg:mQ [.ref a,.str z] G2 D.rt:=⟨a,z,rfl,wd2.pl,wd.z1,wd.z5,λs G' h1 h5 pl ch=>tell (.sign s) G' ⟨h1,h5⟩ Dm.sign (λ_=>rfl) (ao _) pl ch⟩
  exists sf (λ_=> ?_) (λ_=>sg)
  left
  cases hb:b with
  |false=>exact sg
  |true=>
   refine iK rfl ?_
   exists⟨cW,cW,cW,λl hl=> ?_⟩
   have nla:l≠a:=fP wd2.pl hl
   exists⟨a,8,rfl,wd2.pl.new hl,by decide,by decide,λn8 G3 n0 n1 p3 c3=> ?_⟩
   exists⟨⟨by decide,by decide⟩,?_⟩
   left
   have g3:G3 l=some (.lst [ib .blank,ib .none]):=c3 _ _ (by simpa using nla) aj
   have ch:Ch [a] G2 G3:=(Ch.refl.new hl).trans c3
   rcases(show n8/7=0\/n8/7=1 by ac_nf)with e|e
   ·show ra (.ref l) (.int (n8/7)) G3 D.rt
    rw[e]
    refine cj (i:=0) (aM g3) rfl ?_
    exact tell .blank G3 trivial Dm.blank (λh=>by rw[hb]at h;cases h) (ao _) p3 ch
   ·show ra (.ref l) (.int (n8/7)) G3 D.rt
    rw[e]
    refine cj (i:=1) (aM g3) rfl ?_
    exact tell .none G3 trivial Dm.none (λ_=>rfl) (ao _) p3 ch
 exists sf (λ_=>leaf _ rfl) (λhd2=> ?_)
 have hd2':¬d<2:=of_decide_eq_false hd2
 exists cj (i:=0) (aM wd2.rm) rfl ?_
 exists sf (λ_=>leaf _ rfl) (λhm4=> ?_)
 have hm4':¬m-1<4:=of_decide_eq_false hm4
 exists sf (λ_=>leaf _ rfl) (λ_=> ?_)
 have bqm:∀m':Int,m'<m-1->bq m-bq m'=bq (m-1)-bq m'+1/\bq (m-1)-bq m'<=4:=λm' h=>by unfold bq;ac_nf
 have dpm:1+wS (d-1)<=wS d:=by unfold wS;ac_nf
 exists sf (λ_=> ?_) (λ_=> ?_)
 ·left
  refine⟨a,r,z,d-1,m-1,b,rfl,wd2,by ac_nf,by ac_nf,by ac_nf,λqs m' G3 hm' rw3 hb3 hd3 w3 c3=> ?_⟩
  obtain⟨e1,e2⟩:=bqm m' hm'
  refine⟨cW,_,GE.refl,q (.row qs) m' G3 (by ac_nf) rw3.ok (by rw[e1];exact rw3.dm) (λhb=>by simpa [bN]using hb3 hb) (by simp only[depth];ac_nf) w3 (c2.trans c3)⟩
 exists sf (λ_=> ?_) (λ_=> ?_)
 ·left
  refine⟨a,r,z,d-1,m-1,b,rfl,wd2,by ac_nf,by ac_nf,by ac_nf,λqs m' G3 hm' rw3 hb3 hd3 w3 c3=> ?_⟩
  obtain⟨e1,e2⟩:=bqm m' hm'
  refine⟨cW,_,GE.refl,q (.pick qs) m' G3 (by ac_nf) rw3.ok (by rw[e1];exact rw3.dm) (λhb=>by simpa [bN]using hb3 hb) (by simp only[depth];ac_nf) w3 (c2.trans c3)⟩
 left
 have tail:∀D:D2,D.rt=(λp G'=>∃G0,GE G0 G'/\Q p G0)->(oB (oE (gK (mS n) (aT (eV 0) (aT (eV 1) (aT (iP HQ (eV 2) (eC (PV.int 1))) (aT (eV 3) (aT (eV 4) cT)))))) (gN 6)) (oB (Nj (vB (iP Hv (eV 5) (eC (PV.int 12)))) (pK (jO (aT (eC (PV.str (aF "price"))) (aT (iP ra (DR (aT (eC (PV.int 0)) (aT (eC (PV.int 1)) (aT (eC (PV.int 2)) (aT (eC (PV.int 3)) (aT (eC (PV.int 1000)) cT)))))) (gK gD (aT (eV 0) (aT (eC (PV.int 5)) cT)))) (aT (eV 6) cT))))) vQ)
   (pK (jO (aT (eC (PV.str (aF "held"))) (aT (iP ra (DR (aT (eC (PV.str (aF "x"))) (aT (eC (PV.str (aF "yy"))) (aT (eC (PV.str (aF "left"))) (aT (eC (PV.str (aF "pick"))) (aT (eC (PV.str (aF "none"))) cT)))))) (gK gD (aT (eV 0) (aT (eC (PV.int 5)) cT)))) (aT (eV 6) cT))))))) D [some (.ref a),some (.str z),some (.int d),some (.ref r),some (.bl b),some (.int w0),none] G2:=by
  intro D hD
  exists⟨a,r,z,d-1,m-1,b,rfl,wd2,by ac_nf,by ac_nf,by ac_nf,λp m' G3 hm' okp dmp hbp dp w3 c3=> ?_⟩
  obtain⟨e1,e2⟩:=bqm m' hm'
  have tell:∀pp G',fL pp->Dm (bq (m-1)-bq m'+1) pp->bN pp=bN p->depth pp=1+depth p->Pool G' a->Ch [a] G3 G'->D.rt (ib pp) G':=λpp G' ok dm hb hd pl ch=>by
   rw[hD]
   exact⟨_,GE.refl,q pp m' G' (by ac_nf) ok (by rw[e1];exact dm) (λh=>by rw[hb];exact hbp h) (by ac_nf) ⟨pl,ch _ _ (by simpa using wd.ne.symm) w3.rm,wd.ne,wd.z1,wd.z5⟩ ((c2.trans c3).trans (ch.mono (by simp)))⟩
  exists fD rfl rfl ?_
  exists sf (λ_=> ?_) (λ_=> ?_)
  ·left
   refine⟨cW,λl hl=> ?_⟩
   have nla:l≠a:=fP w3.pl hl
   exists⟨a,5,rfl,w3.pl.new hl,by decide,by decide,λn5 G4 n0 n1 p4 c4=> ?_⟩
   have g4:G4 l=some (.lst [.int 0,.int 1,.int 2,.int 3,.int 1000]):=c4 _ _ (by simpa using nla) aj
   obtain⟨x,ex,mx⟩:=mq (xs:=[PV.int 0,.int 1,.int 2,.int 3,.int 1000]) n0 n1
   obtain⟨pi,rfl⟩:=Iu mx
   exists cj (aM g4) ex ?_
   refine⟨cW,tell (.price pi p) G4 okp (dmp.price (by ac_nf)) rfl rfl p4 ((Ch.refl.new hl).trans c4)⟩
  ·left
   refine⟨cW,λl hl=> ?_⟩
   have nla:l≠a:=fP w3.pl hl
   exists⟨a,5,rfl,w3.pl.new hl,by decide,by decide,λn5 G4 n0 n1 p4 c4=> ?_⟩
   have g4:G4 l=some (.lst [.str (aF "x"),.str (aF "yy"),.str (aF "left"),.str (aF "pick"),.str (aF "none")]):=c4 _ _ (by simpa using nla) aj
   obtain⟨x,ex,mx⟩:=mq (xs:=[PV.str (aF "x"),.str (aF "yy"),.str (aF "left"),.str (aF "pick"),.str (aF "none")]) n0 n1
   obtain⟨si,rfl,hs8⟩:=Kj mx
   exists cj (aM g4) ex ?_
   refine⟨cW,tell (.held si p) G4 ⟨hs8,okp⟩ (dmp.held (by ac_nf)) rfl rfl p4 ((Ch.refl.new hl).trans c4)⟩
 refine sf (λ_=> ?_) (λ_=>tail _ rfl)
 left
 cases hb:b with
 |false=>
  rw[hb]at tail
  exact tail _ rfl
 |true=>
  refine iK rfl ?_
  exists⟨a,r,z,d-1,m-1,false,rfl,wd2,by ac_nf,by ac_nf,by ac_nf,λp m' G3 hm' okp dmp hbp dp w3 c3=> ?_⟩
  obtain⟨e1,e2⟩:=bqm m' hm'
  have hc:=hbp rfl
  have da:Dm (bq (m-1)-bq m'+1) (.again p):=dmp.again hc (by ac_nf)
  refine⟨cW,_,GE.refl,q (.again p) m' G3 (by ac_nf) ⟨hc,fM da,okp⟩ (by rw[e1];exact da) (λh=>by rw[hb]at h;cases h) (by simp only[depth];ac_nf) w3 (c2.trans c3)⟩
end
noncomputable abbrev tY:Stmt:=top 25
section
variable{P:aJ}{w:aV}{K:PySem.W.Frag}{mg:Str->Option ae}{base:Heap}{f fn fp:Addr}{fd dn dp:aW}
theorem y6:bA ["pool", "pattern", "room", "some", "turn"] ["pool", "pattern", "room"] (aL tY):=⟨rfl,rfl,rfl,by decide+kernel,rfl,by decide+kernel,by decide+kernel⟩
theorem GM:dJ (aL tY) ["pool", "pattern", "room", "some", "turn"] (gG [(".0",.local),("part",.local),("_law_grown",.globalImplicit),("pool",.free),("room",.free)]) ["part", "pool", "room"] [none,some 0,some 2] 0 "part" =true:=by decide+kernel
theorem AC(zs:List Str):(i8 (aF "") zs).length=(zs.map (·.length)).sum:=by
 have h:=congrArg iV (tz zs)
 rw[bu,List.length_flatten,bx]at h
 exact h
theorem xW{xs:List PV}{G:Gp}{Q:K2}(q:Q (.int xs.length) G):jy [.tup xs] G Q:=q
noncomputable def Gw(b:Nat)(v:PV):Prop:=v= .non\/∃s,v= .str s/\s.length<=b
theorem Gw.mono{b c:Nat}{v:PV}(h:Gw b v)(hbc:b<=c):Gw c v:=by
 rcases h with h|⟨s,h,hl⟩
 ·exact .inl h
 ·exact .inr ⟨s,h,by ac_nf⟩
theorem zF:∀{ys:List PV} {b:Nat},(∀y∈ys,Gw b y)->c8 100 ys=true
 |[],_,_=>rfl
 |y::ys,b,h=>by
  unfold c8
  rw[zF (ys:=ys) λz hz=>h z (by simp[hz]),Bool.and_true]
  rcases h y (by simp)with rfl|⟨s,rfl,_⟩<;>rfl
theorem zE:∀{ys:List PV} {b:Nat},(∀y∈ys,Gw b y)->(ys.any λy=>kr y .non)=false->∃zs:List Str,ys=zs.map PV.str/\(zs.map (·.length)).sum<=ys.length*b
 |[],b,_,_=>⟨[],rfl,by simp⟩
 |y::ys,b,h,e=>by
  rw[cR,Bool.or_eq_false_iff]at e
  obtain⟨zs,rfl,hz⟩:=zE (ys:=ys) (λz hz=>h z (by simp[hz])) e.2
  rcases h y (by simp)with rfl|⟨s,rfl,hl⟩
  ·exact absurd e.1 (by decide)
  ·refine⟨s::zs,rfl,?_⟩
   rw[aw,bn,aU,Nat.add_mul]
   ac_nf
noncomputable def mV(n:Nat):iH:=λps G Q=>∃(a r:Addr) (p:Pt) (m:Int),ps=[.ref a,ib p,.ref r]/\Pool G a/\G r=some (.lst [.int m])/\a≠r/\fL p/\depth p<=n/\depth p<=5/\
 ∀v (m':Int) G',Gw (3^depth p) v->Pool G' a->G' r=some (.lst [.int m'])->Ch [a,r] G G'->Q v G'
theorem CY{n k:Nat}(hk:2<=k)(F:Fun K "_law_grown" "_law_grown" tY f fd)(B:BN mg)(CN:cU P w K mg base 1 "_law_next" fn dn ["pool", "base"] gD)(CP:cU P w K mg base k "_law_grown" fp dp ["pool", "pattern", "room"] (mV n)):
  i9 P w K mg base (k+1) f fd ["pool", "pattern", "room"] (mV (n+1)):=by
 have nd:=y6.nd
 have hUE:=pO.mk
 refine lu F y6 (λvs G Q h=> ?_) (λcdv A outer s H E as G Q hr h=> ?_)
 ·obtain⟨_,_,_,_,rfl,_⟩:=h
  rfl
 have hU:=fk hr
 apply j3
 case a=>
  symm
  all_goals try (refine' nw (n:=3) (ix:=[none,some 0,some 2]) (j:=0) nd rfl rfl GM rfl ?_ (λC s H fp=>⟨?_,?_⟩))
  all_goals symm
 obtain⟨a,r,p,m,rfl,pl,gr,nar,ok,hd,hd5,q⟩:=h
 left
 have pw:3^depth p<=3^5:=bX (by ac_nf) hd5
 have pw1:1<=3^depth p:=kg (by ac_nf)
 have fin:∀(kd:Str) (xs:List PV) (so:Addr) (ys:List PV) (m3:Int) (G3:Gp) (bb:Nat) (t4:Option PV),ib p= .tup (.str kd::xs)->kr (.str kd) (.str (aF "none"))=false->G3 so=some (.lst ys)->ys.length<=3->(∀y∈ys,Gw bb y)->3*bb<=3^depth p->Pool G3 a->G3 r=some (.lst [.int m3])->Ch [a,r] G G3->
   (oB (Nj (K3 (vB (iP Hv (iP ra (eV 1) (eC (PV.int 0))) (eC (PV.str (aF "none"))))) (vB (iP rc (eC PV.non) (eV 3)))) (pK (eC PV.non)) vQ) (pK (GG qY (eC (PV.str (aF ""))) (aT (eV 3) cT)))) {nx:=λx G'=>∃G0,GE G0 G'/\Q PV.non G0,rt:=λp G'=>∃G0,GE G0 G'/\Q p G0} [some (.ref a),some (ib p),some (.ref r),some (.ref so),t4] G3:=by
  intro kd xs so ys m3 G3 bb t4 he hk0 gs hl hy hb p3 r3 c3
  rw[he]
  exists eO (i:=0) (x:= .str kd) (bF (j:=0) rfl) ?_
  exists fD rfl rfl (nX hk0 ?_)
  exists⟨ys,aM gs,zF hy,?_⟩
  exists sf (λ_=>⟨_,GE.refl,q .non m3 G3 (.inl rfl) p3 r3 c3⟩) (λhn=> ?_)
  obtain⟨zs,rfl,hz⟩:=zE hy hn
  rw[ak]at hl hz
  have hz2:zs.length*bb<=3*bb:=nW _ hl
  exists uI (zs:=zs) (aM gs) (by show _+zs.length*0<=_;ac_nf) ?_
  exact⟨_,GE.refl,q _ m3 G3 (.inr ⟨_,rfl,by rw[AC];ac_nf⟩) p3 r3 c3⟩
 cases p with
 |sign z=>
  nofun
  exists fD rfl rfl (iK rfl ?_)
  exists cj (i:=0) (aM gr) rfl ?_
  exists gE (k:=0) gr rfl ?_
  exists eO (x:= .str z) rfl ?_
  exists eO (x:= .str z) rfl ?_
  left
  have ok':1<=z.length/\z.length<=5:=ok
  refine jW (by ac_nf) ?_
  exists⟨a,z.length,rfl,pl.ne (aG nar),by ac_nf,by ac_nf,λn1 G2 n0 n2 p2 c2=> ?_⟩
  obtain⟨c,ec,_⟩:=mq (xs:=z.cps.toList) n0 (by rw[bu];exact n2)
  exists pr (by ac_nf) ec ?_
  refine⟨_,GE.refl,q _ (m-1) G2 (.inr ⟨_,rfl,?_⟩) p2 (c2 _ _ (by simpa using aG nar) aj) ((Ch.refl.put (by simp)).trans (c2.mono (by simp)))⟩
  exact pw1
 |pick ps=>
  have okp:(2<=ps.length/\ps.length<=3)/\inA 5 (.pick ps)/\qN ps:=ok
  nofun
  ext
  nofun
  exists fD rfl rfl (iK rfl ?_)
  exists eO (x:= .tup (cL ps)) rfl ?_
  exists eO (x:= .tup (cL ps)) rfl ?_
  exists xW ?_
  rw[cx]
  exists⟨a,ps.length,rfl,pl,by ac_nf,by ac_nf,λn1 G2 n0 n2 p2 c2=> ?_⟩
  obtain⟨x,ex,mx⟩:=mq (xs:=ps) n0 n2
  have ex':qh (cL ps) n1=some (ib x):=by
   obtain⟨j,rfl⟩:∃j:Nat,(j:Int)=n1:=⟨n1.toNat,by ac_nf⟩
   have:ps[j]? =some x:=by
    have hj:j<ps.length:=by ac_nf
    rw[bF (al hj)]at ex
    rw[al hj];exact ex
   exact bF (iQ this)
  exists eO ex' ?_
  left
  have hdx:=fJ mx
  have hdp:depth (.pick ps)=1+bd ps:=rfl
  refine⟨a,r,x,m,rfl,p2,c2 _ _ (by simpa using aG nar) gr,nar,i3 okp.2.2 x mx,by ac_nf,by ac_nf,λv m' G3 gv p3 r3 c3=>⟨_,GE.refl,q v m' G3 (gv.mono (bX (by ac_nf) (by ac_nf))) p3 r3 ((c2.mono (by simp)).trans c3)⟩⟩
 |held nm x=>
  have okx:nm.length<=8/\fL x:=ok
  have hdp:depth (.held nm x)=1+depth x:=rfl
  nofun
  ext
  nofun
  ext
  nofun
  exists⟨cW,rfl,rfl,?_⟩
  refine iK rfl ?_
  exists eO (x:=ib x) rfl ?_
  left
  exact⟨a,r,x,m,rfl,pl,gr,nar,okx.2,by ac_nf,by ac_nf,λv m' G3 gv p3 r3 c3=>⟨_,GE.refl,q v m' G3 (gv.mono (bX (by ac_nf) (by ac_nf))) p3 r3 c3⟩⟩
 |price nm x=>
  have okx:fL x:=ok
  have hdp:depth (.price nm x)=1+depth x:=rfl
  nofun
  ext
  nofun
  ext
  nofun
  exists⟨cW,rfl,rfl,?_⟩
  refine iK rfl ?_
  exists eO (x:=ib x) rfl ?_
  left
  exact⟨a,r,x,m,rfl,pl,gr,nar,okx,by ac_nf,by ac_nf,λv m' G3 gv p3 r3 c3=>⟨_,GE.refl,q v m' G3 (gv.mono (bX (by ac_nf) (by ac_nf))) p3 r3 c3⟩⟩
 |blank=>
  nofun
  ext
  nofun
  ext
  nofun
  exists⟨cW,rfl,rfl,?_⟩
  refine nX rfl ?_
  exists⟨cW,λso hso=> ?_⟩
  have nsa:so≠a:=fP pl hso
  have nsr:so≠r:=λe=>by rw[e,gr]at hso;cases hso
  nofun
  ext
  nofun
  ext
  left
  exact fin "blank" [] so [] m _ 0 none rfl rfl aj (by simp) (by simp) (by ac_nf) (pl.new hso) (by rw[aH (aG nsr)];exact gr) (Ch.refl.new hso)
 |none=>
  nofun
  ext
  nofun
  ext
  nofun
  exists⟨cW,rfl,rfl,?_⟩
  refine nX rfl ?_
  exists⟨cW,λso hso=> ?_⟩
  have nsa:so≠a:=fP pl hso
  have nsr:so≠r:=λe=>by rw[e,gr]at hso;cases hso
  nofun
  ext
  nofun
  ext
  nofun
  exists fD rfl rfl (iK rfl ?_)
  left
  exact⟨_,GE.refl,q .non m _ (.inl rfl) (pl.new hso) (by rw[aH (aG nsr)];exact gr) (Ch.refl.new hso)⟩
 |row ps=>
  have okp:(2<=ps.length/\ps.length<=3)/\(inA 5 (.row ps)/\∀i,inR 5 (ps.take i))/\qN ps:=ok
  have hdp:depth (.row ps)=1+bd ps:=rfl
  have hp3:3*3^bd ps=3^depth (.row ps):=by rw[hdp,ja]
  nofun
  ext
  nofun
  ext
  nofun
  exists⟨cW,rfl,rfl,?_⟩
  refine nX rfl ?_
  exists⟨cW,λso hso=> ?_⟩
  have nsa:so≠a:=fP pl hso
  have nsr:so≠r:=λe=>by rw[e,gr]at hso;cases hso
  nofun
  exists fD rfl rfl (iK rfl ?_)
  exists eO (x:= .tup (cL ps)) rfl ?_
  left
  intro acc hacc
  have nca:acc≠a:=fP (pl.new hso) hacc
  have gr1:up G so (.lst []) r=some (.lst [.int m]):=by rw[aH (aG nsr)];exact gr
  have ncr:acc≠r:=λe=>by rw[e,gr1]at hacc;cases hacc
  have hac0:G acc=none:=(eI hacc).2
  refine⟨λi ys G2=>ys.length=i/\(∀y∈ys,Gw (3^bd ps) y)/\G2 acc=some (.lst ys)/\Pool G2 a/\(∃m2:Int,G2 r=some (.lst [.int m2]))/\Ch [a,r] G G2,?_,?_,?_,?_⟩
  ·exact⟨rfl,by simp,aj,(pl.new hso).new hacc,⟨m,by rw[aH (aG ncr)];exact gr1⟩,(Ch.refl.new hso).new hacc⟩
  ·rintro i ys G2 hi ⟨hl,hy,ga,p2,r2,c2⟩
   rw[cx]at hi
   exact⟨trivial,ga,by ac_nf⟩
  ·rintro i ys G2 x hx ⟨hl,hy,ga,p2,⟨m2,r2⟩,c2⟩
   obtain⟨c,hc,rfl⟩:=uS hx
   have mc:=av hc
   have hdx:=fJ mc
   refine iK rfl ?_
   exists⟨a,r,c,m2,rfl,p2,r2,nar,i3 okp.2.2 c mc,by ac_nf,by ac_nf,λv m' G3 gv p3 r3 c3=> ?_⟩
   have ga3:G3 acc=some (.lst ys):=c3 _ _ (by simp[nca,ncr]) ga
   refine⟨ga3,by simp[hl],λy h=> ?_,aj,p3.ne nca,⟨m',by rw[aH (aG ncr)];exact r3⟩,(c2.trans c3).mod' hac0⟩
   rcases bo.mp h with h|h
   ·exact hy y h
   ·cases aA.mp h
    exact gv.mono (bX (by ac_nf) hdx)
  ·rintro ys G2 ⟨hl,hy,ga,p2,⟨m2,r2⟩,c2⟩
   rw[cx]at hl
   nofun
   ext
   exact fin "row" [.tup (cL ps)] acc ys m2 G2 (3^bd ps) none rfl rfl ga (by ac_nf) hy (by ac_nf) p2 r2 c2
 |again x=>
  have okx:bN x=false/\inA 5 (.again x)/\fL x:=ok
  have hdp:depth (.again x)=1+depth x:=rfl
  have hp3:3*3^depth x=3^depth (.again x):=by rw[hdp,ja]
  nofun
  ext
  nofun
  ext
  nofun
  exists⟨cW,rfl,rfl,?_⟩
  refine nX rfl ?_
  exists⟨cW,λso hso=> ?_⟩
  have nsa:so≠a:=fP pl hso
  have nsr:so≠r:=λe=>by rw[e,gr]at hso;cases hso
  nofun
  ext
  nofun
  exists fD rfl rfl (iK rfl ?_)
  exists⟨a,4,rfl,pl.new hso,by decide,by decide,λn4 G1 n0 n1 p1 c1=> ?_⟩
  left
  have gr1:up G so (.lst []) r=some (.lst [.int m]):=by rw[aH (aG nsr)];exact gr
  refine⟨by ac_nf,by ac_nf,λi τ G2=>∃(ys:List PV) (t4:Option PV) (m2:Int),τ=[some (.ref a),some (ib (.again x)),some (.ref r),some (.ref so),t4]/\ys.length<=i/\(∀y∈ys,Gw (3^depth x) y)/\G2 so=some (.lst ys)/\Pool G2 a/\G2 r=some (.lst [.int m2])/\Ch [a,r] G G2,?_,?_,?_,?_⟩
  ·exact⟨[],none,m,rfl,ao _,by simp,c1 _ _ (by simpa using nsa) aj,p1,c1 _ _ (by simpa using aG nar) gr1,(Ch.refl.new hso).trans (c1.mono (by simp))⟩
  ·intros;trivial
  ·rintro i y τ G2 hx ⟨ys,t4,m2,rfl,hl,hy,ga,p2,r2,c2⟩
   obtain⟨hi,rfl⟩:=jZ hx
   exists cj (i:=0) (aM r2) rfl ?_
   exists sf (λ_=> ?_) (λ_=>⟨ys,_,m2,rfl,by ac_nf,hy,ga,p2,r2,c2⟩)
   exists⟨⟨_,ga⟩,?_⟩
   exists eO (x:=ib x) rfl ?_
   exists⟨a,r,x,m2,rfl,p2,r2,nar,okx.2.2,by ac_nf,by ac_nf,λv m' G3 gv p3 r3 c3=> ?_⟩
   have ga3:G3 so=some (.lst ys):=c3 _ _ (by simp[nsa,nsr]) ga
   exists gW ga3 (by ac_nf) ⟨ys++[v],_,m',rfl,by simp;ac_nf,λy h=> ?_,aj,p3.ne nsa,by rw[aH (aG nsr)];exact r3,(c2.trans c3).mod' hso⟩
   rcases bo.mp h with h|h
   ·exact hy y h
   ·cases aA.mp h
    exact gv
  ·rintro τ G2 ⟨ys,t4,m2,rfl,hl,hy,ga,p2,r2,c2⟩
   rw[iz]at hl
   exact fin "again" [ib x] so ys m2 G2 (3^depth x) t4 rfl rfl ga (by ac_nf) hy (by ac_nf) p2 r2 c2
end
noncomputable abbrev Bc:Stmt:=top 26
section
variable{P:aJ}{w:aV}{K:PySem.W.Frag}{mg:Str->Option ae}{base:Heap}{f fn fp:Addr}{fd dn dp:aW}
theorem BM:bA ["pool", "pattern", "letters", "most", "text", "k"] ["pool", "pattern", "letters", "most"] (aL Bc):=⟨rfl,rfl,rfl,by decide+kernel,rfl,by decide+kernel,by decide+kernel⟩
noncomputable def uk:iH:=λps G Q=>∃(a:Addr) (p:Pt) (z:Str) (M:Int),ps=[.ref a,ib p,.str z,.int M]/\Pool G a/\fL p/\depth p<=5/\1<=z.length/\z.length<=5/\1<=M/\M<=5/\
 ∀T G',(T.length:Int)<=M->Pool G' a->Ch [a] G G'->Q (.str (pM T)) G'
theorem Fq{k:Nat}(hk:8<=k)(F:Fun K "_law_text" "_law_text" Bc f fd)(B:BN mg)(CN:cU P w K mg base 1 "_law_next" fn dn ["pool", "base"] gD)(CP:cU P w K mg base k "_law_grown" fp dp ["pool", "pattern", "room"] (mV 5)):
  i9 P w K mg base (k+1) f fd ["pool", "pattern", "letters", "most"] uk:=by
 have nd:=BM.nd
 have hUE:=pO.mk
 refine lu F BM (λvs G Q h=> ?_) (λcdv A outer s H E as G Q hr h=> ?_)
 ·obtain⟨_,_,_,_,rfl,_⟩:=h
  rfl
 have hU:=fk hr
 apply j3
 case a=>symm
 obtain⟨a,p,z,M,rfl,pl,ok,hd,z1,z5,M1,M5,q⟩:=h
 exists⟨cW,λr hr0=> ?_⟩
 have nra:r≠a:=fP pl hr0
 refine⟨a,r,p,M-1,rfl,pl.new hr0,aj,aG nra,ok,hd,hd,λv m' G2 gv p2 r2 c2=> ?_⟩
 have c02:Ch [a] G G2:=λc o hc h=>c2 c o (by
  have h1:c≠a:=by simpa using hc
  simp[h1,aX h hr0]) (by rw[aH (aX h hr0)];exact h)
 left
 have pw:3^depth p<=3^5:=bX (by ac_nf) hd
 have fin:∀(s:Str) (t5:Option PV) (G3:Gp),s.length<=1000->Pool G3 a->Ch [a] G G3->(pK (DQ (eV 4) Nl (zn (eV 3)))) {nx:=λx G'=>∃G0,GE G0 G'/\Q PV.non G0,rt:=λp G'=>∃G0,GE G0 G'/\Q p G0} [some (.ref a),some (ib p),some (.str z),some (.int M),some (.str s),t5] G3:=by
  intro s t5 G3 hs p3 c3
  exists⟨by ac_nf,?_⟩
  have hl1:((Txt.slice s none (some M)).length:Int)<=M:=by
   rcases PyProof.Rows.slice_ns_cases s M (by ac_nf)with⟨_,h⟩|⟨h0,h⟩<;>ac_nf
  refine⟨_,GE.refl,?_⟩
  have:=q (Txt.slice s none (some M)).cps.toList G3 (by rw[bu];exact hl1) p3 c3
  rwa [Je]at this
 have draw:∀(v4:Option PV) (G3:Gp) (D:D2),D.nx=(pK (DQ (eV 4) Nl (zn (eV 3)))) {nx:=λx G'=>∃G0,GE G0 G'/\Q PV.non G0,rt:=λp G'=>∃G0,GE G0 G'/\Q p G0}->Pool G3 a->Ch [a] G G3->
   (oB (oE (eC (PV.str (aF ""))) (gN 4)) (B0 (AJ (aT (gK gD (aT (eV 0) (aT (eV 3) cT))) cT)) (gN 5) (oE (iP i7 (eV 4) (iP ra (eV 2) (gK gD (aT (eV 0) (aT (uU jy (aT (eV 2) cT)) cT))))) (gN 4)))) D [some (.ref a),some (ib p),some (.str z),some (.int M),v4,none] G3:=by
  intro v4 G3 D hD p3 c3
  exists⟨a,M,rfl,p3,by ac_nf,by ac_nf,λn1 G4 n0 n2 p4 c4=> ?_⟩
  exists⟨by ac_nf,by ac_nf,λi τ G5=>∃(s:Str) (t5:Option PV),τ=[some (.ref a),some (ib p),some (.str z),some (.int M),some (.str s),t5]/\s.length<=i/\Pool G5 a/\Ch [a] G G5,?_,?_,?_,?_⟩
  ·exact⟨_,none,rfl,by decide,p4,c3.trans c4⟩
  ·intros;trivial
  ·rintro i x τ G5 hx ⟨s,t5,rfl,hs,p5,c5⟩
   obtain⟨hi,rfl⟩:=jZ hx
   exists jW (by ac_nf) ?_
   exists⟨a,z.length,rfl,p5,by ac_nf,by ac_nf,λn6 G6 n60 n61 p6 c6=> ?_⟩
   obtain⟨c,ec,_⟩:=mq (xs:=z.cps.toList) n60 (by rw[bu];exact n61)
   exists pr (by ac_nf) ec ?_
   left
   have el:(s++(⟨#[c]⟩:Str)).length=s.length+1:=by
    show(s.cps++ #[c]).size=_
    rw[Array.size_append];rfl
   refine GS (by show s.length+1<=_;ac_nf) ?_
   exact⟨_,_,rfl,by rw[el];ac_nf,p6,c5.trans c6⟩
  ·rintro τ G5 ⟨s,t5,rfl,hs,p5,c5⟩
   rw[iz]at hs
   rw[hD]
   exact fin s t5 G5 (by ac_nf) p5 c5
 rcases gv with rfl|⟨s,rfl,hs⟩
 ·refine iK rfl ?_
  exact draw _ _ _ rfl p2 c02
 ·refine nX rfl ?_
  exists⟨a,5,rfl,p2,by decide,by decide,λn1 G3 n0 n2 p3 c3=> ?_⟩
  exists fD rfl rfl ?_
  exists sf (λ_=> ?_) (λ_=> ?_)
  ·exact draw _ _ _ rfl p3 (c02.trans c3)
  ·exact fin s none G3 (by ac_nf) p3 (c02.trans c3)
end
noncomputable abbrev yA:Stmt:=top 27
noncomputable abbrev kz:Stmt:=top 28
theorem oU{G:Gp}{a:Addr}{xs:List PV}(h:G a=some (.lst xs)):Nn (.ref a) G:=⟨_,h⟩
noncomputable def qI(x:Tr×Nat):PV:= .tup [jM x.1,.int (x.2:Nat)]
noncomputable def En(x:List Tr×Nat):PV:= .tup [.tup (iL x.1),.int (x.2:Nat)]
theorem nR{L:List (Tr×Nat)}{c:Gp->Prop}{ix:List (Option Nat)}{j j2:Nat}{τ:iS}{te:E2}{Q:K2}{G1:Gp}{acc:Addr}(g:Tr×Nat->PV)(hz:L.length<16000000)
  (hc:∀ys,c (up G1 acc (.lst ys))) (he:∀x ys (R:K2),x∈L->R (g x) (up G1 acc (.lst ys))->te (st (st (kX ix τ) j (some (jM x.1))) j2 (some (.int (x.2:Nat)))) (up G1 acc (.lst ys)) R)
  (hq:Q (.ref acc) (up G1 acc (.lst (L.map g)))):Ky (L.map qI) c ix j j2 τ ke te Q G1 acc:=by
 refine⟨λi ys G=>ys=(L.take i).map g/\G=up G1 acc (.lst ys),⟨by simp,rfl⟩,?_,?_,?_⟩
 ·rintro i ys G hi ⟨rfl,rfl⟩
  refine⟨hc _,aj,?_⟩
  rw[ak,bv]
  ac_nf
 ·rintro i ys G x hx ⟨rfl,rfl⟩
  rw[aC]at hx
  cases e:L[i]? with
  |none=>rw[e]at hx;cases hx
  |some y=>
   rw[e]at hx
   cases hx
   have tk:L.take (i+1)=L.take i++[y]:=by rw[bB,e];rfl
   refine⟨_,_,rfl,?_⟩
   refine iK rfl ?_
   refine he y _ _ (av e) ⟨aj,?_,gJ⟩
   rw[tk,a8]
   rfl
 ·rintro ys G ⟨rfl,rfl⟩
  rw[ak,bi]
  exact hq
theorem AY{L:List (List Tr×Nat)}{c:Gp->Prop}{ix:List (Option Nat)}{j j2:Nat}{τ:iS}{te:E2}{Q:K2}{G1:Gp}{acc:Addr}(g:List Tr×Nat->PV)(hz:L.length<16000000)
  (hc:∀ys,c (up G1 acc (.lst ys))) (he:∀x ys (R:K2),x∈L->R (g x) (up G1 acc (.lst ys))->te (st (st (kX ix τ) j (some (.tup (iL x.1)))) j2 (some (.int (x.2:Nat)))) (up G1 acc (.lst ys)) R)
  (hq:Q (.ref acc) (up G1 acc (.lst (L.map g)))):Ky (L.map En) c ix j j2 τ ke te Q G1 acc:=by
 refine⟨λi ys G=>ys=(L.take i).map g/\G=up G1 acc (.lst ys),⟨by simp,rfl⟩,?_,?_,?_⟩
 ·rintro i ys G hi ⟨rfl,rfl⟩
  refine⟨hc _,aj,?_⟩
  rw[ak,bv]
  ac_nf
 ·rintro i ys G x hx ⟨rfl,rfl⟩
  rw[aC]at hx
  cases e:L[i]? with
  |none=>rw[e]at hx;cases hx
  |some y=>
   rw[e]at hx
   cases hx
   have tk:L.take (i+1)=L.take i++[y]:=by rw[bB,e];rfl
   refine⟨_,_,rfl,?_⟩
   refine iK rfl ?_
   refine he y _ _ (av e) ⟨aj,?_,gJ⟩
   rw[tk,a8]
   rfl
 ·rintro ys G ⟨rfl,rfl⟩
  rw[ak,bi]
  exact hq
noncomputable def sS(T:List Nat)(p:Pt)(sm:List (List Tr×Nat)):List (List Tr×Nat):=sm.flatMap λs=>(bc T p s.2).map λt=>(s.1++[t.1],t.2)
theorem B3{T:List Nat}{p:Pt}{sm:List (List Tr×Nat)}{i:Nat}{y:List Tr×Nat}(h:sm[i]? =some y):sS T p (sm.take (i+1))=sS T p (sm.take i)++(bc T p y.2).map λt=>(y.1++[t.1],t.2):=by
 unfold sS
 rw[bB,h,gL]
 simp
theorem Ib{T:List Nat}{p:Pt}(sm:List (List Tr×Nat))(i:Nat):(sS T p (sm.take i)).length<=(sS T p sm).length:=by
 have:sS T p sm=sS T p (sm.take i)++sS T p (sm.drop i):=by
  unfold sS
  rw[<-gL,dF]
 rw[this,aP]
 ac_nf
section
variable{P:aJ}{w:aV}{K:PySem.W.Frag}{mg:Str->Option ae}{base:Heap}{f:Addr}{fd:aW}
noncomputable abbrev Hm:List Str:=["some", "more", "found", "row", "end"]
theorem BX:bA Hm ["some", "more"] (aL yA):=⟨rfl,rfl,rfl,by decide+kernel,rfl,by decide+kernel,by decide+kernel⟩
noncomputable abbrev kB1:er:=gG [(".0",.local),("one",.local),("to",.local),("row",.free)]
theorem cB1:dJ (aL yA) Hm kB1 ["one", "to", "row"] [none,none,some 3] 0 "one" =true:=by decide+kernel
theorem dB1:ip kB1 ["one", "to", "row"] [none,none,some 3] 1 "to" :=⟨rfl,by decide+kernel,rfl⟩
noncomputable def uo:iH:=λps G Q=>∃(so mo:Addr) (T:List Nat) (p:Pt) (sm:List (List Tr×Nat)) (ls:List Addr),ps=[.ref so,.ref mo]/\G so=some (.lst (sm.map En))/\G mo=some (.lst (ls.map PV.ref))/\ls.length=T.length+1/\(∀k c,ls[k]? =some c->G c=some (.lst ((bc T p k).map qI)))/\
 (∀s∈sm,s.2<=T.length/\s.1.length<=1000)/\(sS T p sm).length<=15000000/\(∀k,k<=T.length->(bc T p k).length<=15000000)/\∀c,G c=none->Q (.ref c) (up G c (.lst ((sS T p sm).map En)))
theorem FB(F:Fun K "_law_both" "_law_both" yA f fd)(B:BN mg):i9 P w K mg base 1 f fd ["some", "more"] uo:=by
 have nd:=BX.nd
 have hUE:=pO.mk
 refine lu F BX (λvs G Q h=> ?_) (λcdv A outer s H E as G Q hr h=> ?_)
 ·obtain⟨_,_,_,_,_,_,rfl,_⟩:=h
  rfl
 have hU:=fk hr
 apply j3
 case a=>
  symm
  all_goals try (refine' jY cB1 dB1 rfl ?_ λ_ _ _ _=>⟨?_,?_⟩)
  all_goals symm
 obtain⟨so,mo,T,p,sm,ls,rfl,gs,gm,hll,hls,hsm,hlen,hk,q⟩:=h
 exists⟨cW,λfu hfu=> ?_⟩
 left
 rw[aM (show up G fu (.lst []) so=some (.lst (sm.map En))by rw[aH (aX gs hfu)];exact gs)]
 exists⟨λi τ G'=>∃t3 t4,τ=[some (.ref so),some (.ref mo),some (.ref fu),t3,t4]/\G' fu=some (.lst ((sS T p (sm.take i)).map En))/\GE G G',⟨none,none,rfl,aj,GE.refl.new hfu⟩,?_,?_,?_⟩
 ·rintro i τ G' hi ⟨_,_,rfl,g1,ge⟩
  exact aM (ge _ _ gs)
 ·rintro i x τ G' hx ⟨_,_,rfl,g1,ge⟩
  rw[aC]at hx
  cases ex:sm[i]? with
  |none=>rw[ex]at hx;cases hx
  |some y=>
   rw[ex]at hx
   cases hx
   obtain⟨hy1,hy2⟩:=hsm y (av ex)
   have sn:=B3 (T:=T) (p:=p) ex
   have hle:=Ib (T:=T) (p:=p) sm (i+1)
   rw[sn,aP,ak]at hle
   have hyl:=hk y.2 hy1
   obtain⟨c2,hc2⟩:∃c2,ls[y.2]? =some c2:=⟨_,al (by ac_nf)⟩
   have gc2:=ge _ _ (hls y.2 c2 hc2)
   refine⟨oU g1,?_⟩
   exists cj (aM (ge _ _ gm)) (bF (Ea (α:=Nat) hc2)) ?_
   left
   rw[aM gc2]
   left
   intro acc hacc
   have nca:c2≠acc:=aX gc2 hacc
   have nfa:fu≠acc:=aX g1 hacc
   refine nR (λt=>En (y.1++[t.1],t.2)) (by ac_nf) (λys=>aM (by rw[aH nca];exact gc2)) (λx ys R hx r=> ?_) ?_
   ·refine⟨cW,?_⟩
    refine vg (xs:=iL y.1) (ys:=[jM x.1]) (by rw[pz];simp;ac_nf) ?_
    refine⟨cW,?_⟩
    have he:iL y.1++[jM x.1]=iL (y.1++[x.1]):=by rw[kT];rfl
    rw[he]
    exact r
   ·left
    refine rn (xs:=(sS T p (sm.take i)).map En) (ys:=(bc T p y.2).map λt=>En (y.1++[t.1],t.2)) (by rw[aH nfa];exact g1) aj (by rw[ak,ak];ac_nf) ?_
    refine⟨_,_,rfl,?_,?_⟩
    ·rw[aj,sn,a8,bx];rfl
    ·exact(ge.new hacc).mod hfu
 ·rintro τ G' ⟨_,_,rfl,g1,ge⟩
  rw[ak,bi]at g1
  left
  exact⟨_,ge.at g1,q fu hfu⟩
end
section
variable{w:aV}
noncomputable abbrev KM:List Str:=["pattern", "text", "at", "found", "k", "some", "part", "more", "one", "end"]
theorem Lf:bA KM ["pattern", "text", "at"] (aL kz):=⟨rfl,rfl,rfl,by decide+kernel,rfl,by decide+kernel,by decide+kernel⟩
noncomputable abbrev kT1:er:=gG [(".0",.local),("one",.local),("end",.local),("k",.free)]
noncomputable abbrev kT2:er:=gG [(".0",.local),("one",.local),("end",.local),("pattern",.free)]
noncomputable abbrev kT3:er:=gG [(".0",.local),("k",.local),("_law_trees",.globalImplicit),("part",.free),("text",.free)]
noncomputable abbrev kT4:er:=gG [(".0",.local),("row",.local),("end",.local)]
noncomputable abbrev kT5:er:=gG [(".0",.local),("rest",.local),("to",.local),("one",.free)]
theorem cT1:dJ (aL kz) KM kT1 ["one", "end", "k"] [none,none,some 4] 0 "one" =true:=by decide+kernel
theorem cT2:dJ (aL kz) KM kT2 ["one", "end", "pattern"] [none,none,some 0] 0 "one" =true:=by decide+kernel
theorem cT3:dJ (aL kz) KM kT3 ["k", "part", "text"] [none,some 6,some 1] 0 "k" =true:=by decide+kernel
theorem cT4:dJ (aL kz) KM kT4 ["row", "end"] [none,none] 0 "row" =true:=by decide+kernel
theorem cT5:dJ (aL kz) KM kT5 ["rest", "to", "one"] [none,none,some 8] 0 "rest" =true:=by decide+kernel
theorem dT1:ip kT1 ["one", "end", "k"] [none,none,some 4] 1 "end" :=⟨rfl,by decide+kernel,rfl⟩
theorem dT2:ip kT2 ["one", "end", "pattern"] [none,none,some 0] 1 "end" :=⟨rfl,by decide+kernel,rfl⟩
theorem dT4:ip kT4 ["row", "end"] [none,none] 1 "end" :=⟨rfl,by decide+kernel,rfl⟩
theorem dT5:ip kT5 ["rest", "to", "one"] [none,none,some 8] 1 "to" :=⟨rfl,by decide+kernel,rfl⟩
structure Ask(n:Nat)(p:Pt)(T:List Nat)(e:Nat):Prop where
 ok:fL p
 d:7*depth p+(T.length-e)<=n
 e:e<=T.length
 t:T.length<=5
noncomputable def gx(n:Nat):iH:=λps G Q=>∃(p:Pt) (T:List Nat) (e:Nat),ps=[ib p,.str (pM T),.int (e:Nat)]/\Ask n p T e/\∀c,G c=none->Q (.ref c) (up G c (.lst ((bc T p e).map qI)))
theorem Ask.len{n:Nat}{p:Pt}{T:List Nat}{e:Nat}(a:Ask n p T e):(bc T p e).length<=14900788:=pT a.t (lh p a.ok) a.e
theorem Ask.sub{n:Nat}{p c:Pt}{T:List Nat}{e k:Nat}(a:Ask (n+1) p T e)(hc:fL c)(hd:depth c<depth p)(hk:k<=T.length):Ask n c T k:=⟨hc,by have:=a.d;have:=a.t;ac_nf,hk,a.t⟩
noncomputable abbrev tPk(n:Nat):S2:=B0 (AJ (aT (uU jy (aT (iP ra (eV 0) (eC (PV.int 1))) cT)) cT)) (gN 4) (oB (oE (gK (gx n) (aT (iP ra (iP ra (eV 0) (eC (PV.int 1))) (eV 4)) (aT (eV 1) (aT (eV 2) cT)))) (gN 5))
 (qE (uT gU (eV 3) (aT (o4 (KN (eV 5)) [none,none,some 4] 0 1 ke (jO (aT (jO (aT (eC (PV.str (aF "pick"))) (aT (eV 2) (aT (eV 0) cT)))) (aT (eV 1) cT)))) cT))))
noncomputable abbrev tHd(n:Nat):S2:=oB (oE (gK (gx n) (aT (iP ra (eV 0) (eC (PV.int 2))) (aT (eV 1) (aT (eV 2) cT)))) (gN 5))
 (qE (uT gU (eV 3) (aT (o4 (KN (eV 5)) [none,none,some 0] 0 1 ke (jO (aT (iP i7 (DQ (eV 2) Nl (zn (eC (PV.int 2)))) (jO (aT (eV 0) cT))) (aT (eV 1) cT)))) cT)))
noncomputable abbrev tRw(n:Nat):S2:=oB (oE (DR (aT (jO (aT (jO cT) (aT (eV 2) cT))) cT)) (gN 5)) (oB (B0 (itS (iP ra (eV 0) (eC (PV.int 1)))) (gN 6)
 (oB (oE (tG (AJ (aT (iP i7 (uU jy (aT (eV 1) cT)) (eC (PV.int 1))) cT)) [none,some 6,some 1] 0 ke (gK (gx n) (aT (eV 1) (aT (eV 2) (aT (eV 0) cT))))) (gN 7)) (oE (gK uo (aT (eV 5) (aT (eV 7) cT))) (gN 5))))
 (qE (uT gU (eV 3) (aT (o4 (KN (eV 5)) [none,none] 0 1 ke (jO (aT (jO (aT (eC (PV.str (aF "row"))) (aT (eV 0) cT))) (aT (eV 1) cT)))) cT))))
noncomputable abbrev tAg(n:Nat):S2:=oB (B0 (KN (gK (gx n) (aT (iP ra (eV 0) (eC (PV.int 1))) (aT (eV 1) (aT (eV 2) cT))))) (Np 8 (8+1)) (oB (oE (gK (gx n) (aT (eV 0) (aT (eV 1) (aT (eV 9) cT)))) (gN 5))
 (qE (uT gU (eV 3) (aT (o4 (KN (eV 5)) [none,none,some 8] 0 1 ke (jO (aT (jO (aT (eC (PV.str (aF "again"))) (aT (iP i7 (jO (aT (eV 2) cT)) (iP ra (eV 0) (eC (PV.int 1)))) cT))) (aT (eV 1) cT)))) cT)))))
 (qE (uT j9 (eV 3) (aT (jO (aT (jO (aT (eC (PV.str (aF "again"))) (aT (jO cT) cT))) (aT (eV 2) cT))) cT)))
theorem sH(T:List Nat)(p:Pt)(e:Nat):∀(ps:List Pt) (k:Nat),fB T (ps++[p]) k e=fB T ps k e++(bc T p e).map λt=>(Tr.pick ((k+ps.length:Nat):Int) t.1,t.2)
 |[],k=>by simp[fB]
 |r::ps,k=>by
  show(bc T r e).map _++fB T (ps++[p]) (k+1) e=((bc T r e).map _++fB T ps (k+1) e)++_
  rw[sH T p e ps (k+1),eX,aU]
  congr 4
  funext t
  rw[show k+1+ps.length=k+(ps.length+1)by ac_nf]
theorem vA(T:List Nat)(e:Nat):∀(ps qs:List Pt) (k:Nat),∃r,fB T (ps++qs) k e=fB T ps k e++r
 |[],qs,k=>⟨_,rfl⟩
 |p::ps,qs,k=>by
  obtain⟨r,hr⟩:=vA T e ps qs (k+1)
  refine⟨r,?_⟩
  show(bc T p e).map _++fB T (ps++qs) (k+1) e=((bc T p e).map _++fB T ps (k+1) e)++r
  rw[hr,eX]
theorem Bv(T:List Nat)(e:Nat)(ps:List Pt)(i:Nat):(fB T (ps.take i) 0 e).length<=(fB T ps 0 e).length:=by
 obtain⟨r,hr⟩:=vA T e (ps.take i) (ps.drop i) 0
 rw[dF]at hr
 rw[hr,aP];ac_nf
noncomputable abbrev om(p:Pt)(T:List Nat)(e:Nat)(so:Addr)(t4 t5 t6 t7 t8 t9:Option PV):iS:=[some (ib p),some (.str (pM T)),some (.int (e:Nat)),some (.ref so),t4,t5,t6,t7,t8,t9]
theorem E8{n:Nat}{ps:List Pt}{T:List Nat}{e:Nat}{so:Addr}{G:Gp}{D:D2}(a:Ask (n+1) (.pick ps) T e)(gs:G so=some (.lst []))
  (q:∀t4 t5 G',G' so=some (.lst ((bc T (.pick ps) e).map qI))->Ch [so] G G'->D.nx (om (.pick ps) T e so t4 t5 none none none none) G'):tPk n D (om (.pick ps) T e so none none none none none none) G:=by
 have okp:(2<=ps.length/\ps.length<=3)/\inA 5 (.pick ps)/\qN ps:=a.ok
 have hdp:depth (.pick ps)=1+bd ps:=rfl
 have tot:=a.len
 rw[show bc T (.pick ps) e=fB T ps 0 e by unfold bc;rfl]at tot q
 exists eO (x:= .tup (cL ps)) rfl ?_
 exists xW ?_
 rw[cx]
 exists⟨by ac_nf,by ac_nf,?_⟩
 rw[show((ps.length:Int)).toNat=ps.length by ac_nf]
 refine⟨λi τ G'=>∃t4 t5,τ=om (.pick ps) T e so t4 t5 none none none none/\G' so=some (.lst ((fB T (ps.take i) 0 e).map qI))/\Ch [so] G G',⟨none,none,rfl,gs,Ch.refl⟩,?_,?_,?_⟩
 ·intros;trivial
 ·rintro i x τ G' hx ⟨t4,t5,rfl,g1,c1⟩
  obtain⟨hi,rfl⟩:=jZ hx
  rw[Int.zero_add]
  obtain⟨c,hc⟩:∃c,ps[i]? =some c:=⟨_,al hi⟩
  have mc:=av hc
  have hdc:=fJ mc
  have ac:Ask n c T e:=a.sub (i3 okp.2.2 c mc) (by ac_nf) a.e
  have sn:=sH T c e (ps.take i) 0
  have tk:ps.take (i+1)=ps.take i++[c]:=by rw[bB,hc];rfl
  rw[<-tk,bv,Nat.min_eq_left (by ac_nf),fN]at sn
  have hle:=Bv T e ps (i+1)
  rw[sn,aP,ak]at hle
  exists eO (x:= .tup (cL ps)) rfl ?_
  exists eO (bF (iQ hc)) ?_
  exists⟨c,T,e,rfl,ac,λc2 hc2=> ?_⟩
  have nsc:so≠c2:=aX g1 hc2
  exists⟨oU (by rw[aH nsc];exact g1),?_⟩
  left
  rw[aM aj]
  left
  intro acc hacc
  have nca:c2≠acc:=aX aj hacc
  have nsa:so≠acc:=aX (show up G' c2 _ so=_ by rw[aH nsc];exact g1) hacc
  refine nR (λt=>qI (Tr.pick (i:Int) t.1,t.2)) (by ac_nf) (λys=>aM (by rw[aH nca,aj])) (λx ys R hx r=>⟨cW,cW,r⟩) ?_
  exists rn (xs:=(fB T (ps.take i) 0 e).map qI) (ys:=(bc T c e).map λt=>qI (Tr.pick (i:Int) t.1,t.2)) (by rw[aH nsa,aH nsc];exact g1) aj (by rw[ak,ak];ac_nf) ?_
  refine⟨_,_,rfl,?_,?_⟩
  ·rw[aj,sn,a8,bx];rfl
  ·exact(((c1.new hc2).new hacc).put (by simp))
 ·rintro τ G' ⟨t4,t5,rfl,g1,c1⟩
  rw[iz,bi]at g1
  exact q t4 t5 G' g1 c1
theorem EE{x y z:PV}{G:Gp}{Q:K2}(q:Q (.tup [x,y]) G):BI (.tup [x,y,z]) none (some 2) G Q:=by
 unfold BI
 simp[sh,HT.sIx]
 exact q
theorem zD{n:Nat}{p pp:Pt}{T:List Nat}{e:Nat}{so:Addr}{G:Gp}{D:D2}{h1 h2:PV}{w:Tr->Tr}(a:Ask (n+1) pp T e)(okp:fL p)(hd:depth pp=1+depth p)(he:ib pp= .tup [h1,h2,ib p])(hw:∀t,jM (w t)= .tup [h1,h2,jM t])(ht:bc T pp e=(bc T p e).map λt=>(w t.1,t.2))(gs:G so=some (.lst []))
  (q:∀t5 G',G' so=some (.lst ((bc T pp e).map qI))->Ch [so] G G'->D.nx (om pp T e so none t5 none none none none) G'):tHd n D (om pp T e so none none none none none none) G:=by
 have ac:Ask n p T e:=a.sub okp (by ac_nf) a.e
 have tot:=ac.len
 unfold om at q⊢
 rw[he]at q⊢
 exists eO (x:=ib p) rfl ?_
 exists⟨p,T,e,rfl,ac,λc2 hc2=> ?_⟩
 have nsc:so≠c2:=aX gs hc2
 exists⟨oU (by rw[aH nsc];exact gs),?_⟩
 left
 rw[aM aj]
 left
 intro acc hacc
 have nca:c2≠acc:=aX aj hacc
 have nsa:so≠acc:=aX (show up G c2 _ so=_ by rw[aH nsc];exact gs) hacc
 refine nR (λt=>qI (w t.1,t.2)) (by ac_nf) (λys=>aM (by rw[aH nca,aj])) (λx ys R hx r=> ?_) ?_
 ·left
  refine EE ?_
  exists⟨cW,?_⟩
  refine vg (xs:=[h1,h2]) (ys:=[jM x.1]) (by simp) ?_
  refine⟨cW,?_⟩
  show R (.tup [.tup [h1,h2,jM x.1],.int (x.2:Nat)]) _
  rw[<-hw]
  exact r
 exists rn (xs:=[]) (ys:=(bc T p e).map λt=>qI (w t.1,t.2)) (by rw[aH nsa,aH nsc];exact gs) aj (by rw[ak];simp;ac_nf) ?_
 refine q _ _ ?_ (((Ch.refl.new hc2).new hacc).put (by simp))
 rw[aj,ht,bx];rfl
end
theorem sF(T:List Nat)(p:Pt):∀(ps:List Pt) (sm:List (List Tr×Nat)),fY T (ps++[p]) sm=sS T p (fY T ps sm)
 |[],sm=>by show fY T [] (sS T p sm)=sS T p (fY T [] sm);unfold fY;rfl
 |r::ps,sm=>by show fY T (ps++[p]) (sS T r sm)=sS T p (fY T ps (sS T r sm));exact sF T p ps _
theorem qu(T:List Nat):∀(ps:List Pt) (sm:List (List Tr×Nat)) (m:Nat),(∀s∈sm,s.1.length<=m)->∀x∈fY T ps sm,x.1.length<=m+ps.length
 |[],sm,m,h,x,hx=>by unfold fY at hx;exact h x hx
 |p::ps,sm,m,h,x,hx=>by
  have:=qu T ps (sS T p sm) (m+1) (λs hs=>by
   obtain⟨u,hu,hs⟩:=ce.mp hs
   obtain⟨t,ht,rfl⟩:=aD.mp hs
   have:=h u hu
   simp;ac_nf) x hx
  rw[aU];ac_nf
theorem Br{T:List Nat}{p:Pt}(hT:T.length<=5)(h:fL p):∀k,k<=T.length->(bc T p k).length<=15000000:=λk hk=>by
 have:=pT hT (lh p h) hk
 ac_nf
theorem FI{n:Nat}{p c:Pt}{T:List Nat}{G:Gp}{Q:K2}{τ:iS}(ac:∀k,k<=T.length->Ask n c T k)(hT:T.length<=5)(h6:gt τ 6=some (ib c))(h1:gt τ 1=some (.str (pM T)))
  (q:∀(mo:Addr) (ls:List Addr) (G':Gp),G' mo=some (.lst (ls.map PV.ref))->ls.length=T.length+1->(∀(k:Nat) (x:Addr),ls[k]? =some x->G' x=some (.lst ((bc T c k).map qI)))->GE G G'->G mo=none->Q (.ref mo) G'):
  tG (AJ (aT (iP i7 (uU jy (aT (eV 1) cT)) (eC (PV.int 1))) cT)) [none,some 6,some 1] 0 ke (gK (gx n) (aT (eV 1) (aT (eV 2) (aT (eV 0) cT)))) τ G Q:=by
 left
 rw[h1]
 exists jW (by rw[dZ];ac_nf) ?_
 rw[dZ]
 exists ka ?_
 exists⟨by ac_nf,by ac_nf,?_⟩
 rw[show((T.length:Int)+1).toNat=T.length+1 by ac_nf]
 intro acc hacc
 refine⟨λi ys G1=>∃ls:List Addr,ys=ls.map PV.ref/\ls.length=i/\(∀k x,ls[k]? =some x->G1 x=some (.lst ((bc T c k).map qI))/\x≠acc)/\GE G G1/\G1 acc=some (.lst ys),⟨[],rfl,rfl,λk x h=>by simp at h,GE.refl.new hacc,aj⟩,?_,?_,?_⟩
 ·rintro i ys G1 hi ⟨ls,rfl,rfl,hl,ge,ga⟩
  rw[iz]at hi
  refine⟨trivial,ga,?_⟩
  rw[ak];ac_nf
 ·rintro i ys G1 x hx ⟨ls,rfl,rfl,hl,ge,ga⟩
  obtain⟨hi,rfl⟩:=jZ hx
  rw[Int.zero_add]
  refine iK rfl ?_
  show gK (gx n) (aT (eV 1) (aT (eV 2) (aT (eV 0) cT))) [some (.int (ls.length:Int)),gt τ 6,gt τ 1] G1 _
  rw[h6,h1]
  exists⟨c,T,ls.length,rfl,ac _ (by ac_nf),λc2 hc2=> ?_⟩
  have nca:c2≠acc:=λz=>by rw[z,ga]at hc2;cases hc2
  refine⟨by rw[aH (aG nca)];exact ga,ls++[c2],by rw[a8];rfl,by simp,λk x hk=> ?_,((ge.new hc2).mod hacc),aj⟩
  by_cases e:k<ls.length
  ·rw[bW e]at hk
   obtain⟨h3,h4⟩:=hl k x hk
   exact⟨by rw[aH h4,aH (aX h3 hc2)];exact h3,h4⟩
  ·have hk2:k=ls.length:=by
    have:=(am.mp hk).1
    simp at this;ac_nf
   subst hk2
   have:x=c2:=by simpa using hk.symm
   subst this
   exact⟨by rw[aH nca,aj],nca⟩
 ·rintro ys G1 ⟨ls,rfl,hl0,hl,ge,ga⟩
  rw[iz]at hl0
  exact q acc ls G1 ga hl0 (λk x hk=>(hl k x hk).1) ge hacc
theorem Ie{n:Nat}{ps:List Pt}{T:List Nat}{e:Nat}{so:Addr}{G:Gp}{D:D2}(a:Ask (n+1) (.row ps) T e)(gs:G so=some (.lst []))
  (q:∀t5 t6 t7 G',G' so=some (.lst ((bc T (.row ps) e).map qI))->Ch [so] G G'->D.nx (om (.row ps) T e so none t5 t6 t7 none none) G'):tRw n D (om (.row ps) T e so none none none none none none) G:=by
 have okp:(2<=ps.length/\ps.length<=3)/\(inA 5 (.row ps)/\∀i,inR 5 (ps.take i))/\qN ps:=a.ok
 have hdp:depth (.row ps)=1+bd ps:=rfl
 have hT:=a.t
 have he:=a.e
 have lens:∀i,(fY T (ps.take i) [([],e)]).length<=14900788:=λi=>Bu hT (okp.2.1.2 i) he
 exists⟨cW,cW,cW,λs0 hs0=> ?_⟩
 have ns0:so≠s0:=aX gs hs0
 exists eO (x:= .tup (cL ps)) rfl ?_
 exists⟨λi τ G'=>∃sm t6 t7,τ=om (.row ps) T e so none (some (.ref sm)) t6 t7 none none/\G' sm=some (.lst ((fY T (ps.take i) [([],e)]).map En))/\GE G G'/\G sm=none,⟨s0,none,none,rfl,?_,GE.refl.new hs0,hs0⟩,?_,?_,?_⟩
 ·rw[aj];simp[fY,En];rfl
 ·intros;trivial
 ·rintro i x τ G' hx ⟨sm,t6,t7,rfl,g1,ge,hsm⟩
  obtain⟨c,hc,rfl⟩:=uS hx
  have mc:=av hc
  have hdc:=fJ mc
  have okc:=i3 okp.2.2 c mc
  have hi:=(am.mp hc).1
  have ac:∀k,k<=T.length->Ask n c T k:=λk hk=>a.sub okc (by ac_nf) hk
  have sn:=sF T c (ps.take i) [([],e)]
  have tk:ps.take (i+1)=ps.take i++[c]:=by rw[bB,hc];rfl
  rw[<-tk]at sn
  have hl2:=lens (i+1)
  rw[sn]at hl2
  change tG (AJ (aT (iP i7 (uU jy (aT (eV 1) cT)) (eC (PV.int 1))) cT)) [none,some 6,some 1] 0 ke (gK (gx n) (aT (eV 1) (aT (eV 2) (aT (eV 0) cT)))) (om (.row ps) T e so none (some (.ref sm)) (some (ib c)) t7 none none) G' _
  refine FI (p:=c) ac hT rfl rfl λmo ls G2 g2 hll hls oX hmo=> ?_
  exists⟨sm,mo,T,c,fY T (ps.take i) [([],e)],ls,rfl,oX _ _ g1,g2,hll,hls,λs hs=>⟨?_,?_⟩,by ac_nf,Br hT okc,λc2 hc2=> ?_⟩
  ·exact pU T (ps.take i) [([],e)] (λs hs=>by cases aA.mp hs;exact he) s hs
  ·have:=qu T (ps.take i) [([],e)] 0 (λs hs=>by cases aA.mp hs;exact ao _) s hs
   rw[bv]at this
   ac_nf
  ·refine⟨c2,_,_,rfl,by rw[aj,sn],(ge.trans oX).new hc2,none_of (ge.trans oX) hc2⟩
 ·rintro τ G' ⟨sm,t6,t7,rfl,g1,ge,hsm⟩
  have hl2:=lens ps.length
  rw[cx,bi]at g1
  rw[bi]at hl2
  have gs':=ge _ _ gs
  have nss:so≠sm:=aX gs hsm
  exists⟨oU gs',?_⟩
  left
  rw[aM g1]
  left
  intro acc hacc
  have nsa:sm≠acc:=aX g1 hacc
  have noa:so≠acc:=aX gs' hacc
  refine AY (λs=>qI (Tr.row s.1,s.2)) (by ac_nf) (λys=>aM (by rw[aH nsa];exact g1)) (λx ys R hx r=>⟨cW,cW,r⟩) ?_
  exists rn (xs:=[]) (ys:=(fY T ps [([],e)]).map λs=>qI (Tr.row s.1,s.2)) (by rw[aH noa];exact gs') aj (by rw[ak];simp;ac_nf) ?_
  refine q _ _ _ _ ?_ ((ge.ch.new hacc).put (by simp))
  rw[aj,show bc T (.row ps) e=(fY T ps [([],e)]).map λs=>(Tr.row s.1,s.2)by unfold bc;rfl,bx];rfl
noncomputable def pe:Tr->List Tr
 | .again ts=>ts
 |_=>[]
noncomputable def A0(T:List Nat)(p:Pt)(l:List (Tr×Nat)):List (Tr×Nat):=l.flatMap λt=>(bc T (.again p) t.2).map λu=>(Tr.again (t.1::pe u.1),u.2)
theorem yG{T:List Nat}{p:Pt}{e:Nat}(hc:bN p=false)(he:e<=T.length):bc T (.again p) e=A0 T p (bc T p e)++[(.again [],e)]:=by
 rw[sE hc he]
 rfl
theorem Bs{T:List Nat}{p:Pt}{e:Nat}{x:Tr×Nat}(h:x∈bc T (.again p) e):∃ts,x.1= .again ts/\ts.length<=T.length+1:=by
 unfold bc at h
 obtain⟨s,hs,rfl⟩:=aD.mp h
 refine⟨s.1,rfl,?_⟩
 have go:∀(n e:Nat) (s:List Tr×Nat),s∈Eh (bc T p) n e->s.1.length<=n:=by
  intro n
  induction n with
  |zero=>intro e s hs;cases aA.mp hs;exact ao _
  |succ n ih=>
   intro e s hs
   rcases bo.mp hs with hs|hs
   ·obtain⟨t,ht,hs⟩:=ce.mp hs
    obtain⟨u,hu,rfl⟩:=aD.mp hs
    have:=ih t.2 u hu
    simp;ac_nf
   ·cases aA.mp hs;exact bt _
 have:=go _ _ s hs
 ac_nf
theorem Ec{n:Nat}{p:Pt}{T:List Nat}{e:Nat}{so:Addr}{G:Gp}{D:D2}(a:Ask (n+1) (.again p) T e)(gs:G so=some (.lst []))
  (q:∀t5 t8 t9 G',G' so=some (.lst ((bc T (.again p) e).map qI))->Ch [so] G G'->D.nx (om (.again p) T e so none t5 none none t8 t9) G'):tAg n D (om (.again p) T e so none none none none none none) G:=by
 have okx:bN p=false/\inA 5 (.again p)/\fL p:=a.ok
 have hdp:depth (.again p)=1+depth p:=rfl
 have hT:=a.t
 have he:=a.e
 have had:=a.d
 have tot:=a.len
 have eq:=yG (T:=T) okx.1 he
 rw[eq,aP]at tot
 have tot':(A0 T p (bc T p e)).length+1<=14900788:=tot
 exists eO (x:=ib p) rfl ?_
 left
 have ap:Ask n p T e:=a.sub okx.2.2 (by ac_nf) he
 refine⟨p,T,e,rfl,ap,λc2 hc2=> ?_⟩
 have ns2:so≠c2:=aX gs hc2
 left
 rw[aM aj]
 exists⟨λi τ G'=>∃t5 t8 t9,τ=om (.again p) T e so none t5 none none t8 t9/\G' so=some (.lst ((A0 T p ((bc T p e).take i)).map qI))/\G' c2=some (.lst ((bc T p e).map qI))/\Ch [so] G G',⟨none,none,none,rfl,by rw[aH ns2];exact gs,aj,Ch.refl.new hc2⟩,?_,?_,?_⟩
 ·rintro i τ G' hi ⟨_,_,_,rfl,g1,g2,c1⟩
  exact aM g2
 ·rintro i x τ G' hx ⟨t5,t8,t9,rfl,g1,g2,c1⟩
  rw[aC]at hx
  cases ex:(bc T p e)[i]? with
  |none=>rw[ex]at hx;cases hx
  |some y=>
   rw[ex]at hx
   cases hx
   have my:=av ex
   have hy1:=kB T p e okx.1 y my
   have hy2:=g9 T p e he y my
   have ay:Ask n (.again p) T y.2:=⟨a.ok,by ac_nf,hy2,hT⟩
   have hyl:=ay.len
   have tk:(bc T p e).take (i+1)=(bc T p e).take i++[y]:=by rw[bB,ex];rfl
   have sn:A0 T p ((bc T p e).take (i+1))=A0 T p ((bc T p e).take i)++(bc T (.again p) y.2).map λu=>(Tr.again (y.1::pe u.1),u.2):=by
    rw[tk];unfold A0;rw[gL];simp
   have hle:(A0 T p ((bc T p e).take (i+1))).length<=(A0 T p (bc T p e)).length:=by
    have:A0 T p (bc T p e)=A0 T p ((bc T p e).take (i+1))++A0 T p ((bc T p e).drop (i+1)):=by
     unfold A0
     rw[<-gL,dF]
    rw[this,aP]
    ac_nf
   rw[sn,aP,ak]at hle
   exists⟨.again p,T,y.2,rfl,ay,λc3 hc3=> ?_⟩
   have ns3:so≠c3:=aX g1 hc3
   have n23:c2≠c3:=aX g2 hc3
   exists⟨oU (by rw[aH ns3];exact g1),?_⟩
   left
   rw[aM aj]
   left
   intro acc hacc
   have nca:c3≠acc:=aX aj hacc
   have nsa:so≠acc:=aX (show up G' c3 _ so=_ by rw[aH ns3];exact g1) hacc
   have n2a:c2≠acc:=aX (show up G' c3 _ c2=_ by rw[aH n23];exact g2) hacc
   refine nR (λu=>qI (Tr.again (y.1::pe u.1),u.2)) (by ac_nf) (λys=>aM (by rw[aH nca,aj])) (λx ys R hx r=> ?_) ?_
   ·obtain⟨us,hus,hul⟩:=Bs hx
    rw[hus]at r⊢
    refine⟨cW,?_⟩
    refine eO (x:= .tup (iL us)) rfl ?_
    refine vg (xs:=[jM y.1]) (ys:=iL us) (by rw[pz];simp;ac_nf) ?_
    exact⟨cW,cW,r⟩
   ·left
    refine rn (xs:=(A0 T p ((bc T p e).take i)).map qI) (ys:=(bc T (.again p) y.2).map λu=>qI (Tr.again (y.1::pe u.1),u.2)) (by rw[aH nsa,aH ns3];exact g1) aj (by rw[ak,ak];ac_nf) ?_
    refine⟨_,_,_,rfl,?_,?_,?_⟩
    ·rw[aj,sn,a8,bx];rfl
    ·rw[aH (aG ns2),aH n2a,aH n23];exact g2
    ·exact(((c1.new hc3).new hacc).put (by simp))
 ·rintro τ G' ⟨t5,t8,t9,rfl,g1,g2,c1⟩
  rw[ak,bi]at g1
  exists⟨oU g1,?_⟩
  exists⟨cW,cW,cW,?_⟩
  refine gW g1 (by rw[ak];ac_nf) ?_
  refine q _ _ _ _ ?_ (c1.put (by simp))
  rw[aj,eq,a8];rfl
theorem Bt{T:List Nat}{nm:Str}{x:Pt}{e:Nat}:bc T (.held nm x) e=(bc T x e).map λt=>(Tr.held nm t.1,t.2):=by
 conv=>lhs;unfold bc
theorem zY{T:List Nat}{nm:Int}{x:Pt}{e:Nat}:bc T (.price nm x) e=(bc T x e).map λt=>(Tr.price nm t.1,t.2):=by
 conv=>lhs;unfold bc
section
variable{P:aJ}{w:aV}{K:PySem.W.Frag}{mg:Str->Option ae}{base:Heap}{f fa fp fb:Addr}{fd da db:aW}
theorem Cw{n k:Nat}(hk:1<=k)(F:Fun K "_law_trees" "_law_trees" kz f fd)(B:BN mg)(CB:cU P w K mg base 1 "_law_both" fb db ["some", "more"] uo)(C:cU P w K mg base k "_law_trees" fa da ["pattern", "text", "at"] (gx n)):i9 P w K mg base (k+1) f fd ["pattern", "text", "at"] (gx (n+1)):=by
 have nd:=Lf.nd
 have hUE:=pO.mk
 refine lu F Lf (λvs G Q h=> ?_) (λcdv A outer s H E as G Q hr h=> ?_)
 ·obtain⟨_,_,_,rfl,_⟩:=h
  rfl
 have hU:=fk hr
 apply j3
 case a=>
  symm
  all_goals try first
   |(refine' jY cT1 dT1 rfl ?_ λ_ _ _ _=>⟨?_,?_⟩)
   |(refine' jY cT2 dT2 rfl ?_ λ_ _ _ _=>⟨?_,?_⟩)
   |(refine' jY cT4 dT4 rfl ?_ λ_ _ _ _=>⟨?_,?_⟩)
   |(refine' jY cT5 dT5 rfl ?_ λ_ _ _ _=>⟨?_,?_⟩)
   |(refine' nw (n:=7) (ix:=[none,some 6,some 1]) (j:=0) nd rfl rfl cT3 rfl ?_ (λC s H fp=>⟨?_,?_⟩))
   |(refine' q9 (ix:=[none,some 6,some 1]) (j:=0) cT3 rfl ?_ (λC s H fp=>⟨?_,?_⟩))
  all_goals symm
 obtain⟨p,T,e,rfl,a,q⟩:=h
 have hT:=a.t
 have he:=a.e
 left
 cases p with
 |blank=>
  nofun
  exists fD rfl rfl (iK rfl ?_)
  exists⟨cW,cW,cW,λc hc=>⟨_,GE.refl,?_⟩⟩
  have:=q c hc
  rw[show bc T .blank e=[(.blank,e)]by unfold bc;rfl]at this
  exact this
 |sign z=>
  have okz:1<=z.length/\z.length<=5:=a.ok
  nofun
  ext
  nofun
  exists fD rfl rfl (iK rfl ?_)
  have no:bc T (.sign z) e=[]->∀c,G c=none->∃G0,GE G0 (up G c (.lst []))/\Q (.ref c) G0:=λh c hc=>⟨_,GE.refl,by have:=q c hc;rw[h]at this;exact this⟩
  exists jW (by rw[dZ];ac_nf) ?_
  rw[dZ]
  exists sf (λh=> ?_) (λh=> ?_)
  ·have h1:(e:Int)<(T.length:Nat):=of_decide_eq_true h
   have h2:e<T.length:=by ac_nf
   obtain⟨ch,ec⟩:∃ch,T[e]? =some ch:=⟨_,al h2⟩
   exists pr (c:=ch) (by rw[dZ];ac_nf) (bF (by rw[p9];exact ec)) ?_
   exists eO (x:= .str z) rfl ?_
   exists Hs ?_
   left
   by_cases hc:ch∈z.cps.toList
   ·refine iK (decide_eq_true hc) ?_
    exists pr (c:=ch) (by rw[dZ];ac_nf) (bF (by rw[p9];exact ec)) ?_
    exists⟨cW,?_⟩
    refine ka ?_
    refine⟨cW,cW,λc hc2=>⟨_,GE.refl,?_⟩⟩
    have:=q c hc2
    rw[show bc T (.sign z) e=[(.sign ⟨#[ch]⟩,e+1)]by unfold bc;rw[ec];simp only[if_pos hc]]at this
    exact this
   ·refine nX (decide_eq_false hc) ?_
    exists⟨cW,no ?_⟩
    unfold bc;rw[ec];simp only[if_neg hc]
  ·have h1:¬(e:Int)<(T.length:Nat):=of_decide_eq_false h
   exists⟨cW,no ?_⟩
   unfold bc;rw[cO (by ac_nf)]
 |none=>
  nofun
  ext
  nofun
  ext
  exists⟨cW,λso hso=> ?_⟩
  nofun
  ext
  nofun
  exists⟨cW,rfl,rfl,?_⟩
  refine nX rfl ?_
  nofun
  ext
  nofun
  ext
  exists⟨_,GE.refl,?_⟩
  have:=q so hso
  rw[show bc T .none e=[]by unfold bc;rfl]at this
  exact this
 |pick ps=>
  nofun
  ext
  nofun
  ext
  exists⟨cW,λso hso=> ?_⟩
  nofun
  exists fD rfl rfl (iK rfl ?_)
  refine E8 a aj λt4 t5 G1 g1 c1=> ?_
  nofun
  exists⟨cW,rfl,rfl,?_⟩
  refine nX rfl ?_
  nofun
  ext
  nofun
  ext
  exists⟨up G so (.lst _),λb o h=> ?_,q so hso⟩
  by_cases hb:b=so
  ·subst hb;rw[aj]at h;cases h;exact g1
  ·rw[aH hb]at h
   exact c1 b o (by simpa using hb) (by rw[aH hb];exact h)
 |held nm x=>
  have okx:nm.length<=8/\fL x:=a.ok
  nofun
  ext
  nofun
  ext
  exists⟨cW,λso hso=> ?_⟩
  nofun
  ext
  nofun
  exists⟨cW,rfl,rfl,?_⟩
  refine iK rfl ?_
  refine zD (pp:= .held nm x) (w:=Tr.held nm) a okx.2 rfl rfl (λ_=>rfl) Bt aj λt5 G1 g1 c1=> ?_
  nofun
  ext
  nofun
  ext
  exists⟨up G so (.lst _),λb o h=> ?_,q so hso⟩
  by_cases hb:b=so
  ·subst hb;rw[aj]at h;cases h;exact g1
  ·rw[aH hb]at h
   exact c1 b o (by simpa using hb) (by rw[aH hb];exact h)
 |price nm x=>
  have okx:fL x:=a.ok
  nofun
  ext
  nofun
  ext
  exists⟨cW,λso hso=> ?_⟩
  nofun
  ext
  nofun
  exists⟨cW,rfl,rfl,?_⟩
  refine iK rfl ?_
  refine zD (pp:= .price nm x) (w:=Tr.price nm) a okx rfl rfl (λ_=>rfl) zY aj λt5 G1 g1 c1=> ?_
  nofun
  ext
  nofun
  ext
  exists⟨up G so (.lst _),λb o h=> ?_,q so hso⟩
  by_cases hb:b=so
  ·subst hb;rw[aj]at h;cases h;exact g1
  ·rw[aH hb]at h
   exact c1 b o (by simpa using hb) (by rw[aH hb];exact h)
 |row ps=>
  nofun
  ext
  nofun
  ext
  exists⟨cW,λso hso=> ?_⟩
  nofun
  ext
  nofun
  exists⟨cW,rfl,rfl,?_⟩
  refine nX rfl ?_
  nofun
  exists fD rfl rfl (iK rfl ?_)
  refine Ie a aj λt5 t6 t7 G1 g1 c1=> ?_
  nofun
  ext
  exists⟨up G so (.lst _),λb o h=> ?_,q so hso⟩
  by_cases hb:b=so
  ·subst hb;rw[aj]at h;cases h;exact g1
  ·rw[aH hb]at h
   exact c1 b o (by simpa using hb) (by rw[aH hb];exact h)
 |again x=>
  nofun
  ext
  nofun
  ext
  exists⟨cW,λso hso=> ?_⟩
  nofun
  ext
  nofun
  exists⟨cW,rfl,rfl,?_⟩
  refine nX rfl ?_
  nofun
  ext
  nofun
  exists fD rfl rfl (iK rfl ?_)
  refine Ec a aj λt5 t8 t9 G1 g1 c1=> ?_
  exists⟨up G so (.lst _),λb o h=> ?_,q so hso⟩
  by_cases hb:b=so
  ·subst hb;rw[aj]at h;cases h;exact g1
  ·rw[aH hb]at h
   exact c1 b o (by simpa using hb) (by rw[aH hb];exact h)
end
noncomputable abbrev tU:Stmt:=top 29
noncomputable abbrev wY:Stmt:=top 30
section
variable{P:aJ}{w:aV}{K:PySem.W.Frag}{mg:Str->Option ae}{base:Heap}{f fa:Addr}{fd da:aW}
theorem yU:bA ["pattern", "text"] ["pattern", "text"] (aL tU):=⟨rfl,rfl,rfl,by decide+kernel,rfl,by decide+kernel,by decide+kernel⟩
noncomputable abbrev kW1:er:=gG [(".0",.local),("one",.local),("end",.local),("len",.globalImplicit),("text",.free)]
theorem cW1:dJ (aL tU) ["pattern", "text"] kW1 ["one", "end", "text"] [none,none,some 1] 0 "one" =true:=by decide+kernel
theorem dW1:ip kW1 ["one", "end", "text"] [none,none,some 1] 1 "end" :=⟨rfl,by decide+kernel,rfl⟩
noncomputable def xh(T:List Nat)(p:Pt):List (Tr×Nat):=(bc T p 0).filter λt=>t.2==T.length
theorem Ev(T:List Nat)(p:Pt):(xh T p).length=nT T p 0 T.length:=by
 unfold xh nT jF
 rw[jd]
noncomputable def ui:iH:=λps G Q=>∃(p:Pt) (T:List Nat),ps=[ib p,.str (pM T)]/\fL p/\depth p<=5/\T.length<=5/\∀c,G c=none->Q (.ref c) (up G c (.lst ((xh T p).map λt=>jM t.1)))
theorem Cu{k:Nat}(hk:1<=k)(F:Fun K "_law_whole_trees" "_law_whole_trees" tU f fd)(B:BN mg)(C:cU P w K mg base k "_law_trees" fa da ["pattern", "text", "at"] (gx 40)):i9 P w K mg base (k+1) f fd ["pattern", "text"] ui:=by
 have nd:=yU.nd
 have hUE:=pO.mk
 refine lu F yU (λvs G Q h=> ?_) (λcdv A outer s H E as G Q hr h=> ?_)
 ·obtain⟨_,_,rfl,_⟩:=h
  rfl
 have hU:=fk hr
 apply j3
 case a=>
  symm
  all_goals try (refine' jY cW1 dW1 rfl ?_ λ_ _ _ _=>⟨?_,?_⟩)
  all_goals symm
 obtain⟨p,T,rfl,ok,hd,hT,q⟩:=h
 have ac:Ask 40 p T 0:=⟨ok,by ac_nf,bt _,hT⟩
 have hl:=ac.len
 exists⟨p,T,0,rfl,ac,λc2 hc2=> ?_⟩
 left
 rw[aM aj]
 left
 intro acc hacc
 have nca:c2≠acc:=aX aj hacc
 have hac0:G acc=none:=(eI hacc).2
 refine⟨λi ys G1=>ys=(((bc T p 0).take i).filter λt=>t.2==T.length).map (λt=>jM t.1)/\G1=up (up G c2 (.lst ((bc T p 0).map qI))) acc (.lst ys),⟨by simp,rfl⟩,?_,?_,?_⟩
 ·rintro i ys G1 hi ⟨rfl,rfl⟩
  refine⟨aM (by rw[aH nca,aj]),aj,?_⟩
  rw[ak]
  have h1:=lX (λt:Tr×Nat=>t.2==T.length) ((bc T p 0).take i)
  rw[bv]at h1
  ac_nf
 ·rintro i ys G1 x hx ⟨rfl,rfl⟩
  rw[aC]at hx
  cases ex:(bc T p 0)[i]? with
  |none=>rw[ex]at hx;cases hx
  |some y=>
   rw[ex]at hx
   cases hx
   have tk:(bc T p 0).take (i+1)=(bc T p 0).take i++[y]:=by rw[bB,ex];rfl
   refine⟨_,_,rfl,?_⟩
   exists jW (by rw[dZ];ac_nf) ?_
   rw[dZ]
   exists fD rfl rfl ?_
   left
   by_cases hy:y.2=T.length
   ·refine iK (by simp[kr,hy]) ?_
    refine⟨aj,?_,gJ⟩
    rw[tk,jH,a8]
    simp[hy]
   ·refine nX (by simp[kr];ac_nf) ?_
    refine⟨?_,rfl⟩
    rw[tk,jH,a8]
    simp[hy]
 ·rintro ys G1 ⟨rfl,rfl⟩
  rw[ak,bi]
  refine⟨up G acc (.lst ((xh T p).map λt=>jM t.1)),λb o h=> ?_,q acc hac0⟩
  by_cases hb:b=acc
  ·subst hb;rw[aj]at h⊢;exact h
  ·rw[aH hb]at h⊢
   rw[aH (aX h hc2)];exact h
end
section
variable{P:aJ}{w:aV}{K:PySem.W.Frag}{mg:Str->Option ae}{base:Heap}{f fn fi ft fp fl:Addr}{fd dn di dt dp dm dl':aW}
theorem yZ:bA ["cell", "most", "pool", "letters", "pattern"] ["cell", "most"] (aL wY):=⟨rfl,rfl,rfl,by decide+kernel,rfl,by decide+kernel,by decide+kernel⟩
noncomputable def ul:iH:=λps G Q=>∃c M:Int,ps=[.int c,.int M]/\1<=M/\M<=5/\∀a p z T G',fL p->depth p<=5->1<=Str.length z->Str.length z<=5->(T.length:Int)<=M->Pool G' a->GE G G'->G a=none->Q (.tup [.ref a,ib p,.str z,.str (pM T)]) G'
theorem CJ{k:Nat}(hk:20<=k)(F:Fun K "_law_scene" "_law_scene" wY f fd)(B:BN mg)(CO:cU P w K mg base 1 "_law_pool" fi di ["cell"] xw)(CN:cU P w K mg base 1 "_law_next" fn dn ["pool", "base"] gD)(CL:cU P w K mg base 2 "_law_letters" fl dl' ["pool"] oq)
  (CP:cU P w K mg base k "_law_pattern" fp dp ["pool", "letters", "deep", "room", "blank"] (mS 5)) (CT:cU P w K mg base k "_law_text" ft dt ["pool", "pattern", "letters", "most"] uk):i9 P w K mg base (k+1) f fd ["cell", "most"] ul:=by
 have nd:=yZ.nd
 have hUE:=pO.mk
 refine lu F yZ (λvs G Q h=> ?_) (λcdv A outer s H E as G Q hr h=> ?_)
 ·obtain⟨_,_,rfl,_⟩:=h
  rfl
 have hU:=fk hr
 apply j3
 case a=>symm
 obtain⟨c,M,rfl,M1,M5,q⟩:=h
 exists⟨c,rfl,λa G1 ha p1 c1=> ?_⟩
 exists⟨a,rfl,p1,λz G2 z1 z5 p2 c2=> ?_⟩
 exists⟨a,6,rfl,p2,by decide,by decide,λn6 G3 n0 n1 p3 c3=> ?_⟩
 exists ka ?_
 exists⟨cW,λr hr0=> ?_⟩
 have nra:r≠a:=fP p3 hr0
 exists⟨a,r,z,5,4+n6,true,rfl,⟨p3.new hr0,aj,aG nra,z1,z5⟩,by decide,by decide,by ac_nf,λp m' G4 hm' ok dm hb hd w4 c4=> ?_⟩
 have hd5:depth p<=5:=hd
 exists⟨a,p,z,M,rfl,w4.pl,ok,hd5,z1,z5,M1,M5,λT G5 hT p5 c5=> ?_⟩
 refine⟨cW,G5,GE.refl,q a p z T G5 ok hd5 z1 z5 hT p5 ?_ ha⟩
 intro b o hb
 have nb:b≠a:=aX hb ha
 have h3:=(((c1.trans c2).trans c3) b o (by simpa using nb) hb)
 have nbr:b≠r:=aX h3 hr0
 exact c5 b o (by simpa using nb) (c4 b o (by simp[nb,nbr]) (by rw[aH nbr];exact h3))
end
noncomputable def zH(cn gd:Addr)(e:Nat):List (Str×PV):=[("counts",.ref cn),("guide",.ref gd),("at",.int (e:Int))]
noncomputable def Nq:Pt->Prop
 | .row ps=>1<=ps.length/\ps.length<=6
 | .pick ps=>1<=ps.length/\ps.length<=6
 |_=>True
structure Ds(CD CC CB:Addr)(G:Gp)(ds cn gd:Addr)(T:List Nat)(p:Pt)(k e:Nat)(dd db dx m pa tb:Addr)(ts:List Addr):Prop where
 ins:G ds=some (.ins CD dd (zH cn gd e))
 gui:G gd=some (.ins CB db [("left",.int (k:Int))])
 tab:Tb CC G cn T p (λ_ _=>True) dx m pa tb ts
 cs:Cs T p
 ar:∀q∈makes p,Nq q
noncomputable def On(G:Gp)(ow:Addr)(S:Nat->Prop)(o:Nat->Nat):Prop:=∃kvs,j7 G ow=some kvs/\∀j,S j->(g8 kvs (.inl (j:Int))).getD (.int 0)= .int (o j:Int)
section
variable{CD CC CB:Addr}{G G':Gp}{ds cn gd dd db dx m pa tb:Addr}{T:List Nat}{p:Pt}{k e:Nat}{ts:List Addr}
theorem Ds.ge(h:Ds CD CC CB G ds cn gd T p k e dd db dx m pa tb ts)(g:GE G G'):Ds CD CC CB G' ds cn gd T p k e dd db dx m pa tb ts:=⟨g _ _ h.ins,g _ _ h.gui,h.tab.ge g,h.cs,h.ar⟩
theorem yi{a:Addr}{kvs:List (Key×PV)}(g:GE G G')(h:j7 G a=some kvs):j7 G' a=some kvs:=by
 cases eg:G a with
 |none=>simp[j7,eg]at h
 |some o=>
  cases o with
  |dK k'=>simp[j7,eg]at h;subst h;exact jR (g _ _ eg)
  |rd k'=>simp[j7,eg]at h;subst h;exact nJ (g _ _ eg)
  |_=>simp[j7,eg]at h
theorem On.ge{ow:Addr}{S:Nat->Prop}{o:Nat->Nat}(h:On G ow S o)(g:GE G G'):On G' ow S o:=by
 obtain⟨kvs,h1,h2⟩:=h
 exact⟨kvs,yi g h1,h2⟩
end
section
variable{P:aJ}{w:aV}{K:PySem.W.Frag}{mg:Str->Option ae}{base:Heap}{f fa CD CC CB:Addr}{fd da:aW}
theorem yX:bA ["self", "number", "at", "onward", "ends"] ["self", "number", "at", "onward"] (aL tW):=⟨rfl,rfl,rfl,by decide+kernel,rfl,by decide+kernel,by decide+kernel⟩
theorem GJ:dJ (aL tW) ["self", "number", "at", "onward", "ends"] (gG [(".0",.local),("end",.local),("ends",.free),("onward",.free)]) ["end", "ends", "onward"] [none,some 4,some 3] 0 "end" =true:=by decide+kernel
noncomputable def lf(CD CC CB:Addr):iH:=λps G Q=>∃(ds cn gd dd db dx m pa tb:Addr) (ts:List Addr) (T:List Nat) (p q:Pt) (k e0 n e:Nat) (ow:Addr) (o:Nat->Nat),ps=[.ref ds,.int (n:Int),.int (e:Int),.ref ow]/\Ds CD CC CB G ds cn gd T p k e0 dd db dx m pa tb ts/\(makes p)[n]? =some q/\e<=T.length/\On G ow (λj=>nT T q e j≠0) o/\
 Q (.int (bM o (bc T q e):Nat)) G
theorem vD:∀(ws:Ws) (g:Nat->Nat),(ws.map λv=>((v.2:Nat):Int)*((g v.1:Nat):Int)).sum=(((ws.map λv=>g v.1*v.2).sum:Nat):Int)
 |[],g=>rfl
 |v::ws,g=>by
  rw[aw,bn,vD ws g,aw,bn]
  rw[Int.natCast_add,Int.natCast_mul,Int.mul_comm]
theorem Cz(c:Cls K CD)(n1:NoAttr K CD "counts")(F:Fun K "size" "Descent.size" tW f fd)(B:BN mg)(ME:eS P w K mg base CC 1 "ends_of" fa da ["self", "number", "at"] (ou CC)):i9 P w K mg base 2 f fd ["self", "number", "at", "onward"] (lf CD CC CB):=by
 have nd:=yX.nd
 refine lu F yX (λvs G Q h=> ?_) (λcdv A outer s H E as G Q hr h=> ?_)
 ·obtain⟨_,_,_,_,_,_,_,_,_,_,_,_,_,_,_,_,_,_,_,rfl,_⟩:=h
  rfl
 have hU:=fk hr
 apply j3
 case a=>
  symm
  all_goals try (refine' q9 GJ rfl ?_ λ_ _ _ _=>⟨?_,?_⟩)
  all_goals symm
 obtain⟨ds,cn,gd,dd,db,dx,m,pa,tb,ts,T,p,qq,k,e0,n,e,ow,o,rfl,D,hq,he,⟨okv,ho1,ho2⟩,q⟩:=h
 exists cH D.ins rfl ?_
 exists⟨⟨cn,dx,_,rfl,D.tab.ins,rfl⟩,?_⟩
 exists⟨cn,dx,m,pa,tb,ts,T,p,qq,n,e,rfl,D.tab,hq,he,λd ws gd' wy=> ?_⟩
 exists yh rfl gd' ?_
 rw[jN]
 intro acc hacc
 have nda:d≠acc:=aX gd' hacc
 have hln:=wy.len
 have hLT:=D.cs.len
 refine rL (λ_=>true) (λx=>match x with| .int i=> .int ((kl ws i.toNat:Int)*(o i.toNat:Int))|_=> .non) (by rw[ak];ac_nf) (λys=>by rw[aH nda];exact gd') (λx ys R _ hR=>hR) (λx ys R hx _ hR=> ?_) ?_
 ·obtain⟨v,hv,rfl⟩:=aD.mp hx
  obtain⟨i,hi⟩:=iM.mp hv
  obtain⟨k1,k2,k3⟩:=wy.key hi
  have hlk:=oO wy.nd hi
  have goe:j7 (up G acc (.lst ys)) ow=some okv:=yi (GE.refl.new hacc) ho1
  exists lO (nJ (by rw[aH nda];exact gd')) rfl (wy.read hi) ?_
  exists⟨rb goe,?_⟩
  exists uO goe rfl ?_
  rw[ho2 v.1 (by show nT T qq e v.1≠0;rw[k1];ac_nf)]
  exists Da (.inl ⟨by ac_nf,by have:=wy.big D.cs (av hq) he v hv;ac_nf⟩) ?_
  have e1:((v.1:Int)).toNat=v.1:=by ac_nf
  show R (.int ((v.2:Int)*(o v.1:Int))) _
  change R (.int ((kl ws ((v.1:Int)).toNat:Int)*(o ((v.1:Int)).toNat:Int))) _ at hR
  rw[e1,hlk]at hR
  exact hR
 have el:((ws.map λw=>PV.int (w.1:Int)).filter λ_=>true).map (λx=>match x with| .int i=>PV.int ((kl ws i.toNat:Int)*(o i.toNat:Int))|_=> .non)=(ws.map λv=>((v.2:Nat):Int)*((o v.1:Nat):Int)).map PV.int:=by
  rw[nZ.mpr (λ_ _=>rfl),bx,bx]
  refine fz λv hv=> ?_
  obtain⟨i,hi⟩:=iM.mp hv
  have e1:((v.1:Int)).toNat=v.1:=by ac_nf
  show PV.int ((kl ws ((v.1:Int)).toNat:Int)*(o ((v.1:Int)).toNat:Int))= .int ((v.2:Int)*(o v.1:Int))
  rw[e1,oO wy.nd hi]
 rw[el]
 exists BC (ns:=ws.map λv=>((v.2:Nat):Int)*((o v.1:Nat):Int)) nj ?_
 rw[vD ws o,Kl (h:=o) wy.nd wy.lt]
 refine⟨G,GE.refl.new hacc,?_⟩
 have e2:cZ (T.length+1) (λk=>kl ws k*o k)=bM o (bc T qq e):=by
  rw[Et he]
  exact dX λj _=>by rw[wy.val]
 rw[e2]
 exact q
end
section
variable{P:aJ}{w:aV}{K:PySem.W.Frag}{mg:Str->Option ae}{base:Heap}{f fa CD CC CB:Addr}{fd da:aW}
theorem y7:bA ["self", "counts", "guide"] ["self", "counts", "guide"] (aL w8):=⟨rfl,rfl,rfl,by decide+kernel,rfl,by decide+kernel,by decide+kernel⟩
noncomputable def yQ(CD:Addr):iH:=λps G Q=>∃(a dx cn gd:Addr),ps=[.ref a,.ref cn,.ref gd]/\G a=some (.ins CD dx [])/\Q .non (up G a (.ins CD dx (zH cn gd 0)))
theorem CZ(c:Cls K CD)(n1:NoAttr K CD "counts")(n2:NoAttr K CD "guide")(n3:NoAttr K CD "at")(F:Fun K "__init__" "Descent.__init__" w8 f fd)(B:BN mg):i9 P w K mg base 1 f fd ["self", "counts", "guide"] (yQ CD):=by
 have nd:=y7.nd
 refine lu F y7 (λvs G Q h=> ?_) (λcdv A outer s H E as G Q hr h=> ?_)
 ·obtain⟨_,_,_,_,rfl,_⟩:=h
  rfl
 have hU:=fk hr
 apply j3
 case a=>symm
 obtain⟨a,dx,cn,gd,rfl,ga,q⟩:=h
 exists kF ga (ba rfl) ?_
 exists kF aj (ba rfl) ?_
 exists kF aj (ba rfl) ?_
 rw[gJ,gJ]
 exact⟨_,GE.refl,q⟩
theorem y9:bA ["self", "number", "places", "onward", "ahead", "place"] ["self", "number", "places", "onward"] (aL xa):=⟨rfl,rfl,rfl,by decide+kernel,rfl,by decide+kernel,by decide+kernel⟩
noncomputable def mW(CD CC CB:Addr):iH:=λps G Q=>∃(ds cn gd dd db dx m pa tb:Addr) (ts:List Addr) (T:List Nat) (p q:Pt) (k e0 n:Nat) (pl ow:Addr) (js:List Nat) (o:Nat->Nat),ps=[.ref ds,.int (n:Int),.ref pl,.ref ow]/\Ds CD CC CB G ds cn gd T p k e0 dd db dx m pa tb ts/\(makes p)[n]? =some q/\G pl=some (.lst (js.map gh))/\js.length<=10000/\(∀j∈js,j<=T.length)/\On G ow (λi=>∃j∈js,nT T q j i≠0) o/\
 ∀c G',G c=none->GE G G'->On G' c (λj=>j∈js) (λj=>bM o (bc T q j))->Q (.ref c) G'
theorem C5(c:Cls K CD)(n1:NoAttr K CD "counts")(F:Fun K "onward_ahead" "Descent.onward_ahead" xa f fd)(B:BN mg)(MS:eS P w K mg base CD 2 "size" fa da ["self", "number", "at", "onward"] (lf CD CC CB)):i9 P w K mg base 3 f fd ["self", "number", "places", "onward"] (mW CD CC CB):=by
 have nd:=y9.nd
 refine lu F y9 (λvs G Q h=> ?_) (λcdv A outer s H E as G Q hr h=> ?_)
 ·obtain⟨_,_,_,_,_,_,_,_,_,_,_,_,_,_,_,_,_,_,_,_,rfl,_⟩:=h
  rfl
 have hU:=fk hr
 apply j3
 case a=>symm
 obtain⟨ds,cn,gd,dd,db,dx,m,pa,tb,ts,T,p,qq,k,e0,n,pl,ow,js,o,rfl,D,hq,gp,hjl,hjs,hon,q⟩:=h
 left
 intro ah hah
 left
 rw[aM (show up G ah (.dK []) pl=some (.lst (js.map gh))by rw[aH (aX gp hah)];exact gp)]
 exists⟨λi τ G'=>∃(kvs:List (Key×PV)) (t5:Option PV),τ=[some (.ref ds),some (.int (n:Int)),some (.ref pl),some (.ref ow),some (.ref ah),t5]/\G'=up G ah (.dK kvs)/\kvs.length<=i/\∀j∈js.take i,g8 kvs (.inl (j:Int))=some (.int (bM o (bc T qq j):Nat)),⟨[],none,rfl,rfl,ao _,by simp⟩,?_,?_,?_⟩
 ·rintro i τ G' hi ⟨kvs,t5,rfl,rfl,_⟩
  exact aM (by rw[aH (aX gp hah)];exact gp)
 ·rintro i x τ G' hx ⟨kvs,t5,rfl,rfl,hl,hv⟩
  rw[aC]at hx
  cases ej:js[i]? with
  |none=>rw[ej]at hx;cases hx
  |some j=>
   rw[ej]at hx
   cases hx
   have mj:=av ej
   have hil:=(am.mp ej).1
   have ge1:GE G (up G ah (.dK kvs)):=GE.refl.new hah
   have D1:=D.ge ge1
   obtain⟨okv,ho1,ho2⟩:=hon.ge ge1
   exists⟨⟨ds,dd,_,rfl,D1.ins,rfl⟩,?_⟩
   exists⟨ds,cn,gd,dd,db,dx,m,pa,tb,ts,T,p,qq,k,e0,n,j,ow,o,rfl,D1,hq,hjs j mj,⟨okv,ho1,λi hi=>ho2 i ⟨j,mj,hi⟩⟩,?_⟩
   exists qD aj rfl (by ac_nf) ?_
   refine⟨_,_,rfl,by rw[gJ],?_,λj' hj'=> ?_⟩
   ·have:=mZ (k:= .inl (j:Int)) (v:= .int (bM o (bc T qq j):Nat)) kvs
    ac_nf
   ·show g8 (iu kvs (.inl (j:Int)) (.int (bM o (bc T qq j):Nat))) (.inl (j':Int))=_
    rw[qo]
    by_cases e:j=j'
    ·subst e;rw[if_pos rfl]
    ·rw[if_neg (qX e)]
     rw[bB,ej]at hj'
     rcases bo.mp hj' with h|h
     ·exact hv j' h
     ·exact absurd (by simpa using h) (aG e)
 ·rintro τ G' ⟨kvs,t5,rfl,rfl,hl,hv⟩
  rw[ak,bi]at hv
  exists⟨_,GE.refl,q ah _ hah (GE.refl.new hah) ⟨kvs,jR aj,λj hj=> ?_⟩⟩
  rw[hv j hj];rfl
end
theorem zi{T:List Nat}{o:Nat->Nat}{e:Nat}:∀(ps:List Pt) (i k:Nat),k<(ps.map λc=>bM o (bc T c e)).sum->
  ∃c,ps[(mw (ps.map λc=>bM o (bc T c e)) k).1]? =some c/\(mw (ps.map λc=>bM o (bc T c e)) k).2<bM o (bc T c e)/\
   pk o (fB T ps i e) k=(pk o (bc T c e) (mw (ps.map λc=>bM o (bc T c e)) k).2).map λy=>(Tr.pick ((i+(mw (ps.map λc=>bM o (bc T c e)) k).1:Nat):Int) y.1,y.2)
 |[],i,k,h=>absurd h (jh _)
 |p::ps,i,k,h=>by
  rw[aw,bn]at h
  rw[aw,jS]
  have hw:bM o ((bc T p e).map λt=>(Tr.pick (i:Int) t.1,t.2))=bM o (bc T p e):=iX (Tr.pick (i:Int)) (bc T p e)
  by_cases hk:k<bM o (bc T p e)
  ·rw[if_pos hk]
   refine⟨p,rfl,hk,?_⟩
   unfold fB
   rw[p7 _ _ _ (by rw[hw];exact hk),oH (Tr.pick (i:Int)) (bc T p e) k]
   rfl
  ·rw[if_neg hk]
   obtain⟨c,h1,h2,h3⟩:=zi (T:=T) (o:=o) (e:=e) ps (i+1) (k-bM o (bc T p e)) (by ac_nf)
   refine⟨c,by simpa using h1,h2,?_⟩
   unfold fB
   rw[na _ _ _ (by rw[hw];ac_nf),hw,h3]
   congr 1
   funext y
   rw[show i+1+(mw (ps.map λc=>bM o (bc T c e)) (k-bM o (bc T p e))).1=i+((mw (ps.map λc=>bM o (bc T c e)) (k-bM o (bc T p e))).1+1)by ac_nf]
theorem sB{T:List Nat}{o:Nat->Nat}{e:Nat}:∀(ps:List Pt) (i:Nat),bM o (fB T ps i e)=(ps.map λc=>bM o (bc T c e)).sum
 |[],i=>by unfold fB;rfl
 |p::ps,i=>by
  unfold fB
  rw[kA,iX (Tr.pick (i:Int)) (bc T p e),sB ps (i+1),aw,bn]
theorem Ds.left{CD CC CB:Addr}{G:Gp}{ds cn gd dd db dx m pa tb:Addr}{T:List Nat}{p:Pt}{k e r:Nat}{ts:List Addr}(h:Ds CD CC CB G ds cn gd T p k e dd db dx m pa tb ts):Ds CD CC CB (up G gd (.ins CB db [("left",.int (r:Int))])) ds cn gd T p r e dd db dx m pa tb ts:=by
 have ng:∀{b:Addr} {o:MO},G b=some o->o≠ .ins CB db [("left",.int (k:Int))]->up G gd (.ins CB db [("left",.int (r:Int))]) b=some o:=fun{b o} hb ho=>by
  rw[aH (λz=>by rw[z,h.gui]at hb;cases hb;exact ho rfl)];exact hb
 refine⟨ng h.ins (by intro z;cases z),aj,⟨ng h.tab.ins (by intro z;cases z),ng h.tab.mks (by intro z;cases z),ng h.tab.pts (by intro z;cases z),ng h.tab.tbl (by intro z;cases z),h.tab.tl,λi t hi=> ?_⟩,h.cs,h.ar⟩
 obtain⟨kvs,h1,h3⟩:=h.tab.row i t hi
 refine⟨kvs,ng h1 (by intro z;cases z),λq hq e he hl=> ?_⟩
 obtain⟨d,ws,h4,h5,h6⟩:=h3 q hq e he hl
 exact⟨d,ws,h4,ng h5 (by intro z;cases z),h6⟩
theorem qR{T:List Nat}{ps:List Pt}{c:Pt}{e j:Nat}(hc:c∈ps)(h:nT T c e j≠0):nT T (.pick ps) e j≠0:=by
 rw[p8]
 induction ps with
 |nil=>cases hc
 |cons x ps ih=>
  rw[aw,bn]
  rcases aI.mp hc with rfl|hc
  ·ac_nf
  ·have:=ih hc;ac_nf
section
variable{P:aJ}{w:aV}{K:PySem.W.Frag}{mg:Str->Option ae}{base:Heap}{f fi fm fa CD CC CB:Addr}{fd di dm da:aW}
noncomputable def mT(CD CC CB:Addr)(n:Nat):iH:=λps G Q=>∃(ds cn gd dd db dx m pa tb:Addr) (ts:List Addr) (T:List Nat) (p q:Pt) (k e num:Nat) (ow:Addr) (o:Nat->Nat),ps=[.ref ds,.int (num:Int),.ref ow]/\Ds CD CC CB G ds cn gd T p k e dd db dx m pa tb ts/\(makes p)[num]? =some q/\depth q<=n/\e<=T.length/\On G ow (λj=>nT T q e j≠0) o/\k<bM o (bc T q e)/\
 ∀t e' r G',pk o (bc T q e) k=some (t,e',r)->Ds CD CC CB G' ds cn gd T p r e' dd db dx m pa tb ts->Ch [ds,gd] G G'->Q (jM t) G'
theorem vN:bA ["self", "parts", "onward", "mark"] ["self", "parts", "onward"] (aL mF):=⟨rfl,rfl,rfl,by decide+kernel,rfl,by decide+kernel,by decide+kernel⟩
theorem DV:dJ (aL mF) ["self", "parts", "onward", "mark"] (gG [(".0",.local),("part",.local),("self",.free),("onward",.free)]) ["part", "self", "onward"] [none,some 0,some 2] 0 "part" =true:=by decide+kernel
noncomputable def vG(CD CC CB:Addr)(n:Nat):iH:=λas G Q=>∃(ds cn gd dd db dx m pa tb:Addr) (ts:List Addr) (T:List Nat) (p:Pt) (ps:List Pt) (k e num:Nat) (ow:Addr) (o:Nat->Nat),as=[.ref ds,.tup ((cN (num+1) ps).map gh),.ref ow]/\Ds CD CC CB G ds cn gd T p k e dd db dx m pa tb ts/\(makes p)[num]? =some (.pick ps)/\bd ps<=n/\ps.length<=6/\e<=T.length/\On G ow (λj=>nT T (.pick ps) e j≠0) o/\k<bM o (bc T (.pick ps) e)/\
 ∀t e' r G',pk o (bc T (.pick ps) e) k=some (t,e',r)->Ds CD CC CB G' ds cn gd T p r e' dd db dx m pa tb ts->Ch [ds,gd] G G'->Q (jM t) G'
theorem Ao{n k:Nat}(hk:2<=k)(c:Cls K CD)(n1:NoAttr K CD "counts")(n2:NoAttr K CD "guide")(n3:NoAttr K CD "at")(F:Fun K "make_pick" "Descent.make_pick" mF f fd)(B:BN mg)(MS:eS P w K mg base CD 2 "size" fa da ["self", "number", "at", "onward"] (lf CD CC CB))(MC:eS P w K mg base CB 1 "choose" fi di ["self", "sizes"] (kE CB))(MT:eS P w K mg base CD k "make_tree" fm dm ["self", "number", "onward"] (mT CD CC CB n)):i9 P w K mg base (k+1) f fd ["self", "parts", "onward"] (vG CD CC CB n):=by
 have nd:=vN.nd
 refine lu F vN (λvs G Q h=> ?_) (λcdv A outer s H E as G Q hr h=> ?_)
 ·obtain⟨_,_,_,_,_,_,_,_,_,_,_,_,_,_,_,_,_,_,rfl,_⟩:=h
  rfl
 have hU:=fk hr
 apply j3
 case a=>
  symm
  all_goals try (refine' q9 DV rfl ?_ λ_ _ _ _=>⟨?_,?_⟩)
  all_goals symm
 obtain⟨ds,cn,gd,dd,db,dx,m,pa,tb,ts,T,p,ps,k0,e,num,ow,o,rfl,D,hq,hdp,hpl,he,hon,hk0,q⟩:=h
 have trP:bc T (.pick ps) e=fB T ps 0 e:=by unfold bc;rfl
 have hk1:k0<(ps.map λc=>bM o (bc T c e)).sum:=by rw[<-sB (T:=T) (o:=o) (e:=e) ps 0,<-trP];exact hk0
 obtain⟨cm,hcm,hrm,hpk⟩:=zi (T:=T) (o:=o) (e:=e) ps 0 k0 hk1
 exists cH D.ins rfl ?_
 exists⟨⟨gd,db,_,rfl,D.gui,rfl⟩,?_⟩
 left
 intro acc hacc
 have hlP:((cN (num+1) ps).map gh).length=ps.length:=by rw[ak,eN]
 refine⟨λi ys G1=>ys=(ps.take i).map (λc=>gh (bM o (bc T c e)))/\G1=up G acc (.lst ys),⟨by simp,rfl⟩,?_,?_,?_⟩
 ·rintro i ys G1 hi ⟨rfl,rfl⟩
  refine⟨trivial,aj,?_⟩
  rw[ak,bv];ac_nf
 ·rintro i ys G1 x hx ⟨rfl,rfl⟩
  have hxl:=(am.mp hx).1
  rw[hlP]at hxl
  obtain⟨cc,hcc⟩:∃cc,ps[i]? =some cc:=⟨_,al hxl⟩
  obtain⟨j,rfl,hj,_⟩:=gR hq hcc hx
  have ge1:GE G (up G acc (.lst ((ps.take i).map λc=>gh (bM o (bc T c e))))):=GE.refl.new hacc
  have D1:=D.ge ge1
  obtain⟨okv,ho1,ho2⟩:=hon.ge ge1
  refine iK rfl ?_
  exists⟨⟨ds,dd,_,rfl,D1.ins,rfl⟩,?_⟩
  exists cH D1.ins rfl ?_
  exists⟨ds,cn,gd,dd,db,dx,m,pa,tb,ts,T,p,cc,k0,e,j,e,ow,o,rfl,D1,hj,he,⟨okv,ho1,λi hi=>ho2 i (qR (av hcc) hi)⟩,aj,?_,gJ⟩
  rw[bB,hcc,a8]
  rfl
 ·rintro ys G1 ⟨rfl,rfl⟩
  rw[hlP,bi]
  have ge1:GE G (up G acc (.lst (ps.map λc=>gh (bM o (bc T c e))))):=GE.refl.new hacc
  have D1:=D.ge ge1
  exists⟨gd,db,acc,k0,ps.map λc=>bM o (bc T c e),rfl,D1.gui,by rw[aj,bx];rfl,hk1,?_⟩
  have D2:=D1.left (r:=(mw (ps.map λc=>bM o (bc T c e)) k0).2)
  obtain⟨xm,hmx⟩:∃xm,((cN (num+1) ps).map gh)[(mw (ps.map λc=>bM o (bc T c e)) k0).1]? =some xm:=⟨_,al (by rw[hlP];exact(am.mp hcm).1)⟩
  obtain⟨j,ej,hj,_⟩:=gR hq hcm hmx
  rw[ej]at hmx
  have ngo:∀b o',G b=some o'->b≠gd->up (up G acc (.lst (ps.map λc=>gh (bM o (bc T c e))))) gd (.ins CB db [("left",.int ((mw (ps.map λc=>bM o (bc T c e)) k0).2:Nat))]) b=some o':=λb o' hb hn=>by
   rw[aH hn];exact ge1 b o' hb
  obtain⟨okv,ho1,ho2⟩:=hon
  have how:ow≠gd:=λz=>by rw[z]at ho1;simp[j7,D.gui]at ho1
  have ho3:j7 (up (up G acc (.lst (ps.map λc=>gh (bM o (bc T c e))))) gd (.ins CB db [("left",.int ((mw (ps.map λc=>bM o (bc T c e)) k0).2:Nat))])) ow=some okv:=by
   have h1:=yi ge1 ho1
   unfold j7 at h1⊢
   rw[aH how];exact h1
  exists⟨⟨ds,dd,_,rfl,D2.ins,rfl⟩,?_⟩
  exists eO (bF hmx) ?_
  exists⟨ds,cn,gd,dd,db,dx,m,pa,tb,ts,T,p,cm,_,e,j,ow,o,rfl,D2,hj,by have:=fJ (av hcm);ac_nf,he,⟨okv,ho3,λi hi=>ho2 i (qR (av hcm) hi)⟩,hrm,λt e' r G' hp D3 ch=> ?_⟩
  refine⟨cW,_,GE.refl,?_⟩
  refine q (.pick ((mw (ps.map λc=>bM o (bc T c e)) k0).1:Nat) t) e' r G' ?_ D3 ?_
  ·rw[trP,hpk,hp]
   simp
  ·exact((Ch.refl.new hacc).put (by simp)).trans ch
end
noncomputable def o8(T:List Nat)(r:Pt)(o:Nat->Nat)(e:Nat):Nat:=bM o (bc T (.again r) e)
noncomputable def sj(t:Tr)(u:Tr):Tr:= .again (t::pe u)
theorem vf{T:List Nat}{r:Pt}{e:Nat}(hc:bN r=false)(he:e<=T.length):bc T (.again r) e=((bc T r e).flatMap λt=>(bc T (.again r) t.2).map λu=>(sj t.1 u.1,u.2))++[(.again [],e)]:=yG hc he
theorem D9{T:List Nat}{r:Pt}{o:Nat->Nat}{e:Nat}(hc:bN r=false)(he:e<=T.length):o8 T r o e=bM (o8 T r o) (bc T r e)+o e:=by
 unfold o8
 rw[vf hc he,kA,iT (λj=>bc T (.again r) j) sj (bc T r e),fG,gO]
 rfl
theorem E5{T:List Nat}{r:Pt}{o:Nat->Nat}{e k:Nat}(hc:bN r=false)(he:e<=T.length)(hk:k<bM (o8 T r o) (bc T r e)):
  pk o (bc T (.again r) e) k=(pk (o8 T r o) (bc T r e) k).bind λy=>(pk o (bc T (.again r) y.2.1) y.2.2).map λz=>(sj y.1 z.1,z.2):=by
 rw[vf hc he,p7 _ _ _ (by rw[iT (λj=>bc T (.again r) j) sj (bc T r e)];exact hk)]
 exact uw (λj=>bc T (.again r) j) sj (bc T r e) k
theorem E6{T:List Nat}{r:Pt}{o:Nat->Nat}{e k:Nat}(hc:bN r=false)(he:e<=T.length)(hk:¬k<bM (o8 T r o) (bc T r e))(hk2:k<o8 T r o e):
  pk o (bc T (.again r) e) k=some (.again [],e,k-bM (o8 T r o) (bc T r e)):=by
 rw[D9 hc he]at hk2
 rw[vf hc he,na _ _ _ (by rw[iT (λj=>bc T (.again r) j) sj (bc T r e)];exact Nat.le_of_not_lt hk),iT (λj=>bc T (.again r) j) sj (bc T r e)]
 show pk o [(Tr.again [],e)] (k-bM (o8 T r o) (bc T r e))=_
 rw[L3.pk_cons,if_pos (by show k-bM (o8 T r o) (bc T r e)<o e;ac_nf)]
noncomputable def xD(ts:List Tr)(u:Tr):Tr:= .again (ts++pe u)
theorem B9(ts:List Tr)(t u:Tr):xD ts (sj t u)=xD (ts++[t]) u:=by
 unfold xD sj
 show Tr.again (ts++(t::pe u))=_
 rw[eX];rfl
theorem ym{T:List Nat}{r:Pt}(hc:bN r=false):∀(n e0 e e1:Nat),T.length-e0<=n->e0<=T.length->nT T (.again r) e0 e≠0->e<=T.length->nT T r e e1≠0->nT T (.again r) e0 e1≠0:=by
 intro n
 induction n with
 |zero=>
  intro e0 e e1 hn h0 h he h1
  have h2:=tm h
  obtain rfl:e0=e:=by ac_nf
  have h3:e0<e1:=by
   rcases dz e0 e1 with z|z
   ·exact z
   ·exact absurd (jK hc z) h1
  exact absurd (jw h0 (by ac_nf)) h1
 |succ n ih=>
  intro e0 e e1 hn h0 h he h1
  have hlt:e<e1:=by
   rcases dz e e1 with z|z
   ·exact z
   ·exact absurd (jK hc z) h1
  have he1:e1<=T.length:=by
   rcases dz T.length e1 with z|z
   ·exact absurd (jw he z) h1
   ·exact z
  have one:nT T (.again r) e1 e1≠0:=by rw[iy hc he1,if_pos rfl];ac_nf
  have go:∀k,k<=T.length->nT T r e0 k≠0->nT T (.again r) k e1≠0->nT T (.again r) e0 e1≠0:=λk hk a b=>by
   rw[iy hc h0]
   have t:=sI (n:=T.length+1) (f:=λk=>nT T r e0 k*nT T (.again r) k e1) (i:=k) (by ac_nf)
   have:0<nT T r e0 k*nT T (.again r) k e1:=Nat.mul_pos (eK a) (eK b)
   change nT T r e0 k*nT T (.again r) k e1<=_ at t
   ac_nf
  by_cases e2:e0=e
  ·subst e2
   exact go e1 he1 h1 one
  ·rw[iy hc h0,if_neg e2,fN]at h
   obtain⟨k,hk,hz⟩:=mL h
   have a:nT T r e0 k≠0:=λz=>hz (by rw[z,gH])
   have b:nT T (.again r) k e≠0:=λz=>hz (by rw[z,iD])
   have hk0:e0<k:=by
    rcases dz e0 k with z|z
    ·exact z
    ·exact absurd (jK hc z) a
   exact go k (by ac_nf) a (ih k e e1 (by ac_nf) (by ac_nf) b he h1)
section
variable{CD CC CB:Addr}
theorem yV:bA ["self", "number", "onward", "part", "behind", "turns"] ["self", "number", "onward"] (aL mE):=⟨rfl,rfl,rfl,by decide+kernel,rfl,by decide+kernel,by decide+kernel⟩
noncomputable def yN(CD CC CB:Addr)(n:Nat):iH:=λas G Q=>∃(ds cn gd dd db dx m pa tb:Addr) (ts:List Addr) (T:List Nat) (p r:Pt) (k e num:Nat) (ow:Addr) (o:Nat->Nat),as=[.ref ds,.int (num:Int),.ref ow]/\Ds CD CC CB G ds cn gd T p k e dd db dx m pa tb ts/\(makes p)[num]? =some (.again r)/\depth r<=n/\e<=T.length/\On G ow (λj=>nT T (.again r) e j≠0) o/\k<bM o (bc T (.again r) e)/\
 ∀us e' r' G',pk o (bc T (.again r) e) k=some (.again us,e',r')->Ds CD CC CB G' ds cn gd T p r' e' dd db dx m pa tb ts->Ch [ds,gd] G G'->Q (.tup (iL us)) G'
end
section
variable{CD CC CB:Addr}{G G':Gp}{ds cn gd dd db dx m pa tb:Addr}{T:List Nat}{p:Pt}{k e k' e':Nat}{ts:List Addr}
theorem Ds.ch(h:Ds CD CC CB G ds cn gd T p k e dd db dx m pa tb ts)(c:Ch [ds,gd] G G')(h1:G' ds=some (.ins CD dd (zH cn gd e')))(h2:G' gd=some (.ins CB db [("left",.int (k':Int))])):Ds CD CC CB G' ds cn gd T p k' e' dd db dx m pa tb ts:=by
 have ng:∀{b:Addr} {o:MO},G b=some o->o≠ .ins CD dd (zH cn gd e)->o≠ .ins CB db [("left",.int (k:Int))]->G' b=some o:=fun{b o} hb ho ho2=>by
  refine c b o (λz=> ?_) hb
  rcases aI.mp z with z|z
  ·rw[z,h.ins]at hb;cases hb;exact ho rfl
  ·rw[aA.mp z,h.gui]at hb;cases hb;exact ho2 rfl
 refine⟨h1,h2,⟨ng h.tab.ins (by intro z;cases z) (by intro z;cases z),ng h.tab.mks (by intro z;cases z) (by intro z;cases z),ng h.tab.pts (by intro z;cases z) (by intro z;cases z),ng h.tab.tbl (by intro z;cases z) (by intro z;cases z),h.tab.tl,λi t hi=> ?_⟩,h.cs,h.ar⟩
 obtain⟨kvs,h1,h3⟩:=h.tab.row i t hi
 refine⟨kvs,ng h1 (by intro z;cases z) (by intro z;cases z),λq hq e he hl=> ?_⟩
 obtain⟨d,ws,h4,h5,h6⟩:=h3 q hq e he hl
 exact⟨d,ws,h4,ng h5 (by intro z;cases z) (by intro z;cases z),h6⟩
theorem Ks{a:Addr}{kvs:List (Key×PV)}(h:j7 G a=some kvs)(D:Ds CD CC CB G ds cn gd T p k e dd db dx m pa tb ts)(c:Ch [ds,gd] G G'):j7 G' a=some kvs:=by
 have n1:a≠ds:=λz=>by rw[z]at h;simp[j7,D.ins]at h
 have n2:a≠gd:=λz=>by rw[z]at h;simp[j7,D.gui]at h
 cases eg:G a with
 |none=>simp[j7,eg]at h
 |some o=>
  have:=c a o (by simp[n1,n2]) eg
  unfold j7 at h⊢
  rw[eg]at h;rw[this];exact h
theorem On.ch{ow:Addr}{S:Nat->Prop}{o:Nat->Nat}(h:On G ow S o)(D:Ds CD CC CB G ds cn gd T p k e dd db dx m pa tb ts)(c:Ch [ds,gd] G G'):On G' ow S o:=by
 obtain⟨kvs,h1,h2⟩:=h
 exact⟨kvs,Ks h1 D c,h2⟩
theorem On.mono{ow:Addr}{S S':Nat->Prop}{o:Nat->Nat}(h:On G ow S o)(s:∀j,S' j->S j):On G ow S' o:=by
 obtain⟨kvs,h1,h2⟩:=h
 exact⟨kvs,h1,λj hj=>h2 j (s j hj)⟩
theorem ua{ws:Ws}{n:Nat}{f:Nat->Nat}{j:Nat}(h:Wy ws n f):j∈ws.map (·.1)↔f j≠0:=by
 constructor
 ·intro hj
  obtain⟨w,hw,rfl⟩:=aD.mp hj
  obtain⟨i,hi⟩:=iM.mp hw
  obtain⟨k1,k2,k3⟩:=h.key hi
  ac_nf
 ·intro hj
  by_cases e:j∈ws.map (·.1)
  ·exact e
  ·exact absurd (by rw[<-h.val];exact nk e) hj
end
theorem xO{T:List Nat}{p:Pt}{e j:Nat}{t:Tr}(h:(t,j)∈bc T p e):nT T p e j≠0:=by
 have:0<jF (bc T p e) j:=ji.mpr ⟨(t,j),h,by simp⟩
 unfold nT
 ac_nf
theorem Ed{T:List Nat}{r:Pt}(hc:bN r=false):∀(n e0 e e1:Nat),T.length-e0<=n->e0<=T.length->nT T (.again r) e0 e≠0->e<=T.length->nT T (.again r) e e1≠0->nT T (.again r) e0 e1≠0:=by
 intro n
 induction n with
 |zero=>
  intro e0 e e1 hn h0 h he h1
  have h2:=tm h
  obtain rfl:e0=e:=by ac_nf
  exact h1
 |succ n ih=>
  intro e0 e e1 hn h0 h he h1
  by_cases e2:e0=e
  ·subst e2;exact h1
  ·rw[iy hc h0,if_neg e2,fN]at h
   obtain⟨k,hk,hz⟩:=mL h
   have a:nT T r e0 k≠0:=λz=>hz (by rw[z,gH])
   have b:nT T (.again r) k e≠0:=λz=>hz (by rw[z,iD])
   have hk0:e0<k:=by
    rcases dz e0 k with z|z
    ·exact z
    ·exact absurd (jK hc z) a
   have c:=ih k e e1 (by ac_nf) (by ac_nf) b he h1
   rw[iy hc h0]
   have t:=sI (n:=T.length+1) (f:=λk=>nT T r e0 k*nT T (.again r) k e1) (i:=k) (by ac_nf)
   have:0<nT T r e0 k*nT T (.again r) k e1:=Nat.mul_pos (eK a) (eK c)
   change nT T r e0 k*nT T (.again r) k e1<=_ at t
   ac_nf
section
variable{P:aJ}{w:aV}{K:PySem.W.Frag}{mg:Str->Option ae}{base:Heap}{f fi fm fa fp fe CD CC CB:Addr}{fd di dm da dp de:aW}{tTU:Tok}
theorem Cv{n k:Nat}(hk:3<=k)(x0:mg "TURN" =some (.int 0 tTU))(q3:rT K CC "parts")(n1:rT K CD "counts")(n2:rT K CD "guide")(n3:rT K CD "at")(F:Fun K "make_turns" "Descent.make_turns" mE f fd)(B:BN mg)(ME:eS P w K mg base CC 1 "ends_of" fe de ["self", "number", "at"] (ou CC))(MS:eS P w K mg base CD 2 "size" fa da ["self", "number", "at", "onward"] (lf CD CC CB))(MA:eS P w K mg base CD 3 "onward_ahead" fp dp ["self", "number", "places", "onward"] (mW CD CC CB))(MC:eS P w K mg base CB 1 "choose" fi di ["self", "sizes"] (kE CB))(MT:eS P w K mg base CD k "make_tree" fm dm ["self", "number", "onward"] (mT CD CC CB n)):i9 P w K mg base (k+1) f fd ["self", "number", "onward"] (yN CD CC CB n):=by
 have nd:=yV.nd
 refine lu F yV (λvs G Q h=> ?_) (λcdv A outer s H E as G Q hr h=> ?_)
 ·obtain⟨_,_,_,_,_,_,_,_,_,_,_,_,_,_,_,_,_,_,rfl,_⟩:=h
  rfl
 have hU:=fk hr
 apply j3
 case a=>symm
 obtain⟨ds,cn,gd,dd,db,dx,m,pa,tb,ts,T,p,r,k0,e,num,ow,o,rfl,D,hq,hdp,he,hon,hk0,q⟩:=h
 have hc:bN r=false:=D.cs.ag r (av hq)
 obtain⟨j,ej,hj,hnj⟩:=gR (i:=0) (cc:=r) hq rfl rfl
 have hj1:j=num+1:=iW.mp (PV.int.inj ej).symm
 have hLT:=D.cs.len
 exists cH D.ins rfl ?_
 exists cH D.tab.ins rfl ?_
 exists cj (aM D.tab.pts) (bF (fQ hq)) ?_
 exists eO (x:= .int (j:Int)) (by rw[hj1];rfl) ?_
 exists⟨⟨ds,dd,_,rfl,D.ins,rfl⟩,?_⟩
 exists cH D.ins rfl ?_
 exists⟨⟨cn,dx,_,rfl,D.tab.ins,rfl⟩,?_⟩
 exists cH D.ins rfl ?_
 exists⟨cn,dx,m,pa,tb,ts,T,p,.again r,num,e,rfl,D.tab,hq,he,λd ws gd' wy=> ?_⟩
 exists zr (nJ gd') λpl hpl=> ?_
 rw[jN]
 have ge1:GE G (up G pl (.lst (ws.map λw=>PV.int (w.1:Int)))):=GE.refl.new hpl
 have hwl:=wy.len
 exists⟨ds,cn,gd,dd,db,dx,m,pa,tb,ts,T,p,.again r,k0,e,num,pl,ow,ws.map (·.1),o,rfl,D.ge ge1,hq,by rw[aj,bx];rfl,by rw[ak];ac_nf,λi hi=> ?_,(hon.ge ge1).mono λi ⟨i',h1,h2⟩=> ?_,λbh G2 hbh oX hbo=> ?_⟩
 ·have h1:=(ua wy).mp hi
  rcases dz T.length i with z|z
  ·exact absurd (jw he z) h1
  ·exact z
 ·have h3:=(ua wy).mp h1
  refine Ed hc _ e i' i (ao _) he h3 ?_ h2
  rcases dz T.length i' with z|z
  ·exact absurd (jw he z) h3
  ·exact z
 have ge3:GE G G2:=ge1.trans oX
 have D2:=D.ge ge3
 have hbo2:On G2 bh (λj=>nT T (.again r) e j≠0) (o8 T r o):=hbo.mono λj hj=>(ua wy).mpr hj
 have hon2:=hon.ge ge3
 exists⟨ba rfl,λtn htn=> ?_⟩
 left
 have at0:nT T (.again r) e e≠0:=by rw[iy hc he,if_pos rfl];ac_nf
 refine⟨λmm τ G1=>∃(us:List Tr) (k1 e1:Nat),τ=[some (.ref ds),some (.int (num:Int)),some (.ref ow),some (.int (j:Int)),some (.ref bh),some (.ref tn)]/\G1 ds=some (.ins CD dd (zH cn gd e1))/\G1 gd=some (.ins CB db [("left",.int (k1:Int))])/\G1 tn=some (.lst (iL us))/\Ch [ds,gd] G2 G1/\nT T (.again r) e e1≠0/\k1<o8 T r o e1/\us.length+e<=e1/\T.length-e1=mm/\pk o (bc T (.again r) e) k0=(pk o (bc T (.again r) e1) k1).map λz=>(xD us z.1,z.2),⟨T.length-e,[],k0,e,rfl,by rw[aH (aX D2.ins htn)];exact D2.ins,by rw[aH (aX D2.gui htn)];exact D2.gui,aj,Ch.refl.new htn,at0,hk0,by simp,rfl,?_⟩,?_⟩
 ·obtain⟨a,e',r',h1,h2,_⟩:=p0 (o:=o) (bc T (.again r) e) k0 hk0
  obtain⟨x,_,hx⟩:=aD.mp (show(a,e')∈(Eh (bc T r) (T.length+1-e) e).map (λs=>(Tr.again s.1,s.2))from by unfold bc at h2;exact h2)
  obtain rfl:Tr.again x.1=a:=congrArg Prod.fst hx
  rw[h1];rfl
 rintro mm τ G1 ⟨us,k1,e1,rfl,g1,g2,g3,ch,hat,hk1,hul,hmm,hpk⟩
 have D3:=D2.ch ch g1 g2
 have hbo3:=hbo2.ch D2 ch
 obtain⟨okv,ho1,ho2⟩:=hon2.ch D2 ch
 have he1:e1<=T.length:=by
  rcases dz T.length e1 with z|z
  ·exact absurd (jw he z) hat
  ·exact z
 have hsum:o8 T r o e1=bM (o8 T r o) (bc T r e1)+o e1:=D9 hc he1
 exists cH g1 rfl ?_
 exists⟨⟨gd,db,_,rfl,g2,rfl⟩,?_⟩
 exists⟨⟨ds,dd,_,rfl,g1,rfl⟩,?_⟩
 exists cH g1 rfl ?_
 exists⟨ds,cn,gd,dd,db,dx,m,pa,tb,ts,T,p,r,k1,e1,j,e1,bh,o8 T r o,rfl,D3,hj,he1,hbo3.mono λi hi=>ym hc _ e e1 i (ao _) he hat he1 hi,?_⟩
 exists⟨rb ho1,?_⟩
 exists cH g1 rfl ?_
 exists uO ho1 rfl ?_
 rw[ho2 e1 hat]
 exists⟨ba rfl,λsz hsz=> ?_⟩
 left
 have ge4:GE G1 (up G1 sz (.lst [.int (bM (o8 T r o) (bc T r e1):Nat),.int (o e1:Nat)])):=GE.refl.new hsz
 refine⟨gd,db,sz,k1,[bM (o8 T r o) (bc T r e1),o e1],rfl,ge4 _ _ g2,aj,by rw[hsum]at hk1;simpa using hk1,?_⟩
 have ndg:ds≠gd:=λz=>by rw[z,g2]at g1;cases g1
 have gt1:∀(x:Nat),up (up G1 sz (.lst [.int (bM (o8 T r o) (bc T r e1):Nat),.int (o e1:Nat)])) gd (.ins CB db [("left",.int (x:Int))]) ds=some (.ins CD dd (zH cn gd e1)):=λx=>by rw[aH ndg];exact ge4 _ _ g1
 have ntg:tn≠gd:=λz=>by rw[z,g2]at g3;cases g3
 have ntd:tn≠ds:=λz=>by rw[z,g1]at g3;cases g3
 have gt3:∀(x:Nat),up (up G1 sz (.lst [.int (bM (o8 T r o) (bc T r e1):Nat),.int (o e1:Nat)])) gd (.ins CB db [("left",.int (x:Int))]) tn=some (.lst (iL us)):=λx=>by rw[aH ntg];exact ge4 _ _ g3
 have ch4:∀(x:Nat),Ch [ds,gd] G2 (up (up G1 sz (.lst [.int (bM (o8 T r o) (bc T r e1):Nat),.int (o e1:Nat)])) gd (.ins CB db [("left",.int (x:Int))])):=λx=>((ch.new hsz).put (by simp))
 by_cases hcs:k1<bM (o8 T r o) (bc T r e1)
 ·rw[show mw [bM (o8 T r o) (bc T r e1),o e1] k1=(0,k1)from by rw[jS,if_pos hcs]]
  have D4:=D2.ch (ch4 k1) (gt1 k1) aj
  have hbo4:=hbo2.ch D2 (ch4 k1)
  exists⟨rfl,rfl,?_⟩
  exists iK rfl ?_
  exists⟨⟨_,gt3 k1⟩,?_⟩
  exists⟨⟨ds,dd,_,rfl,gt1 k1,rfl⟩,?_⟩
  exists⟨ds,cn,gd,dd,db,dx,m,pa,tb,ts,T,p,r,k1,e1,j,bh,o8 T r o,rfl,D4,hj,hdp,he1,hbo4.mono λi hi=>ym hc _ e e1 i (ao _) he hat he1 hi,hcs,λt e' r' G5 hp D5 ch5=> ?_⟩
  have ch6:=(ch4 k1).trans ch5
  have gt5:G5 tn=some (.lst (iL us)):=ch5 tn _ (by simp[ntg,ntd]) (gt3 k1)
  obtain⟨t',e'',r'',hp2,hm2,hr2⟩:=p0 (o:=o8 T r o) (bc T r e1) k1 hcs
  rw[hp]at hp2
  cases hp2
  have hgt:e1<e':=kB T r e1 hc _ hm2
  have hle:e'<=T.length:=g9 T r e1 he1 _ hm2
  exists gW gt5 (by rw[i5,ak];ac_nf) ?_
  refine⟨T.length-e',by ac_nf,us++[t],r',e',rfl,by rw[aH (aG ntd)];exact D5.ins,by rw[aH (aG ntg)];exact D5.gui,by rw[aj,kT];rfl,ch6.mod' htn,ym hc _ e e1 e' (ao _) he hat he1 (xO hm2),hr2,by rw[aP];simp only[List.length_singleton];ac_nf,rfl,?_⟩
  rw[hpk,E5 hc he1 hcs,hp]
  show Option.map _ (Option.map _ _)=_
  rw[Option.map_map]
  congr 1
  funext z
  show(xD us (sj t z.1),z.2)=_
  rw[B9]
 ·rw[show mw [bM (o8 T r o) (bc T r e1),o e1] k1=(1,k1-bM (o8 T r o) (bc T r e1))from by rw[jS,if_neg hcs,jS,if_pos (by rw[hsum]at hk1;ac_nf)]]
  exists⟨rfl,rfl,?_⟩
  exists nX rfl ?_
  exists qt (aM (gt3 _)) ?_
  refine⟨_,GE.refl,q us e1 (k1-bM (o8 T r o) (bc T r e1)) _ ?_ (D2.ch (ch4 _) (gt1 _) aj) (ge3.ch.trans (ch4 _))⟩
  rw[hpk,E6 hc he1 hcs hk1]
  show some (xD us (Tr.again []),_,_)=_
  unfold xD
  simp[pe]
end
noncomputable def wT(T:List Nat):List Pt->Nat->Nat->Prop
 |[],e,j=>e=j
 |p::ps,e,j=>∃i,nT T p e i≠0/\wT T ps i j
theorem vi{T:List Nat}:∀(ps qs:List Pt) (e j:Nat),wT T (ps++qs) e j↔∃i,wT T ps e i/\wT T qs i j
 |[],qs,e,j=>⟨λh=>⟨e,rfl,h⟩,λ⟨i,h1,h2⟩=>by obtain rfl:e=i:=h1;exact h2⟩
 |p::ps,qs,e,j=>by
  constructor
  ·rintro⟨i,h1,h2⟩
   obtain⟨i2,h3,h4⟩:=(vi ps qs i j).mp h2
   exact⟨i2,⟨i,h1,h3⟩,h4⟩
  ·rintro⟨i,⟨i2,h1,h2⟩,h3⟩
   exact⟨i2,h1,(vi ps qs i2 j).mpr ⟨i,h2,h3⟩⟩
theorem nU{T:List Nat}{ps:List Pt}{c:Pt}{k e j:Nat}(hc:ps[k]? =some c):wT T (ps.take (k+1)) e j↔∃i,wT T (ps.take k) e i/\nT T c i j≠0:=by
 rw[bB,hc]
 show wT T (ps.take k++[c]) e j↔_
 rw[vi]
 constructor
 ·rintro⟨i,h1,i2,h2,h3⟩
  obtain rfl:i2=j:=h3
  exact⟨i,h1,h2⟩
 ·rintro⟨i,h1,h2⟩
  exact⟨i,h1,j,h2,rfl⟩
theorem xP{T:List Nat}{p:Pt}{e j:Nat}:nT T p e j≠0↔∃t,(t,j)∈bc T p e:=by
 constructor
 ·intro h
  obtain⟨x,hx,hp⟩:=ji.mp (eK (show(bc T p e).countP (λs=>s.2==j)≠0 from h))
  obtain rfl:x.2=j:=by simpa using hp
  exact⟨x.1,hx⟩
 ·rintro⟨t,h⟩
  exact xO h
theorem rP{T:List Nat}:∀(ps:List Pt) (e j:Nat),(∃u,(u,j)∈fZ T ps e)↔wT T ps e j
 |[],e,j=>by
  unfold fZ wT
  constructor
  ·rintro⟨u,h⟩
   have:=aA.mp h
   exact(congrArg Prod.snd this).symm
  ·rintro rfl
   exact⟨[],aA.mpr rfl⟩
 |p::ps,e,j=>by
  unfold fZ
  constructor
  ·rintro⟨u,h⟩
   obtain⟨t,ht,h2⟩:=ce.mp h
   obtain⟨v,hv,h3⟩:=aD.mp h2
   obtain rfl:v.2=j:=congrArg Prod.snd h3
   exact⟨t.2,xP.mpr ⟨t.1,ht⟩,(rP ps t.2 v.2).mp ⟨v.1,hv⟩⟩
  ·rintro⟨i,h1,h2⟩
   obtain⟨t,ht⟩:=xP.mp h1
   obtain⟨u,hu⟩:=(rP ps i j).mpr h2
   exact⟨t::u,ce.mpr ⟨(t,i),ht,aD.mpr ⟨(u,j),hu,rfl⟩⟩⟩
theorem xN{T:List Nat}{ps:List Pt}{e j:Nat}:nT T (.row ps) e j≠0↔wT T ps e j:=by
 rw[xP,<-rP,mK]
 constructor
 ·rintro⟨t,h⟩
  obtain⟨s,hs,h2⟩:=aD.mp h
  obtain rfl:s.2=j:=congrArg Prod.snd h2
  exact⟨s.1,hs⟩
 ·rintro⟨u,h⟩
  exact⟨.row u,aD.mpr ⟨(u,j),h,rfl⟩⟩
theorem o9{T:List Nat}:∀(ps:List Pt) (e j:Nat),e<=T.length->wT T ps e j->j<=T.length
 |[],e,j,he,h=>by obtain rfl:e=j:=h;exact he
 |p::ps,e,j,he,⟨i,h1,h2⟩=>by
  refine o9 ps i j ?_ h2
  rcases dz T.length i with z|z
  ·exact absurd (jw he z) h1
  ·exact z
noncomputable def At(ws ms:Ws):Ws:=ms.foldl (λacc w=>je acc w.1 w.2) ws
theorem zh:∀(ws:Ws) (j c x:Nat),x∈(je ws j c).map (·.1)↔x=j\/x∈ws.map (·.1)
 |[],j,c,x=>by simp[je]
 |w::ws,j,c,x=>by
  have ih:=zh ws j c x
  unfold je
  split
  ·rename_i h
   rw[aw,aw,aI,aI]
   constructor
   ·rintro(h1|h1)
    ·exact .inl h1
    ·exact .inr (.inr h1)
   ·rintro(h1|h1|h1)
    ·exact .inl h1
    ·exact .inl (by rw[h1];first|exact h|exact h.symm)
    ·exact .inr h1
  ·rw[aw,aw,aI,aI,ih]
   constructor
   ·rintro(h1|h1|h1)
    ·exact .inr (.inl h1)
    ·exact .inl h1
    ·exact .inr (.inr h1)
   ·rintro(h1|h1|h1)
    ·exact .inr (.inl h1)
    ·exact .inl h1
    ·exact .inr (.inr h1)
theorem zp:∀(ms ws:Ws) (x:Nat),x∈(At ws ms).map (·.1)↔x∈ws.map (·.1)\/x∈ms.map (·.1)
 |[],ws,x=>by simp[At]
 |m::ms,ws,x=>by
  show x∈(At (je ws m.1 m.2) ms).map (·.1)↔_
  rw[zp ms,zh,aw,aI]
  constructor
  ·rintro((h|h)|h)
   ·exact .inr (.inl h)
   ·exact .inl h
   ·exact .inr (.inr h)
  ·rintro(h|h|h)
   ·exact .inl (.inr h)
   ·exact .inl (.inl h)
   ·exact .inr h
theorem zo:∀(ms ws:Ws),(ws.map (·.1)).Nodup->((At ws ms).map (·.1)).Nodup
 |[],ws,h=>h
 |m::ms,ws,h=>zo ms _ (lg h)
theorem v7:∀(ms ws:Ws),(ws.map (·.1)).Nodup->Au (fc ws) (fc ms)=fc (At ws ms)
 |[],ws,h=>rfl
 |m::ms,ws,h=>by
  show Au (iu (fc ws) (.inl (m.1:Int)) (.int (m.2:Int))) (fc ms)=_
  rw[qH ws m.1 m.2 h]
  exact v7 ms _ (lg h)
theorem oa{T:List Nat}{o:Nat->Nat}{p:Pt}{ps:List Pt}{e:Nat}:bM (λj=>bM o (fZ T ps j)) (bc T p e)=bM o (fZ T (p::ps) e):=by
 conv=>rhs;unfold fZ
 exact(iT (λj=>fZ T ps j) (fun(t:Tr) (u:List Tr)=>t::u) (bc T p e)).symm
theorem E7{T:List Nat}{o:Nat->Nat}{p:Pt}{ps:List Pt}{e k:Nat}:pk o (fZ T (p::ps) e) k=(pk (λj=>bM o (fZ T ps j)) (bc T p e) k).bind λy=>(pk o (fZ T ps y.2.1) y.2.2).map λz=>(y.1::z.1,z.2):=by
 conv=>lhs;unfold fZ
 exact uw (λj=>fZ T ps j) (fun(t:Tr) (u:List Tr)=>t::u) (bc T p e) k
section
variable{P:aJ}{w:aV}{K:PySem.W.Frag}{mg:Str->Option ae}{base:Heap}{f fm fp fe CD CC CB:Addr}{fd dm dp de:aW}
theorem y0:bA ["self", "parts", "onward", "begins", "part", "found", "place", "onwards", "k"] ["self", "parts", "onward"] (aL qk):=⟨rfl,rfl,rfl,by decide+kernel,rfl,by decide+kernel,by decide+kernel⟩
noncomputable abbrev kMR:er:=gG [(".0",.local),("part",.local),("behind",.local),("self",.free)]
theorem GL:dJ (aL qk) ["self", "parts", "onward", "begins", "part", "found", "place", "onwards", "k"] kMR ["part", "behind", "self"] [none,none,some 0] 0 "part" =true:=by decide+kernel
theorem Kt:ip kMR ["part", "behind", "self"] [none,none,some 0] 1 "behind" :=⟨rfl,by decide+kernel,rfl⟩
theorem BZ{n:Nat}:HT.sIx n n (some (-1))=n-1:=by
 show(if(-1:Int)<0 then((-1:Int)+(n:Int)).toNat else min (-1:Int).toNat n)=_
 rw[if_pos (by decide)]
 ac_nf
theorem On.up{G:Gp}{a b:Addr}{S:Nat->Prop}{o:Nat->Nat}{u:MO}(h:On G a S o)(n:a≠b):On (up G b u) a S o:=by
 obtain⟨kvs,h1,h2⟩:=h
 exact⟨kvs,by unfold j7 at h1⊢;rw[aH n];exact h1,h2⟩
theorem On.mono'{G:Gp}{a:Addr}{S S':Nat->Prop}{o o':Nat->Nat}(h:On G a S o)(s:∀j,S' j->S j)(e:∀j,o j=o' j):On G a S' o':=by
 obtain⟨kvs,h1,h2⟩:=h
 exact⟨kvs,h1,λj hj=>by rw[<-e j];exact h2 j (s j hj)⟩
noncomputable def Onw(G:Gp)(T:List Nat)(ps:List Pt)(e:Nat)(o:Nat->Nat)(os:List Addr):Prop:=∀(i:Nat) (a:Addr),os[i]? =some a->On G a (λj=>wT T (ps.take (ps.length-i)) e j) (λj=>bM o (fZ T (ps.drop (ps.length-i)) j))
noncomputable def Bg(G:Gp)(T:List Nat)(ps:List Pt)(e:Nat)(bg:Addr)(bs:List Addr):Prop:=∀(i:Nat) (b:Addr),bs[i]? =some b->b≠bg/\∃js:List Nat,G b=some (.lst (js.map gh))/\js.length<=10000/\∀j,j∈js↔wT T (ps.take i) e j
noncomputable def yO(CD CC CB:Addr)(n:Nat):iH:=λas G Q=>∃(ds cn gd dd db dx m pa tb:Addr) (ts:List Addr) (T:List Nat) (p:Pt) (ps:List Pt) (k e num:Nat) (ow:Addr) (o:Nat->Nat),as=[.ref ds,.tup ((cN (num+1) ps).map gh),.ref ow]/\Ds CD CC CB G ds cn gd T p k e dd db dx m pa tb ts/\(makes p)[num]? =some (.row ps)/\bd ps<=n/\e<=T.length/\On G ow (λj=>nT T (.row ps) e j≠0) o/\k<bM o (bc T (.row ps) e)/\
 ∀us e' r G',pk o (fZ T ps e) k=some (us,e',r)->Ds CD CC CB G' ds cn gd T p r e' dd db dx m pa tb ts->Ch [ds,gd] G G'->Q (.tup (iL us)) G'
theorem CQ{n k:Nat}(hk:3<=k)(n1:rT K CD "counts")(n2:rT K CD "guide")(n3:rT K CD "at")(F:Fun K "make_row" "Descent.make_row" qk f fd)(B:BN mg)(ME:eS P w K mg base CC 1 "ends_of" fe de ["self", "number", "at"] (ou CC))(MA:eS P w K mg base CD 3 "onward_ahead" fp dp ["self", "number", "places", "onward"] (mW CD CC CB))(MT:eS P w K mg base CD k "make_tree" fm dm ["self", "number", "onward"] (mT CD CC CB n)):i9 P w K mg base (k+1) f fd ["self", "parts", "onward"] (yO CD CC CB n):=by
 have nd:=y0.nd
 refine lu F y0 (λvs G Q h=> ?_) (λcdv A outer s H E as G Q hr h=> ?_)
 ·obtain⟨_,_,_,_,_,_,_,_,_,_,_,_,_,_,_,_,_,_,rfl,_⟩:=h
  rfl
 have hU:=fk hr
 apply j3
 case a=>
  symm
  all_goals try (refine' jY GL Kt rfl ?_ λ_ _ _ _=>⟨?_,?_⟩)
  all_goals symm
 obtain⟨ds,cn,gd,dd,db,dx,m,pa,tb,ts,T,p,ps,k0,e,num,ow,o,rfl,D,hq,hdp,he,hon,hk0,q⟩:=h
 have hLT:=D.cs.len
 obtain⟨hp1,hp6⟩:=D.ar _ (av hq)
 have hlP:((cN (num+1) ps).map gh).length=ps.length:=by rw[ak,eN]
 exists cH D.ins rfl ?_
 exists⟨ba rfl,λb0 hb0=> ?_⟩
 exists⟨ba rfl,λbg hbg=> ?_⟩
 left
 have hbgn:=eI hbg
 have hcut:sh ((cN (num+1) ps).map gh) none (some (-1))=((cN (num+1) ps).map gh).take (ps.length-1):=by
  unfold sh
  rw[hlP,HT.sIx_none]
  show List.take (HT.sIx ps.length ps.length (some (-1))-0) (List.drop 0 _)=_
  rw[List.drop_zero]
  rw[BZ]
  rfl
 refine⟨?_,?_⟩
 ·rw[hlP]
  rintro⟨_,h2⟩
  rw[BZ]at h2
  ac_nf
 rw[hcut]
 exists⟨λi τ G1=>∃(bs:List Addr) (t4 t5 t6:Option PV),τ=[some (.ref ds),some (.tup ((cN (num+1) ps).map gh)),some (.ref ow),some (.ref bg),t4,t5,t6,none,none]/\G1 bg=some (.lst (bs.map PV.ref))/\bs.length=i+1/\Bg G1 T ps e bg bs/\GE G G1,⟨[b0],none,none,none,rfl,aj,rfl,?_,(GE.refl.new hb0).new hbg⟩,?_,?_,?_⟩
 ·intro i b hi
  cases i with
  |zero=>
   cases hi
   exact⟨aG hbgn.1,[e],by rw[aH (aG hbgn.1),aj];rfl,by simp,λj=>by rw[aA];exact⟨λz=>z.symm,λz=>z.symm⟩⟩
  |succ i=>cases hi
 ·intros;trivial
 ·rintro i x τ G1 hx ⟨bs,t4,t5,t6,rfl,gb,hbl,hB,ge⟩
  rw[List.getElem?_take]at hx
  split at hx
  case isFalse=>cases hx
  rename_i hil
  obtain⟨cc,hcc⟩:∃cc,ps[i]? =some cc:=⟨_,al (by ac_nf)⟩
  obtain⟨jn,rfl,hj,_⟩:=gR hq hcc hx
  left
  intro fo hfo
  obtain⟨b,hb⟩:∃b,bs[i]? =some b:=⟨_,al (by ac_nf)⟩
  obtain⟨nbg,js,gjs,hjl,hjs⟩:=hB i b hb
  have hlast:bs=bs.take i++[b]:=by
   have:=dF i bs
   rw[eP (by ac_nf),List.drop_eq_nil_of_le (by ac_nf)]at this
   rw[al (by ac_nf)]at hb
   cases hb
   exact this.symm
  have nbf:b≠fo:=aX gjs hfo
  have ngf:bg≠fo:=aX gb hfo
  exists cj (x:= .ref b) (aM (show up G1 fo (.dK []) bg=_ from by rw[aH ngf];exact gb)) (by rw[hlast,a8];exact rN _ _) ?_
  left
  rw[aM (show up G1 fo (.dK []) b=_ from by rw[aH nbf];exact gjs)]
  exists⟨λi2 τ G2=>∃(ws:Ws) (t6:Option PV),τ=[some (.ref ds),some (.tup ((cN (num+1) ps).map gh)),some (.ref ow),some (.ref bg),some (.int (jn:Int)),some (.ref fo),t6,none,none]/\G2=up G1 fo (.dK (fc ws))/\(ws.map (·.1)).Nodup/\∀x,x∈ws.map (·.1)↔∃j∈js.take i2,nT T cc j x≠0,⟨[],t6,rfl,rfl,by simp,by simp⟩,?_,?_,?_⟩
  ·rintro i2 τ G2 _ ⟨ws,t6,rfl,rfl,_⟩
   exact aM (by rw[aH nbf];exact gjs)
  ·rintro i2 x τ G2 hx2 ⟨ws,t6,rfl,rfl,hnd,hmem⟩
   rw[aC]at hx2
   cases ej:js[i2]? with
   |none=>rw[ej]at hx2;cases hx2
   |some j=>
    rw[ej]at hx2
    cases hx2
    have hjm:wT T (ps.take i) e j:=(hjs j).mp (av ej)
    have hjT:=o9 _ _ _ he hjm
    have oX:GE G (up G1 fo (.dK (fc ws))):=ge.new hfo
    have D2:=D.ge oX
    exists⟨rb (jR aj),?_⟩
    exists cH D2.ins rfl ?_
    exists⟨⟨cn,dx,_,rfl,D2.tab.ins,rfl⟩,?_⟩
    exists⟨cn,dx,m,pa,tb,ts,T,p,cc,jn,j,rfl,D2.tab,hj,hjT,λd ms gd' wy=> ?_⟩
    have nfd:fo≠d:=λz=>by rw[<-z,aj]at gd';cases gd'
    have hm1:∀x∈ws.map (·.1),x<T.length+1:=λx hx=>by
     obtain⟨j',hj',h2⟩:=(hmem x).mp hx
     rcases dz T.length x with z|z
     ·exact absurd (jw (o9 _ _ _ he ((hjs j').mp (mB hj'))) z) h2
     ·ac_nf
    have hl1:=ni _ _ hnd hm1
    have hl2:=wy.len
    exists HH aj (nJ gd') nfd ?_ ?_
    ·unfold fc
     rw[ak]at hl1
     rw[ak,ak];ac_nf
    rw[v7 ms ws hnd,gJ]
    refine⟨At ws ms,_,rfl,rfl,zo ms ws hnd,λx=> ?_⟩
    rw[zp,hmem,ua wy,bB,ej]
    constructor
    ·rintro(⟨j',h1,h2⟩|h1)
     ·exact⟨j',bo.mpr (.inl h1),h2⟩
     ·exact⟨j,bo.mpr (.inr (by simp)),h1⟩
    ·rintro⟨j',h1,h2⟩
     rcases bo.mp h1 with h1|h1
     ·exact .inl ⟨j',h1,h2⟩
     ·obtain rfl:j'=j:=by simpa using h1
      exact .inr h2
  ·rintro τ G2 ⟨ws,t6,rfl,rfl,hnd,hmem⟩
   rw[ak,bi]at hmem
   have gb2:up G1 fo (.dK (fc ws)) bg=some (.lst (bs.map PV.ref)):=by rw[aH ngf];exact gb
   exists⟨⟨_,gb2⟩,?_⟩
   exists zr (jR aj) λnl hnl=> ?_
   rw[jN]
   have nbn:bg≠nl:=aX gb2 hnl
   exists gW (by rw[aH nbn];exact gb2) (by rw[ak];ac_nf) ?_
   have geS:GE G1 (up (up G1 fo (.dK (fc ws))) nl (.lst (ws.map λw=>PV.int (w.1:Int)))):=(GE.refl.new hfo).new hnl
   have hbg0:G bg=none:=(eI hbg).2
   refine⟨bs++[nl],_,_,_,rfl,by rw[aj,a8];rfl,by rw[aP,hbl];rfl,?_,(ge.trans geS).mod hbg0⟩
   intro i' b' hb'
   by_cases hlt:i'<bs.length
   ·rw[bW hlt]at hb'
    obtain⟨n1',js',g',l',m'⟩:=hB i' b' hb'
    exact⟨n1',js',by rw[aH n1'];exact geS _ _ g',l',m'⟩
   ·rw[bS (by ac_nf)]at hb'
    have hz:i'-bs.length=0:=by
     rcases Nat.eq_zero_or_pos (i'-bs.length)with z|z
     ·exact z
     ·rw[cO (by simp;ac_nf)]at hb';cases hb'
    obtain rfl:i'=i+1:=by ac_nf
    rw[hz]at hb'
    cases hb'
    have hm1:∀x∈ws.map (·.1),x<T.length+1:=λx hx=>by
     obtain⟨j',hj',h2⟩:=(hmem x).mp hx
     rcases dz T.length x with z|z
     ·exact absurd (jw (o9 _ _ _ he ((hjs j').mp hj')) z) h2
     ·ac_nf
    refine⟨aG nbn,ws.map (·.1),by rw[aH (aG nbn),aj,bx];rfl,by have:=ni _ _ hnd hm1;ac_nf,λj=> ?_⟩
    rw[hmem,nU hcc]
    exact⟨λ⟨j',h1,h2⟩=>⟨j',(hjs j').mp h1,h2⟩,λ⟨j',h1,h2⟩=>⟨j',(hjs j').mpr h1,h2⟩⟩
 rintro τ G1 ⟨bs,t4,t5,t6,rfl,gb,hbl,hB,ge⟩
 rw[bv,hlP,Nat.min_eq_left (by ac_nf)]at hbl
 exists⟨ba rfl,λon hno=> ?_⟩
 left
 have hng:bg≠on:=aX gb hno
 have ge0:GE G1 (up G1 on (.lst [.ref ow])):=GE.refl.new hno
 refine xW ?_
 left
 rw[hlP]
 refine⟨rfl,⟨by ac_nf,by ac_nf,by ac_nf,by ac_nf⟩,?_⟩
 have hdl:(jP ((ps.length:Int)-1) (((ps.length:Int)-1)-0).toNat).length=ps.length-1:=by unfold jP;simp
 refine⟨λi τ G2=>∃(os:List Addr) (t8:Option PV),τ=[some (.ref ds),some (.tup ((cN (num+1) ps).map gh)),some (.ref ow),some (.ref bg),t4,t5,t6,some (.ref on),t8]/\G2 on=some (.lst (os.map PV.ref))/\os.length=i+1/\Onw G2 T ps e o os/\GE G1 G2,⟨[ow],none,rfl,aj,rfl,?_,ge0⟩,?_,?_,?_⟩
 ·intro i a hi
  cases i with
  |zero=>
   cases hi
   rw[Nat.sub_zero,bi,List.drop_length]
   refine((hon.ge ge).ge ge0).mono' (λj hj=>xN.mpr hj) λj=> ?_
   show o j=bM o [(([]:List Tr),j)]
   rw[fG,gO];rfl
  |succ i=>cases hi
 ·intros;trivial
 ·rintro i x τ G2 hx ⟨os,t8,rfl,go,hol,hO,oX⟩
  have hil:=(am.mp hx).1
  rw[hdl]at hil
  have ex:x= .int ((ps.length-1-i:Nat):Int):=by
   unfold jP at hx
   rw[aC,dB (by ac_nf)]at hx
   cases hx
   show PV.int ((ps.length:Int)-1-(i:Int))=PV.int ((ps.length-1-i:Nat):Int)
   rw[show((ps.length-1-i:Nat):Int)=(ps.length:Int)-1-(i:Int)by ac_nf]
  subst ex
  obtain⟨cc,hcc⟩:∃cc,ps[ps.length-1-i]? =some cc:=⟨_,al (by ac_nf)⟩
  obtain⟨xm,hmx⟩:∃xm,((cN (num+1) ps).map gh)[ps.length-1-i]? =some xm:=⟨_,al (by rw[hlP];ac_nf)⟩
  obtain⟨jn,ej,hj,_⟩:=gR hq hcc hmx
  rw[ej]at hmx
  obtain⟨b,hb⟩:∃b,bs[ps.length-1-i]? =some b:=⟨_,al (by ac_nf)⟩
  obtain⟨nbg,js,gjs,hjl,hjs⟩:=hB _ b hb
  obtain⟨a,ha⟩:∃a,os[i]? =some a:=⟨_,al (by ac_nf)⟩
  have hlast:os=os.take i++[a]:=by
   have:=dF i os
   rw[eP (by ac_nf),List.drop_eq_nil_of_le (by ac_nf)]at this
   rw[al (by ac_nf)]at ha
   cases ha
   exact this.symm
  have D2:=(D.ge ge).ge oX
  have hOa:=hO i a ha
  exists⟨⟨_,go⟩,?_⟩
  exists⟨⟨ds,dd,_,rfl,D2.ins,rfl⟩,?_⟩
  exists eO (bF hmx) ?_
  exists cj (x:= .ref b) (aM (oX _ _ gb)) (bF (by rw[aC,hb];rfl)) ?_
  exists cj (x:= .ref a) (aM go) (by rw[hlast,a8];exact rN _ _) ?_
  left
  have e1:ps.length-i=ps.length-1-i+1:=by ac_nf
  refine⟨ds,cn,gd,dd,db,dx,m,pa,tb,ts,T,p,cc,k0,e,jn,b,a,js,λj=>bM o (fZ T (ps.drop (ps.length-i)) j),rfl,D2,hj,oX _ _ gjs,hjl,λj hjm=>o9 _ _ _ he ((hjs j).mp hjm),hOa.mono λx ⟨j,h1,h2⟩=>by rw[e1,nU hcc];exact⟨j,(hjs j).mp h1,h2⟩,λc G3 hc ge3 hon3=> ?_⟩
  have gno:G3 on=some (.lst (os.map PV.ref)):=ge3 _ _ go
  have nco:c≠on:=λz=>by
   obtain⟨kvs,h1,_⟩:=hon3
   rw[z]at h1
   simp[j7,gno]at h1
  exists gW gno (by rw[ak];ac_nf) ?_
  refine⟨os++[c],_,rfl,by rw[aj,a8];rfl,by rw[aP,hol];rfl,?_,(oX.trans ge3).mod hno⟩
  intro i' a' ha'
  by_cases hlt:i'<os.length
  ·rw[bW hlt]at ha'
   refine((hO i' a' ha').ge ge3).up λz=> ?_
   obtain⟨kvs,h1,_⟩:=hO i' a' ha'
   rw[z]at h1
   simp[j7,go]at h1
  ·rw[bS (by ac_nf)]at ha'
   have hz:i'-os.length=0:=by
    rcases Nat.eq_zero_or_pos (i'-os.length)with z|z
    ·exact z
    ·rw[cO (by simp;ac_nf)]at ha';cases ha'
   obtain rfl:i'=i+1:=by ac_nf
   rw[hz]at ha'
   cases ha'
   rw[show ps.length-(i+1)=ps.length-1-i by ac_nf]
   refine(hon3.up nco).mono' (λj hj=>(hjs j).mpr hj) λj=> ?_
   rw[oa,e1]
   congr 2
   rw[eP (i:=ps.length-1-i) (by ac_nf)]
   rw[al (by ac_nf)]at hcc
   cases hcc
   rfl
 rintro τ G2 ⟨os,t8,rfl,go,hol,hO,oX⟩
 rw[hdl]at hol
 have D2:=(D.ge ge).ge oX
 left
 rw[aM go]
 left
 intro rv hrv
 exists⟨rv,_,_,rfl,nj,?_⟩
 intro acc hacc
 have hil:(ju ((cN (num+1) ps).map gh) (os.map PV.ref).reverse).length=ps.length:=by rw[l8,hlP,dW,ak];ac_nf
 have ge4:GE G2 (up G2 rv (.lst (os.map PV.ref).reverse)):=GE.refl.new hrv
 have geA:GE G (up G2 rv (.lst (os.map PV.ref).reverse)):=(ge.trans oX).trans ge4
 have D4:=D.ge geA
 have hrvs:up G2 rv (.lst (os.map PV.ref).reverse) rv=some (.lst (os.map PV.ref).reverse):=aj
 have hO4:∀(i:Nat) (a:Addr),os[i]? =some a->On (up G2 rv (.lst (os.map PV.ref).reverse)) a (λj=>wT T (ps.take (ps.length-i)) e j) (λj=>bM o (fZ T (ps.drop (ps.length-i)) j)):=λi a ha=>(hO i a ha).ge ge4
 generalize up G2 rv (.lst (os.map PV.ref).reverse)=G4 at*
 have hk0':k0<bM o (fZ T ps e):=by
  rw[mK,iX Tr.row (fZ T ps e)]at hk0
  exact hk0
 refine⟨λi ys Gi=>∃(us:List Tr) (ki ei:Nat),ys=iL us/\us.length=i/\Gi ds=some (.ins CD dd (zH cn gd ei))/\Gi gd=some (.ins CB db [("left",.int (ki:Int))])/\Ch [ds,gd] G4 Gi/\Gi acc=some (.lst ys)/\wT T (ps.take i) e ei/\ki<bM o (fZ T (ps.drop i) ei)/\pk o (fZ T ps e) k0=(pk o (fZ T (ps.drop i) ei) ki).map λz=>(us++z.1,z.2),?_,?_,?_,?_⟩
 ·refine⟨[],k0,e,rfl,rfl,by rw[aH (aX D4.ins hacc)];exact D4.ins,by rw[aH (aX D4.gui hacc)];exact D4.gui,Ch.refl.new hacc,aj,rfl,hk0',?_⟩
  simp
 ·rintro i ys Gi hi ⟨us,ki,ei,rfl,rfl,g1,g2,ch,ga,_⟩
  refine⟨aM (ch rv _ ?_ hrvs),ga,?_⟩
  ·have h1:rv≠ds:=λz=>by rw[z,D4.ins]at hrvs;cases hrvs
   have h2:rv≠gd:=λz=>by rw[z,D4.gui]at hrvs;cases hrvs
   simp[h1,h2]
  ·rw[hil]at hi
   rw[i5,ak];ac_nf
 ·rintro i ys Gi x hx ⟨us,ki,ei,rfl,rfl,g1,g2,ch,ga,hR,hki,hpk⟩
  have hil2:=(am.mp hx).1
  rw[hil]at hil2
  obtain⟨cc,hcc⟩:∃cc,ps[us.length]? =some cc:=⟨_,al hil2⟩
  obtain⟨xm,hmx⟩:∃xm,((cN (num+1) ps).map gh)[us.length]? =some xm:=⟨_,al (by rw[hlP];exact hil2)⟩
  obtain⟨jn,ej,hj,_⟩:=gR hq hcc hmx
  rw[ej]at hmx
  obtain⟨a,ha⟩:∃a,os[ps.length-1-us.length]? =some a:=⟨_,al (by ac_nf)⟩
  have hra:(os.map PV.ref).reverse[us.length]? =some (.ref a):=by
   rw[List.getElem?_reverse (by rw[ak];ac_nf),ak,aC,show os.length-1-us.length=ps.length-1-us.length by ac_nf,ha];rfl
  rw[oJ hmx hra]at hx
  cases hx
  refine⟨_,_,rfl,iK rfl ?_⟩
  have D5:=D4.ch ch g1 g2
  have hd:ps.drop us.length=cc::ps.drop (us.length+1):=by
   rw[eP hil2]
   rw[al hil2]at hcc
   cases hcc
   rfl
  have hO5:=(hO4 _ a ha).ch D4 ch
  rw[show ps.length-(ps.length-1-us.length)=us.length+1 by ac_nf]at hO5
  have hei:=o9 _ _ _ he hR
  rw[hd]at hki hpk
  exists⟨⟨ds,dd,_,rfl,g1,rfl⟩,?_⟩
  exists⟨ds,cn,gd,dd,db,dx,m,pa,tb,ts,T,p,cc,ki,ei,jn,a,λj=>bM o (fZ T (ps.drop (us.length+1)) j),rfl,D5,hj,by have:=fJ (av hcc);ac_nf,hei,hO5.mono λj hj=>(nU hcc).mpr ⟨ei,hR,hj⟩,by rw[oa];exact hki,λt e' r' G6 hp D6 ch6=> ?_⟩
  obtain⟨t',e'',r'',hp2,hm2,hr2⟩:=p0 (o:=λj=>bM o (fZ T (ps.drop (us.length+1)) j)) (bc T cc ei) ki (by rw[oa];exact hki)
  rw[hp]at hp2
  cases hp2
  have nad:acc≠ds:=λz=>by rw[z,g1]at ga;cases ga
  have nag:acc≠gd:=λz=>by rw[z,g2]at ga;cases ga
  refine⟨ch6 acc _ (by simp[nad,nag]) ga,us++[t],r',e',by rw[kT];rfl,by rw[aP];rfl,by rw[aH (aG nad)];exact D6.ins,by rw[aH (aG nag)];exact D6.gui,(ch.trans ch6).mod' hacc,aj,(nU hcc).mpr ⟨ei,hR,xO hm2⟩,hr2,?_⟩
  rw[hpk,E7,hp]
  show Option.map _ (Option.map _ _)=_
  rw[Option.map_map]
  congr 1
  funext z
  show(us++(t::z.1),z.2)=((us++[t])++z.1,z.2)
  rw[eX];rfl
 ·rintro ys Gi ⟨us,ki,ei,rfl,hul,g1,g2,ch,ga,hR,hki,hpk⟩
  rw[hil]at hul
  rw[hil,List.drop_length]at hki hpk
  exists qt (aM ga) ?_
  refine⟨_,GE.refl,q us ei ki _ ?_ (D4.ch ch g1 g2) (geA.ch.trans ch)⟩
  rw[hpk]
  unfold fZ
  rw[L3.pk_cons,if_pos (by change ki<bM o [(([]:List Tr),ei)]at hki;rw[fG,gO]at hki;exact hki)]
  show some (us++[],_,_)=_
  rw[dS]
end
theorem KA{C a dx:Addr}{f:Str}{G:Gp}{Q:Gp->Prop}{fs:List (Str×PV)}{i j:Int}{τ:iS}(h:G a=some (.ins C dx fs))(e:fs.lookup f=some (.int i))(hl:fs.length<1000)(hq:Q (up G a (.ins C dx (kI f (.int (i+j)) fs)))):zL C f (.ref a) (eC (.int j)) τ G Q:=by
 unfold zL;simp only[h,e,eC]
 exact⟨trivial,trivial,hl,hq⟩
section
variable{P:aJ}{w:aV}{K:PySem.W.Frag}{mg:Str->Option ae}{base:Heap}{f fi fm fa fp fr fe fs' fh CD CC CB:Addr}{fd di dm da dp dr de ds' dh:aW}{tTU:Tok}
theorem Hd:bA ["self", "number", "onward", "make", "kind"] ["self", "number", "onward"] (aL Es):=⟨rfl,rfl,rfl,by decide+kernel,rfl,by decide+kernel,by decide+kernel⟩
theorem vZ{n k:Nat}(q1:rT K CC "signs")(q2:rT K CC "makes")(q3:rT K CC "parts")(n1:rT K CD "counts")(n3:rT K CD "at")(F:Fun K "make_tree" "Descent.make_tree" Es f fd)(B:BN mg)(MR:eS P w K mg base CD (k+1) "make_row" fr dr ["self", "parts", "onward"] (yO CD CC CB n))(MP:eS P w K mg base CD (k+1) "make_pick" fp dp ["self", "parts", "onward"] (vG CD CC CB n))(MU:eS P w K mg base CD (k+1) "make_turns" fa da ["self", "number", "onward"] (yN CD CC CB n))(MT:eS P w K mg base CD k "make_tree" fm dm ["self", "number", "onward"] (mT CD CC CB n)):i9 P w K mg base (k+2) f fd ["self", "number", "onward"] (mT CD CC CB (n+1)):=by
 have nd:=Hd.nd
 refine lu F Hd (λvs G Q h=> ?_) (λcdv A outer s H E as G Q hr h=> ?_)
 ·obtain⟨_,_,_,_,_,_,_,_,_,_,_,_,_,_,_,_,_,_,rfl,_⟩:=h
  rfl
 have hU:=fk hr
 apply j3
 case a=>symm
 obtain⟨ds,cn,gd,dd,db,dx,m,pa,tb,ts,T,p,qq,k0,e,num,ow,o,rfl,D,hq,hdp,he,hon,hk0,q⟩:=h
 exists cH D.ins rfl ?_
 exists cH D.tab.ins rfl ?_
 exists cj (aM D.tab.mks) (bF (iQ hq)) ?_
 left
 have hLT:=D.cs.len
 have harr:=D.ar _ (av hq)
 cases qq with
 |none=>
  exact absurd hk0 (by unfold bc;rw[gO];ac_nf)
 |blank=>
  nofun
  ext
  ext
  ext
  ext
  exists⟨cW,?_⟩
  exists DG rfl rfl ?_
  exists nX rfl ?_
  exists⟨cW,?_⟩
  refine⟨_,GE.refl,q .blank e k0 _ ?_ D Ch.refl⟩
  have h1:bc T .blank e=[(Tr.blank,e)]:=by unfold bc;rfl
  rw[h1]at hk0⊢
  rw[fG,gO]at hk0
  rw[L3.pk_cons,if_pos (by ac_nf)]
 |sign z=>
  have h0:∃c,T[e]? =some c/\c∈z.cps.toList:=by
   unfold bc at hk0
   cases ec:T[e]? with
   |none=>rw[ec]at hk0;exact absurd hk0 (jh _)
   |some c=>
    rw[ec]at hk0
    by_cases hc:c∈z.cps.toList
    ·exact⟨c,rfl,hc⟩
    ·simp only[if_neg hc]at hk0;exact absurd hk0 (jh _)
  obtain⟨c,ec,hc⟩:=h0
  have h1:bc T (.sign z) e=[(Tr.sign ⟨#[c]⟩,e+1)]:=by unfold bc;rw[ec];simp only[if_pos hc]
  have hel:=(am.mp ec).1
  rw[h1]at hk0 q
  rw[fG,gO]at hk0
  nofun
  exists fD rfl rfl (iK rfl ?_)
  exists KA D.ins rfl (ba rfl) ?_
  left
  have ef:kI "at" (.int ((e:Int)+1)) (zH cn gd e)=zH cn gd (e+1):=rfl
  have eG:up G ds (.ins CD dd (kI "at" (.int ((e:Int)+1)) (zH cn gd e)))=up G ds (.ins CD dd (zH cn gd (e+1))):=by rw[ef]
  have ndg:gd≠ds:=λzz=>by have:=D.gui;rw[zz,D.ins]at this;cases this
  have ch1:Ch [ds,gd] G (up G ds (.ins CD dd (zH cn gd (e+1)))):=Ch.refl.put (by simp)
  have D1:=D.ch ch1 (e':=e+1) (k':=k0) aj (by rw[aH ndg];exact D.gui)
  refine cH D1.ins rfl ?_
  exists cH D1.tab.ins rfl ?_
  exists cH D1.ins rfl ?_
  left
  have e9:((e+1:Nat):Int)-1=(e:Int):=by ac_nf
  refine pr (c:=c) (by rw[dZ];ac_nf) (by show qh _ (((e+1:Nat):Int)-1)=_;rw[e9];exact bF (by rw[p9];exact ec)) ?_
  refine⟨cW,_,GE.refl,q (.sign ⟨#[c]⟩) (e+1) k0 _ ?_ D1 ch1⟩
  rw[L3.pk_cons,if_pos (by ac_nf)]
 |row ps=>
  nofun
  ext
  exists fD rfl rfl (iK rfl ?_)
  exists⟨⟨ds,dd,_,rfl,D.ins,rfl⟩,?_⟩
  exists cH D.ins rfl ?_
  exists cH D.tab.ins rfl ?_
  exists cj (aM D.tab.pts) (bF (fQ hq)) ?_
  exists⟨ds,cn,gd,dd,db,dx,m,pa,tb,ts,T,p,ps,k0,e,num,ow,o,rfl,D,hq,by unfold depth at hdp;ac_nf,he,hon,hk0,λus e' r G' hp D' ch=> ?_⟩
  refine⟨cW,_,GE.refl,q (.row us) e' r G' ?_ D' ch⟩
  rw[mK,oH Tr.row (fZ T ps e) k0,hp]
  rfl
 |pick ps=>
  nofun
  ext
  ext
  exists fD rfl rfl (iK rfl ?_)
  exists⟨⟨ds,dd,_,rfl,D.ins,rfl⟩,?_⟩
  exists cH D.ins rfl ?_
  exists cH D.tab.ins rfl ?_
  exists cj (aM D.tab.pts) (bF (fQ hq)) ?_
  exists⟨ds,cn,gd,dd,db,dx,m,pa,tb,ts,T,p,ps,k0,e,num,ow,o,rfl,D,hq,by unfold depth at hdp;ac_nf,harr.2,he,hon,hk0,λt e' r G' hp D' ch=> ?_⟩
  exact⟨_,GE.refl,q t e' r G' hp D' ch⟩
 |again r=>
  nofun
  ext
  ext
  ext
  exists fD rfl rfl (iK rfl ?_)
  exists⟨⟨ds,dd,_,rfl,D.ins,rfl⟩,?_⟩
  exists⟨ds,cn,gd,dd,db,dx,m,pa,tb,ts,T,p,r,k0,e,num,ow,o,rfl,D,hq,by unfold depth at hdp;ac_nf,he,hon,hk0,λus e' r' G' hp D' ch=> ?_⟩
  exact⟨cW,_,GE.refl,q (.again us) e' r' G' hp D' ch⟩
 |held nm r=>
  obtain⟨j,ej,hj,hnj⟩:=gR (i:=0) (cc:=r) hq rfl rfl
  have hj1:j=num+1:=iW.mp (PV.int.inj ej).symm
  have htr:bc T (.held nm r) e=(bc T r e).map λt=>(.held nm t.1,t.2):=by conv=>lhs;unfold bc
  nofun
  ext
  ext
  ext
  ext
  exists⟨cW,?_⟩
  exists DG rfl rfl ?_
  exists iK rfl ?_
  exists eO (x:= .str nm) rfl ?_
  exists⟨⟨ds,dd,_,rfl,D.ins,rfl⟩,?_⟩
  exists cH D.ins rfl ?_
  exists cH D.tab.ins rfl ?_
  exists cj (aM D.tab.pts) (bF (fQ hq)) ?_
  exists eO (x:= .int (j:Int)) (by rw[hj1];rfl) ?_
  exists⟨ds,cn,gd,dd,db,dx,m,pa,tb,ts,T,p,r,k0,e,j,ow,o,rfl,D,hj,by unfold depth at hdp;ac_nf,he,hon.mono λi hi=>by rw[uA];exact hi,by rw[htr,iX (Tr.held nm) (bc T r e)]at hk0;exact hk0,λt e' r' G' hp D' ch=> ?_⟩
  refine⟨cW,_,GE.refl,q (.held nm t) e' r' G' ?_ D' ch⟩
  rw[htr,oH (Tr.held nm) (bc T r e) k0,hp]
  rfl
 |price nm r=>
  obtain⟨j,ej,hj,hnj⟩:=gR (i:=0) (cc:=r) hq rfl rfl
  have hj1:j=num+1:=iW.mp (PV.int.inj ej).symm
  have htr:bc T (.price nm r) e=(bc T r e).map λt=>(.price nm t.1,t.2):=by conv=>lhs;unfold bc
  nofun
  ext
  ext
  ext
  ext
  exists⟨cW,?_⟩
  exists DG rfl rfl ?_
  exists iK rfl ?_
  exists eO (x:= .int nm) rfl ?_
  exists⟨⟨ds,dd,_,rfl,D.ins,rfl⟩,?_⟩
  exists cH D.ins rfl ?_
  exists cH D.tab.ins rfl ?_
  exists cj (aM D.tab.pts) (bF (fQ hq)) ?_
  exists eO (x:= .int (j:Int)) (by rw[hj1];rfl) ?_
  exists⟨ds,cn,gd,dd,db,dx,m,pa,tb,ts,T,p,r,k0,e,j,ow,o,rfl,D,hj,by unfold depth at hdp;ac_nf,he,hon.mono λi hi=>by rw[qQ];exact hi,by rw[htr,iX (Tr.price nm) (bc T r e)]at hk0;exact hk0,λt e' r' G' hp D' ch=> ?_⟩
  refine⟨cW,_,GE.refl,q (.price nm t) e' r' G' ?_ D' ch⟩
  rw[htr,oH (Tr.price nm) (bc T r e) k0,hp]
  rfl
theorem qM(x0:mg "TURN" =some (.int 0 tTU))(q1:rT K CC "signs")(q2:rT K CC "makes")(q3:rT K CC "parts")(n1:rT K CD "counts")(n2:rT K CD "guide")(n3:rT K CD "at")(B:BN mg)(ME:eS P w K mg base CC 1 "ends_of" fe de ["self", "number", "at"] (ou CC))(MS:eS P w K mg base CD 2 "size" fs' ds' ["self", "number", "at", "onward"] (lf CD CC CB))(MA:eS P w K mg base CD 3 "onward_ahead" fh dh ["self", "number", "places", "onward"] (mW CD CC CB))(MC:eS P w K mg base CB 1 "choose" fi di ["self", "sizes"] (kE CB))
  (F:Fun K "make_tree" "Descent.make_tree" Es f fd) (b:Binds K fd ["self", "number", "onward"] []) (m:jb K CD "make_tree" f)
  (FR:Fun K "make_row" "Descent.make_row" qk fr dr) (bR:Binds K dr ["self", "parts", "onward"] []) (mR:jb K CD "make_row" fr)
  (FP:Fun K "make_pick" "Descent.make_pick" mF fp dp) (bP:Binds K dp ["self", "parts", "onward"] []) (mP:jb K CD "make_pick" fp)
  (FU:Fun K "make_turns" "Descent.make_turns" mE fa da) (bU:Binds K da ["self", "number", "onward"] []) (mU:jb K CD "make_turns" fa):
  ∀n:Nat,i9 P w K mg base (3+2*n) f fd ["self", "number", "onward"] (mT CD CC CB n)
 |0=>kK λas G Q h=>by
  obtain⟨_,_,_,_,_,_,_,_,_,_,_,_,qq,_,_,_,_,_,_,_,_,hd,_⟩:=h
  cases qq<;>(unfold depth at hd;ac_nf)
 |n+1=>by
  have ih:=qM x0 q1 q2 q3 n1 n2 n3 B ME MS MA MC F b m FR bR mR FP bP mP FU bU mU n
  have MT:eS P w K mg base CD (3+2*n) "make_tree" f fd ["self", "number", "onward"] (mT CD CC CB n):=⟨ih,b,n1.c,m⟩
  have hk:3<=3+2*n:=by ac_nf
  exact vZ (k:=3+2*n) q1 q2 q3 n1 n3 F B ⟨CQ hk n1 n2 n3 FR B ME MA MT,bR,n1.c,mR⟩ ⟨Ao (by ac_nf) n1.c n1.n n2.n n3.n FP B MS MC MT,bP,n1.c,mP⟩ ⟨Cv hk x0 q3 n1 n2 n3 FU B ME MS MA MC MT,bU,n1.c,mU⟩ MT
end
noncomputable abbrev tV:Stmt:=top 15
noncomputable abbrev HE:Stmt:=top 31
theorem xS(p:Pt):(makes p)[0]? =some p:=by cases p<;>first|rfl|(unfold makes;rfl)
theorem Eu{T:List Nat}{p:Pt}{e L:Nat}:bM (dl L) (bc T p e)=nT T p e L:=by
 unfold nT
 generalize bc T p e=l
 induction l with
 |nil=>rfl
 |cons x l ih=>
  rw[fG,ih]
  unfold jF dl
  rw[List.countP_cons]
  by_cases h:L=x.2
  ·rw[if_pos h,if_pos (by simp[h])];ac_nf
  ·rw[if_neg h,if_neg (by simp;exact λz=>h z.symm)];ac_nf
section
variable{P:aJ}{w:aV}{K:PySem.W.Frag}{mg:Str->Option ae}{base:Heap}{f fi fm fa fg fb ft CD CC CB D Gv c1:Addr}{fd di dm da dg db' dt:aW}
theorem vL:bA ["self"] ["self"] (aL tT):=⟨rfl,rfl,rfl,by decide+kernel,rfl,by decide+kernel,by decide+kernel⟩
noncomputable def HR(CD CC CB:Addr)(n:Nat):iH:=λas G Q=>∃(ds cn gd dd db dx m pa tb:Addr) (ts:List Addr) (T:List Nat) (p:Pt) (k:Nat),as=[.ref ds]/\Ds CD CC CB G ds cn gd T p k 0 dd db dx m pa tb ts/\depth p<=n/\k<nT T p 0 T.length/\
 ∀t e' r G',pk (dl T.length) (bc T p 0) k=some (t,e',r)->Ch [ds,gd] G G'->Q (jM t) G'
theorem Am{n k:Nat}(q1:rT K CC "signs")(n1:rT K CD "counts")(F:Fun K "whole_tree" "Descent.whole_tree" tT f fd)(B:BN mg)(MT:eS P w K mg base CD k "make_tree" fm dm ["self", "number", "onward"] (mT CD CC CB n)):i9 P w K mg base (k+1) f fd ["self"] (HR CD CC CB n):=by
 have nd:=vL.nd
 refine lu F vL (λvs G Q h=> ?_) (λcdv A outer s H E as G Q hr h=> ?_)
 ·obtain⟨_,_,_,_,_,_,_,_,_,_,_,_,_,rfl,_⟩:=h
  rfl
 have hU:=fk hr
 apply j3
 case a=>symm
 obtain⟨ds,cn,gd,dd,db,dx,m,pa,tb,ts,T,p,k0,rfl,D,hd,hk0,q⟩:=h
 exists⟨⟨ds,dd,_,rfl,D.ins,rfl⟩,?_⟩
 left
 intro od hod
 left
 have ge0:GE G (up G od (.dK [])):=GE.refl.new hod
 have D1:=D.ge ge0
 refine cH D1.ins rfl ?_
 exists cH D1.tab.ins rfl ?_
 left
 have hLT:=D.cs.len
 refine jW (by rw[dZ];ac_nf) ?_
 rw[dZ]
 exists uX rfl aj ?_
 rw[gJ]
 have ge1:GE G (up G od (.dK [(.inl (T.length:Int),.int 1)])):=GE.refl.new hod
 exists⟨ds,cn,gd,dd,db,dx,m,pa,tb,ts,T,p,p,k0,0,0,od,dl T.length,rfl,D.ge ge1,xS p,hd,bt _,⟨_,jR aj,λj _=> ?_⟩,by rw[Eu];exact hk0,λt e' r G' hp D' ch=> ?_⟩
 ·rw[e7]
  unfold dl
  by_cases h:T.length=j
  ·subst h;rw[if_pos rfl,if_pos rfl];rfl
  ·rw[if_neg (qX h),if_neg h];rfl
 ·exact⟨_,GE.refl,q t e' r G' hp (ge1.ch.trans ch)⟩
theorem vM:bA ["pattern", "text", "k", "counts"] ["pattern", "text", "k"] (aL tV):=⟨rfl,rfl,rfl,by decide+kernel,rfl,by decide+kernel,by decide+kernel⟩
noncomputable def EC(n:Nat):Er:=λas G Q EX=>∃(p:Pt) (T:List Nat) (k:Int),as=[ib p,.str (pM T),.int k]/\Cs T p/\(∀q∈makes p,Nq q)/\depth p<=n/\
 (∀t,0<=k->((bc T p 0).filter λt=>t.2==T.length)[k.toNat]? =some t->Q (jM t.1) G)/\((k<0\/(nT T p 0 T.length:Int)<=k)->∀G',GE G G'->EX G')
theorem An{n k:Nat}(hk:5<=k)(xq:PySem.W.excIn K D A6 "ValueError.__new__" =true)(hD:mg "NoTree" =some (.ref D))(F:Fun K "tree_at" "tree_at" tV f fd)(B:BN mg)(MC:Nx P w K mg base "Counts" CC fi di 4 ["self", "pattern", "text"] (xx CC))(MB:Nx P w K mg base "ByNumber" CB fb db' 1 ["self", "number"] (yR CB))(MD:Nx P w K mg base "Descent" CD fg dg 1 ["self", "counts", "guide"] (yQ CD))(MT:eS P w K mg base CC 1 "total" fm dm ["self"] (uj CC))(MW:eS P w K mg base CD k "whole_tree" fa da ["self"] (HR CD CC CB n)):Nv P w K mg base D (k+1) f fd ["pattern", "text", "k"] (EC n):=by
 have nd:=vM.nd
 refine fnX F vM (λvs G Q EX h=> ?_) (λcdv A outer s H E as G Q EX hr h hX=> ?_)
 ·obtain⟨_,_,_,rfl,_⟩:=h
  rfl
 have hU:=fk hr
 apply j3
 case a=>symm
 obtain⟨p,T,k0,rfl,cs,har,hd,q1,q2⟩:=h
 left
 intro x dx hx hdx ndx
 refine⟨x,dx,T,p,rfl,aj,cs,λG1 m pa tb ts ch tb1=>⟨rfl,?_⟩⟩
 have ge1:GE G G1:=λb o hb=>by
  have ne:b≠x:=aX hb hx
  exact ch b o (by simpa using ne) (by rw[aH ne];exact hb)
 left
 have no:k0<0\/(nT T p 0 T.length:Int)<=k0->EX G1:=λh=>q2 h G1 ge1
 by_cases h0:0<=k0
 ·refine iK (decide_eq_true h0) ?_
  exists⟨⟨x,dx,_,rfl,tb1.ins,rfl⟩,?_⟩
  exists⟨x,dx,m,pa,tb,ts,T,p,rfl,cs,tb1,?_⟩
  left
  by_cases h1:k0<(nT T p 0 T.length:Int)
  ·refine nX (by simp[h1]) ?_
   left
   intro xb dxb hxb hdxb ndb
   refine⟨xb,dxb,k0,rfl,aj,rfl,?_⟩
   rw[gJ]
   have oX:GE G1 (up G1 xb (.ins CB dxb [("left",.int k0)])):=GE.refl.new hxb
   left
   intro xd dxd hxd hdxd ndd
   refine⟨xd,dxd,x,xb,rfl,aj,rfl,?_⟩
   rw[gJ]
   have ge3:GE G1 (up (up G1 xb (.ins CB dxb [("left",.int k0)])) xd (.ins CD dxd (zH x xb 0))):=oX.new hxd
   have nbd:xb≠xd:=(aX aj hxd)
   obtain⟨kn,rfl⟩:∃kn:Nat,k0=(kn:Int):=⟨k0.toNat,by ac_nf⟩
   have Dn:Ds CD CC CB (up (up G1 xb (.ins CB dxb [("left",.int (kn:Int))])) xd (.ins CD dxd (zH x xb 0))) xd x xb T p kn 0 dxd dxb dx m pa tb ts:=⟨aj,by rw[aH nbd,aj],tb1.ge ge3,cs,har⟩
   exists⟨⟨xd,dxd,_,rfl,aj,rfl⟩,?_⟩
   exists⟨xd,x,xb,dxd,dxb,dx,m,pa,tb,ts,T,p,kn,rfl,Dn,hd,by ac_nf,λt e' r G' hp ch'=> ?_⟩
   rw[qJ]at hp
   have hx1:G xb=none:=none_of ge1 hxb
   have hxd1:G xd=none:=none_of (ge1.trans oX) hxd
   refine⟨G,λb o hb=>ch' b o ?_ (ge3 _ _ (ge1 _ _ hb)),?_⟩
   ·have e1:=aX hb hx1
    have e2:=aX hb hxd1
    simp[e1,e2]
   ·cases hg:((bc T p 0).filter λt=>t.2==T.length)[kn]? with
    |none=>rw[hg]at hp;cases hp
    |some tt=>
     rw[hg]at hp
     cases hp
     exact q1 tt h0 (by rw[fV];exact hg)
  ·refine iK (by simp[h1]) ?_
   left
   exact⟨cW,no (.inr (by ac_nf))⟩
 ·refine nX (decide_eq_false h0) ?_
  exists iK rfl ?_
  left
  exact⟨cW,no (.inl (by ac_nf))⟩
theorem Hc:bA ["pattern", "text", "k", "right", "e"] ["pattern", "text", "k"] (aL HE):=⟨rfl,rfl,rfl,by decide+kernel,rfl,by decide+kernel,by decide+kernel⟩
noncomputable def BF(n:Nat):iH:=λas G Q=>∃(p:Pt) (T:List Nat) (k:Int),as=[ib p,.str (pM T),.int k]/\Cs T p/\(∀q∈makes p,Nq q)/\depth p<=n/\(k<0\/(nT T p 0 T.length:Int)<=k)/\Q (.bl true) G
theorem Hr{x c:Addr}{b:Bool}{G:Gp}{Q:K2}(h:G x=some (.exc D))(xk:sA K D)(k:PySem.W.kitOne K (.ref D) (.ref c)=some b)(q:Q (.bl b) G):AL K [.ref x,.ref c] G Q:=⟨D,b,h,xk,k,q⟩
theorem Ka{x:Addr}{T:String}{b:Bool}{G:Gp}{Q:K2}(h:G x=some (.exc D))(xk:sA K D)(k:PySem.W.kitOne K (.ref D) (.type T)=some b)(q:Q (.bl b) G):AL K [.ref x,.ty T] G Q:=⟨D,b,h,xk,k,q⟩
theorem IU{n k:Nat}(xq:PySem.W.excIn K D A6 "ValueError.__new__" =true)(xu:mf K D D=true)(xk:sA K D)(hD:mg "NoTree" =some (.ref D))(hG:mg "GroveError" =some (.ref Gv))(hM:mg "TooMany" =some (.ref c1))(hV:mg "ValueError" =none)(kG:PySem.W.kitOne K (.ref D) (.ref Gv)=some true)(kV:PySem.W.kitOne K (.ref D) (.type "ValueError")=some true)(kM:PySem.W.kitOne K (.ref D) (.ref c1)=some false)(F:Fun K "_law_refused" "_law_refused" HE f fd)(B:BN mg)(CT:A3 P w K mg base D k "tree_at" ft dt ["pattern", "text", "k"] (EC n)):i9 P w K mg base (k+1) f fd ["pattern", "text", "k"] (BF n):=by
 have nd:=Hc.nd
 refine lu F Hc (λvs G Q h=> ?_) (λcdv A outer s H E as G Q hr h=> ?_)
 ·obtain⟨_,_,_,rfl,_⟩:=h
  rfl
 have hU:=fk hr
 apply j3
 case a=>symm
 obtain⟨p,T,k0,rfl,cs,har,hd,hn,q⟩:=h
 exists⟨p,T,k0,rfl,cs,har,hd,λt h0 ht=> ?_,λ_ G' ge x hx=> ?_⟩
 ·have h1:=(am.mp ht).1
  rw[<-jd]at h1
  change k0.toNat<nT T p 0 T.length at h1
  ac_nf
 ·left
  have x5:up G' x (.exc D) x=some (.exc D):=aj
  refine Hr (K:=K) x5 xk kG ?_
  exists iK rfl ?_
  exists Ka (K:=K) x5 xk kV ?_
  exists iK rfl ?_
  exists Hr (K:=K) x5 xk kM ?_
  left
  exact⟨G,ge.new hx,q⟩
end
noncomputable abbrev zQ:Stmt:=top 32
theorem zN{f:Nat->List (Tr×Nat)}{B:Nat}(h:∀e x,x∈f e->ug x.1<=B):∀(n e:Nat) x,x∈Eh f n e->qw x.1<=B
 |0,e,x,hx=>by cases aA.mp hx;exact bt _
 |n+1,e,x,hx=>by
  rcases bo.mp hx with hx|hx
  ·obtain⟨t,ht,hx⟩:=ce.mp hx
   obtain⟨u,hu,rfl⟩:=aD.mp hx
   simp only[qw]
   exact Nat.max_le.mpr ⟨h e t ht,zN h n t.2 u hu⟩
  ·cases aA.mp hx;exact bt _
mutual
theorem oh(T:List Nat):∀(p:Pt) (e:Nat) x,x∈bc T p e->ug x.1<=depth p
 | .none,e,x,h=>by simp[bc]at h
 | .blank,e,x,h=>by simp[bc]at h;rw[h];exact ao _
 | .sign s,e,x,h=>by
  unfold bc at h
  split at h
  ·split at h
   ·cases aA.mp h;exact ao _
   ·cases h
  ·cases h
 | .row ps,e,x,h=>by
  rw[mK]at h
  obtain⟨s,hs,rfl⟩:=aD.mp h
  show 1+qw s.1<=1+bd ps
  have:=zd T ps e s hs
  ac_nf
 | .pick ps,e,x,h=>by
  unfold bc at h
  show ug x.1<=1+bd ps
  exact yL T ps 0 e x h
 | .again p,e,x,h=>by
  unfold bc at h
  obtain⟨s,hs,rfl⟩:=aD.mp h
  show 1+qw s.1<=1+depth p
  have:=zN (B:=depth p) (λe x hx=>oh T p e x hx) _ _ s hs
  ac_nf
 | .held n p,e,x,h=>by
  unfold bc at h
  obtain⟨s,hs,rfl⟩:=aD.mp h
  show 1+ug s.1<=1+depth p
  have:=oh T p e s hs
  ac_nf
 | .price n p,e,x,h=>by
  unfold bc at h
  obtain⟨s,hs,rfl⟩:=aD.mp h
  show 1+ug s.1<=1+depth p
  have:=oh T p e s hs
  ac_nf
theorem zd(T:List Nat):∀(ps:List Pt) (e:Nat) x,x∈fZ T ps e->qw x.1<=bd ps
 |[],e,x,h=>by unfold fZ at h;cases aA.mp h;exact bt _
 |p::ps,e,x,h=>by
  unfold fZ at h
  obtain⟨t,ht,hx⟩:=ce.mp h
  obtain⟨u,hu,rfl⟩:=aD.mp hx
  simp only[qw,bd]
  have h1:=oh T p e t ht
  have h2:=zd T ps t.2 u hu
  ac_nf
theorem yL(T:List Nat):∀(ps:List Pt) (k e:Nat) x,x∈fB T ps k e->ug x.1<=1+bd ps
 |[],k,e,x,h=>by unfold fB at h;cases h
 |p::ps,k,e,x,h=>by
  unfold fB at h
  rcases bo.mp h with h|h
  ·obtain⟨s,hs,rfl⟩:=aD.mp h
   show 1+ug s.1<=1+max (depth p) (bd ps)
   have:=oh T p e s hs
   ac_nf
  ·have:=yL T ps (k+1) e x h
   simp only[bd]
   ac_nf
end
theorem IX{p:Pt}(h:fL p):∀q∈makes p,Nq q:=λq hq=>by
 have ok:=hZ p h q hq
 cases q with
 |row ps=>exact⟨aR (by decide) ok.1.1,aR ok.1.2 (by decide)⟩
 |pick ps=>exact⟨aR (by decide) ok.1.1,aR ok.1.2 (by decide)⟩
 |_=>trivial
theorem vo{T:List Nat}{p:Pt}(hd:depth p<=5):∀t∈xh T p,dN 100 (jM t.1)=true:=λt ht=>by
 have h1:=oh T p 0 t (jc.mp ht).1
 exact kU t.1 100 (by ac_nf)
theorem sW:∀(xs:List PV),(∀x∈xs,dN 100 x=true)->c8 100 xs=true
 |[],_=>rfl
 |x::xs,h=>by
  unfold c8
  rw[h x (by simp),sW xs λy hy=>h y (by simp[hy])]
  rfl
section
variable{P:aJ}{w:aV}{K:PySem.W.Frag}{mg:Str->Option ae}{base:Heap}{f fn ft fa fs fw D:Addr}{fd dn dt da ds dw:aW}
noncomputable def um:iH:=λps G Q=>∃(a:Addr) (b:Int),ps=[.ref a,.int b]/\Pool G a/\1<=b/\b<=10^30/\∀(n:Int) G',0<=n->n<b->Pool G' a->Ch [a] G G'->Q (.int n) G'
theorem CK(F:Fun K "_law_next" "_law_next" yy f fd)(B:BN mg):i9 P w K mg base 1 f fd ["pool", "base"] um:=by
 have nd:=uu.nd
 refine lu F uu (λvs G Q h=> ?_) (λcdv A outer s H E as G Q hr h=> ?_)
 ·obtain⟨a,b,rfl,_⟩:=h
  rfl
 have hU:=fk hr
 apply j3
 case a=>symm
 obtain⟨a,b,rfl,⟨x,y,z,ga,hx⟩,b1,b2,q⟩:=h
 exists cj (aM ga) rfl ?_
 refine sf (λhp=> ?_) (λhp=> ?_)
 ·left
  refine cj (i:=0) (aM ga) rfl ?_
  refine⟨by ac_nf,?_⟩
  exists cj (i:=0) (aM ga) rfl ?_
  refine⟨⟨by ac_nf,b2⟩,?_⟩
  exists gE (k:=0) ga rfl ?_
  exact⟨_,GE.refl,q _ _ (eY _ (by ac_nf)) (dI _ (by ac_nf)) ⟨x/b,y,z,aj,Int.ediv_nonneg hx (by ac_nf)⟩ (Ch.refl.put (by simp))⟩
 ·left
  refine cj (i:=2) (aM ga) rfl ?_
  exists gE (k:=2) ga rfl ?_
  exists cj (i:=1) (aM aj) rfl ?_
  exists cj (i:=2) (aM aj) rfl ?_
  refine⟨.inl ⟨by decide,by decide⟩,(by decide:(0:Int)<1000000007),?_⟩
  have n0:0<=(y+7919*(z+1))%1000000007:=eY _ (by decide)
  have n1:(y+7919*(z+1))%1000000007<1000000007:=dI _ (by decide)
  refine⟨.inl ⟨?_,?_⟩,(by decide:(0:Int)<998244353),?_⟩
  ·show-(2^64)<(y+7919*(z+1))%1000000007+11
   ac_nf
  ·show(y+7919*(z+1))%1000000007+11<2^64
   ac_nf
  generalize ((y+7919*(z+1))%1000000007+11)*((y+7919*(z+1))%1000000007+48271)=k
  have s0:0<=k%998244353:=eY _ (by decide)
  have s1:k%998244353<998244353:=dI _ (by decide)
  refine⟨.inl ⟨?_,?_⟩,(by decide:(0:Int)<2147483647),⟨by decide,by decide⟩,(by ac_nf:0<b),?_⟩
  ·show-(2^64)<k%998244353
   ac_nf
  ·show k%998244353<2^64
   ac_nf
  exact⟨_,GE.refl,q _ _ (eY _ (by ac_nf)) (dI _ (by ac_nf)) ⟨x,y,z+1,aj,hx⟩ (Ch.refl.put (by simp))⟩
noncomputable def yP:iH:=λps G Q=>∃ns:List Int,ps=[.ro (ns.map PV.int)]/\ns.length<=63/\∀G',Q (.bl true) G'
theorem He:bA ["script", "cell", "pool", "pattern", "letters", "text", "due", "below", "k", "near"] ["script"] (aL zQ):=⟨rfl,rfl,rfl,by decide+kernel,rfl,by decide+kernel,by decide+kernel⟩
theorem IV{k:Nat}(hk:50<=k)(F:Fun K "law" "law" zQ f fd)(B:BN mg)(CS:cU P w K mg base k "_law_scene" fs ds ["cell", "most"] ul)(CW:cU P w K mg base k "_law_whole_trees" fw dw ["pattern", "text"] ui)(CN:cU P w K mg base 1 "_law_next" fn dn ["pool", "base"] um)(CR:cU P w K mg base 16 "_law_refused" fa da ["pattern", "text", "k"] (BF 5))(CT:A3 P w K mg base D 15 "tree_at" ft dt ["pattern", "text", "k"] (EC 5)):i9 P w K mg base (k+1) f fd ["script"] yP:=by
 have nd:=He.nd
 refine lu F He (λvs G Q h=> ?_) (λcdv A outer s H E as G Q hr h=> ?_)
 ·obtain⟨_,rfl,_⟩:=h
  rfl
 have hU:=fk hr
 apply j3
 case a=>symm
 obtain⟨ns,rfl,h63,q⟩:=h
 exists⟨cW,λl0 hl0=> ?_⟩
 exists KB nj (by simp;ac_nf) λsc hsc=> ?_
 left
 rw[nj]
 left
 have g0:up (up G l0 (.lst [PV.int 0])) sc (.lst ([PV.int 0]++ns.map PV.int)) sc=some (.lst ([PV.int 0]++ns.map PV.int)):=aj
 generalize up (up G l0 (.lst [PV.int 0])) sc (.lst ([PV.int 0]++ns.map PV.int))=G0 at g0
 refine⟨λi τ G2=>∃t1 t2 t3 t4 t5 t6 t7 t8 t9:Option PV,τ=[some (.ro (ns.map PV.int)),t1,t2,t3,t4,t5,t6,t7,t8,t9]/\G2 sc=some (.lst ([PV.int 0]++ns.map PV.int)),⟨_,_,_,_,_,_,_,_,_,rfl,g0⟩,?_,?_,?_⟩
 ·rintro i τ G2 _ ⟨_,_,_,_,_,_,_,_,_,rfl,h⟩
  exact aM h
 ·rintro i x τ G2 hx ⟨_,_,_,_,_,_,_,t8,t9,rfl,g2⟩
  obtain⟨c,rfl⟩:∃c:Int,x= .int c:=by
   have hm:=av hx
   rcases bo.mp hm with h|h
   ·exact⟨0,aA.mp h⟩
   ·obtain⟨y,_,rfl⟩:=aD.mp h
    exact⟨y,rfl⟩
  exists⟨c,5,rfl,by decide,by decide,λa p z T G3 ok hd z1 z5 hT p3 ge3 ha=> ?_⟩
  have hT5:T.length<=5:=by ac_nf
  have cs:Cs T p:=MX hT5 ok hd
  have har:=IX ok
  have hlen:=pT hT5 (lh p ok) (bt _)
  have hwl:(xh T p).length=nT T p 0 T.length:=Ev T p
  have hwl2:(xh T p).length<=(bc T p 0).length:=lX _ _
  have g3:=ge3 _ _ g2
  exists⟨p,T,rfl,ok,hd,hT5,λwl hwn=> ?_⟩
  have naw:a≠wl:=by obtain⟨o,ho⟩:=p3.some;exact aX ho hwn
  have nsa:sc≠a:=aX g2 ha
  refine⟨⟨by decide,by decide,by decide⟩,?_⟩
  exists⟨a,_,rfl,p3.new hwn,by decide,by decide,λnb G4 n0 n1 p4 ch4=> ?_⟩
  have g4w:G4 wl=some (.lst ((xh T p).map λt=>jM t.1)):=ch4 wl _ (by simp[aG naw]) aj
  have g4s:G4 sc=some (.lst ([PV.int 0]++ns.map PV.int)):=ch4 sc _ (by simp[nsa]) (by rw[aH (aX g3 hwn)];exact g3)
  exists nq (aM g4w) ?_
  exists nq (aM g4w) ?_
  exists⟨⟨by decide,by decide,by decide⟩,?_⟩
  exists rO (j:=10^(40:Int).toNat) ?_
  exists nq (aM g4w) ?_
  exists⟨cW,λl1 hl1=> ?_⟩
  left
  rw[nj]
  rw[ak,hwl]
  have g5w:∀(o:MO),up G4 l1 o wl=some (.lst ((xh T p).map λt=>jM t.1)):=λo=>by rw[aH (aX g4w hl1)];exact g4w
  have g5s:∀(o:MO),up G4 l1 o sc=some (.lst ([PV.int 0]++ns.map PV.int)):=λo=>by rw[aH (aX g4s hl1)];exact g4s
  have hN:nT T p 0 T.length<=14900788:=by ac_nf
  refine⟨λi τ G5=>∃t8:Option PV,τ=[some (.ro (ns.map PV.int)),some (.int c),some (.ref a),some (ib p),some (.str z),some (.str (pM T)),some (.ref wl),some (.int (-1-nb)),t8,t9]/\G5=up G4 l1 (.lst [.int (-1),.int (nT T p 0 T.length:Nat),.int ((nT T p 0 T.length:Nat)+10^(40:Int).toNat),.int (-1-(nT T p 0 T.length:Nat)),.int (-1-nb)]),⟨t8,rfl,rfl⟩,?_,?_,?_⟩
  ·rintro i τ G5 _ ⟨t8,rfl,rfl⟩
   exact nj
  ·rintro i x τ G5 hx ⟨t8,rfl,rfl⟩
   obtain⟨kk,rfl,hkk⟩:∃kk:Int,x= .int kk/\(kk<0\/(nT T p 0 T.length:Int)<=kk):=by
    have hm:=av hx
    have hp:(0:Int)<=10^(40:Int).toNat:=by decide
    simp only[aI,bC,or_false]at hm
    rcases hm with rfl|rfl|rfl|rfl|rfl
    ·exact⟨_,rfl,.inl (by decide)⟩
    ·exact⟨_,rfl,.inr (Int.le_refl _)⟩
    ·exact⟨_,rfl,.inr (by ac_nf)⟩
    ·exact⟨_,rfl,.inl (by ac_nf)⟩
    ·exact⟨_,rfl,.inl (by ac_nf)⟩
   exists⟨p,T,kk,rfl,cs,har,hd,hkk,?_⟩
   refine nX rfl ?_
   exact⟨_,rfl,rfl⟩
  rintro τ G5 ⟨t8',rfl,rfl⟩
  have g6w:=g5w (.lst [.int (-1),.int (nT T p 0 T.length:Nat),.int ((nT T p 0 T.length:Nat)+10^(40:Int).toNat),.int (-1-(nT T p 0 T.length:Nat)),.int (-1-nb)])
  have g6s:=g5s (.lst [.int (-1),.int (nT T p 0 T.length:Nat),.int ((nT T p 0 T.length:Nat)+10^(40:Int).toNat),.int (-1-(nT T p 0 T.length:Nat)),.int (-1-nb)])
  generalize up G4 l1 _=G6 at g6w g6s⊢
  exists nq (aM g6w) ?_
  rw[ak,hwl]
  exists⟨by ac_nf,by ac_nf,?_⟩
  have hil:(kf 0 ((nT T p 0 T.length:Nat):Int).toNat).length=nT T p 0 T.length:=by unfold kf;simp
  refine⟨λi τ G7=>∃t8 t9:Option PV,τ=[some (.ro (ns.map PV.int)),some (.int c),some (.ref a),some (ib p),some (.str z),some (.str (pM T)),some (.ref wl),some (.int (-1-nb)),t8,t9]/\G7=G6,⟨t8',t9,rfl,rfl⟩,?_,?_,?_⟩
  ·intros;trivial
  ·rintro i x τ G7 hx ⟨t8,t9,rfl,rfl⟩
   have hi2:=(am.mp hx).1
   rw[hil]at hi2
   have ex:x= .int (i:Int):=by
    unfold kf at hx
    rw[aC,dB (by rw[fV];exact hi2)]at hx
    cases hx
    show PV.int (0+(i:Int))=_
    rw[Int.zero_add]
   subst ex
   obtain⟨t,ht⟩:∃t,(xh T p)[i]? =some t:=⟨_,al (by ac_nf)⟩
   have htp:=vo hd t (av ht)
   have hat:qh ((xh T p).map λt=>jM t.1) (i:Int)=some (jM t.1):=bF (by rw[aC,ht];rfl)
   left
   by_cases h30:(i:Int)<30
   ·refine iK (decide_eq_true h30) ?_
    exists iK rfl ?_
    exists⟨p,T,(i:Int),rfl,cs,har,hd,λt' h0 ht'=> ?_,λh=>by exfalso;ac_nf⟩
    rw[fV]at ht'
    change (xh T p)[i]? =some t' at ht'
    rw[ht]at ht'
    cases ht'
    exists cj (aM g6w) hat ?_
    exists C8 htp htp ?_
    refine nX (by show(!kr (jM t.1) (jM t.1))=false;rw[rE 100 _ htp];rfl) ?_
    exact⟨_,_,rfl,rfl⟩
   ·refine nX (decide_eq_false h30) ?_
    exists nq (aM g6w) ?_
    rw[ak,hwl]
    exists sf (λh=> ?_) (λh=> ?_)
    ·left
     refine⟨p,T,(i:Int),rfl,cs,har,hd,λt' h0 ht'=> ?_,λh=>by exfalso;ac_nf⟩
     rw[fV]at ht'
     change (xh T p)[i]? =some t' at ht'
     rw[ht]at ht'
     cases ht'
     exists cj (aM g6w) hat ?_
     exists C8 htp htp ?_
     refine nX (by show(!kr (jM t.1) (jM t.1))=false;rw[rE 100 _ htp];rfl) ?_
     exact⟨_,_,rfl,rfl⟩
    ·exact⟨_,_,rfl,rfl⟩
  rintro τ G7 ⟨t8,t9',rfl,rfl⟩
  exists⟨cW,λl2 hl2=> ?_⟩
  have g8w:up G7 l2 (.lst []) wl=some (.lst ((xh T p).map λt=>jM t.1)):=by rw[aH (aX g6w hl2)];exact g6w
  have g8s:up G7 l2 (.lst []) sc=some (.lst ([PV.int 0]++ns.map PV.int)):=by rw[aH (aX g6s hl2)];exact g6s
  exists LK (aM g8w) nj (sW _ λx hx=> ?_) rfl ?_
  ·obtain⟨t,ht,rfl⟩:=aD.mp hx
   exact vo hd t ht
  cases ew:xh T p with
  |nil=>
   refine nX rfl ?_
   exact⟨_,_,_,_,_,_,_,_,_,rfl,g8s⟩
  |cons t0 l=>
   refine iK rfl ?_
   exists nq (aM g8w) ?_
   rw[ak,hwl]
   left
   have hpos:0<nT T p 0 T.length:=by rw[<-hwl,ew];exact Nat.succ_pos _
   refine⟨p,T,_,rfl,cs,har,hd,λt h0 ht=> ?_,λh=> ?_⟩
   ·left
    obtain⟨xs,et⟩:∃xs,jM t.1= .tup xs:=by cases t.1<;>exact⟨_,rfl⟩
    rw[et]
    refine Ke (ty:= "tuple") rfl (by decide) ?_
    refine nX rfl ?_
    exact⟨_,_,_,_,_,_,_,_,_,rfl,g8s⟩
   ·exfalso
    ac_nf
 ·rintro τ G2 ⟨_,_,_,_,_,_,_,_,_,rfl,g2⟩
  exact⟨_,GE.refl,q _⟩
end
noncomputable def DX(K:PySem.W.Frag)(C:Addr)(ns:List Str)(fs:List Addr):Bool:=
 (PySem.W.plainGet K C Str.empty&&PySem.W.hasDictIn K C&&PySem.W.plainOver K C&&(PySem.W.findIn K (.ref C) "__setattr__" ==some (some (.builtin "object.__setattr__"))))&&ns.all (λn=>PySem.W.findIn K (.ref C) n==some none)
  &&(PySem.W.makesIn K C&&PySem.W.keepIn K (.ref C))&&fs.all (λf=>PySem.W.isFn K (.ref f))
theorem yj{K:PySem.W.Frag}{C:Addr}{ns:List Str}{fs:List Addr}(h:DX K C ns fs=true):Cls K C/\(∀n∈ns,NoAttr K C n)/\(PySem.W.makesIn K C=true/\PySem.W.keepIn K (.ref C)=true)/\∀f∈fs,PySem.W.isFn K (.ref f)=true:=by
 unfold DX at h
 simp only[bp,aS,beq_iff_eq]at h
 obtain⟨⟨⟨⟨⟨⟨h1,h2⟩,h3⟩,h4⟩,hn⟩,hm⟩,hf⟩:=h
 exact⟨⟨h1,h2,h3,h4⟩,λn hn'=>hn n hn',hm,hf⟩
noncomputable def Ko(K:PySem.W.Frag)(D G M:Addr):Bool:=
 PySem.W.excIn K D A6 "ValueError.__new__" &&mf K D D&&(PySem.W.findIn K (.ref D) "__getattribute__" ==some (some (.builtin "BaseException.__getattribute__")))&&(PySem.W.findIn K (.ref D) "__getattr__" ==some none)&&(PySem.W.mroIn K D (.type "BaseException")==some true)&&(PySem.W.clsIn K D).isSome&&(PySem.W.findIn K (.ref D) "__class__" ==some (some (.builtin "object.__class__")))&&(PySem.W.specialIn K (.builtin "object.__class__") "__get__" ==some (some (.builtin "getset_descriptor.__get__")))&&(PySem.W.takesIn K (.builtin "object.__class__")==some true)&&(PySem.W.mroIn K D (.type "object")==some true)
  &&(PySem.W.kitOne K (.ref D) (.ref G)==some true)&&(PySem.W.kitOne K (.ref D) (.type "ValueError")==some true)&&(PySem.W.kitOne K (.ref D) (.ref M)==some false)
theorem Kn{K:PySem.W.Frag}{D G M:Addr}(h:Ko K D G M=true):PySem.W.excIn K D A6 "ValueError.__new__" =true/\mf K D D=true/\sA K D/\PySem.W.kitOne K (.ref D) (.ref G)=some true/\PySem.W.kitOne K (.ref D) (.type "ValueError")=some true/\PySem.W.kitOne K (.ref D) (.ref M)=some false:=by
 unfold Ko at h
 simp only[bp,beq_iff_eq]at h
 obtain⟨⟨⟨⟨⟨⟨⟨⟨⟨⟨⟨⟨h1,h2⟩,h3⟩,h4⟩,h5⟩,h6⟩,h7⟩,h8⟩,h9⟩,h10⟩,h11⟩,h12⟩,h13⟩:=h
 exact⟨h1,h2,⟨h3,h4,h5,h6,h7,h8,h9,h10⟩,h11,h12,h13⟩
noncomputable def Ou(K:PySem.W.Frag):Bool:=D7.all λx=>PySem.W.nsIn K bO x==some none
theorem Na{K:PySem.W.Frag}{h:Heap}{mg:Str->Option ae}(X:K.In h)(G:h.Ns bO mg)(z:Ou K=true):BN mg:=λx hx=>by
 unfold Ou at z
 rw[aS]at z
 have:=z x (by simpa using hx)
 exact PySem.W.mg_none_of X G (beq_iff_eq.mp this)
theorem uE{us:List ae}(h:us.length=1):∃a,us=[a]:=by
 cases us with
 |nil=>cases h
 |cons a l=>cases l with
  |nil=>exact⟨a,rfl⟩
  |cons b l=>cases h
theorem jy{us:List ae}(h:us.length=2):∃a0 a1,us=[a0,a1]:=by
 cases us with
 |nil=>cases h
 |cons a l=>
  obtain⟨a1,rfl⟩:=uE (us:=l) (by simpa using h)
  exact⟨a,a1,rfl⟩
theorem kO{us:List ae}(h:us.length=3):∃a0 a1 a2,us=[a0,a1,a2]:=by
 cases us with
 |nil=>cases h
 |cons a l=>
  obtain⟨a1,a2,rfl⟩:=jy (us:=l) (by simpa using h)
  exact⟨a,a1,a2,rfl⟩
theorem FO{us:List ae}(h:us.length=4):∃a0 a1 a2 a3,us=[a0,a1,a2,a3]:=by
 cases us with
 |nil=>cases h
 |cons a l=>
  obtain⟨a1,a2,a3,rfl⟩:=kO (us:=l) (by simpa using h)
  exact⟨a,a1,a2,a3,rfl⟩
theorem Jg{us:List ae}(h:us.length=5):∃a0 a1 a2 a3 a4,us=[a0,a1,a2,a3,a4]:=by
 cases us with
 |nil=>cases h
 |cons a l=>
  obtain⟨a1,a2,a3,a4,rfl⟩:=FO (us:=l) (by simpa using h)
  exact⟨a,a1,a2,a3,a4,rfl⟩
noncomputable def FnB(K:PySem.W.Frag)(x qual:Str)(st:Stmt)(f:Addr):Prop:=∃oc od kV dc pm an cd ct sl,K.lookup f=some ⟨oc,od,.func (PySem.W.fnOf x qual (lw st) (il st) (aL st) .none kV dc pm an cd ct),sl⟩/\PySem.W.codeIn K cd qual=true/\PySem.W.keepIn K (.ref f)=true
noncomputable def jB(K:PySem.W.Frag)(x:Str)(st:Stmt)(f:Addr):Prop:=PySem.W.nsIn K bO x=some (some (.ref f))/\FnB K x x st f
noncomputable def kZ(K:PySem.W.Frag)(C:Addr)(x q:Str)(st:Stmt)(f:Addr):Prop:=PySem.W.findIn K (.ref C) x=some (some (.ref f))/\FnB K x q st f
theorem FnB.get{K:PySem.W.Frag}{x q:Str}{st:Stmt}{f:Addr}(u:FnB K x q st f):∃fd,Fun K x q st f fd:=by
 obtain⟨_,_,_,_,_,_,_,_,_,l,c,k⟩:=u
 exact⟨_,DL l c k⟩
theorem all_mk{l:PySem.W.OpenLaw}{w:aV}{K:PySem.W.Frag}{h:Heap}{mg:Str->Option ae}{fa f1 f2 f3 f4 f5 f6 f7 f8 f9 f10 f11 f12 f13 f14 f15 f16 f17 f18 f19 f20 f21 f22 f23 f24 f25 f26 f27 f28 f29 f30 f31 f32 f33 f34 f35 f36 f37 f38:Addr}{cC cB cD cX cG cM:Addr}{tTU:Tok}(X:K.In h)(G:h.Ns bO mg)(hfa:mg "law" =some (.ref fa))
  (zv:PySem.W.nsIn K bO "ValueError" =some none) (u1:jB K "inner_patterns" w6 f1) (u2:jB K "makes_of" wZ f2) (u3:jB K "parts_of" mD f3) (u4:jB K "add_ways" HF f4) (u5:kZ K cC "__init__" "Counts.__init__" yz f5) (u6:kZ K cC "total" "Counts.total" wX f6) (u7:kZ K cC "count_from" "Counts.count_from" Bi f7) (u8:kZ K cC "count_row" "Counts.count_row" HD f8) (u9:kZ K cC "count_pick" "Counts.count_pick" Bf f9) (u10:kZ K cC "count_again" "Counts.count_again" xg f10) (u11:kZ K cC "ends_of" "Counts.ends_of" Bj f11) (u12:kZ K cB "__init__" "ByNumber.__init__" w9 f12) (u13:kZ K cB "choose" "ByNumber.choose" tZ f13) (u14:kZ K cD "__init__" "Descent.__init__" w8 f14) (u15:kZ K cD "whole_tree" "Descent.whole_tree" tT f15) (u16:kZ K cD "size" "Descent.size" tW f16) (u17:kZ K cD "onward_ahead" "Descent.onward_ahead" xa f17) (u18:kZ K cD "make_tree" "Descent.make_tree" Es f18) (u19:kZ K cD "make_row" "Descent.make_row" qk f19) (u20:kZ K cD "make_pick" "Descent.make_pick" mF f20) (u21:kZ K cD "make_turns" "Descent.make_turns" mE f21) (u22:jB K "tree_at" tV f22) (u23:jB K "_law_pool" Be f23) (u24:jB K "_law_next" yy f24) (u25:jB K "_law_letters" ql f25) (u26:jB K "_law_signs" tX f26) (u27:jB K "_law_size" yx f27) (u28:jB K "_law_some" Bd f28) (u29:jB K "_law_hard" Bh f29) (u30:jB K "_law_pattern" qj f30) (u31:jB K "_law_grown" tY f31) (u32:jB K "_law_text" Bc f32) (u33:jB K "_law_both" yA f33) (u34:jB K "_law_trees" kz f34) (u35:jB K "_law_whole_trees" tU f35) (u36:jB K "_law_scene" wY f36) (u37:jB K "_law_refused" HE f37) (u38:jB K "law" zQ f38) (m0:PySem.W.nsIn K bO "TURN" =some (some (.int 0 tTU))) (m1:PySem.W.nsIn K bO "NoTree" =some (some (.ref cX))) (m2:PySem.W.nsIn K bO "GroveError" =some (some (.ref cG))) (m3:PySem.W.nsIn K bO "TooMany" =some (some (.ref cM))) (m4:PySem.W.nsIn K bO "Counts" =some (some (.ref cC))) (m5:PySem.W.nsIn K bO "ByNumber" =some (some (.ref cB))) (m6:PySem.W.nsIn K bO "Descent" =some (some (.ref cD))) (zc:DX K cC ["signs", "makes", "parts", "table"] [f5,f6,f7,f8,f9,f10,f11]=true) (zcB:DX K cB ["left"] [f12,f13]=true) (zcD:DX K cD ["counts", "guide", "at"] [f14,f15,f16,f17,f18,f19,f20,f21]=true) (ze:Ko K cX cG cM=true) (zb:Ou K=true):
  ∃fd:aW,(∀(s:ai) (v:ae),BindsTo s fd ⟨[v],[]⟩ [("script",v)])/\∀base:Heap,K.In base->base.Ns bO mg->FnOk l.prog w K mg base GU 51 fa fd ["script"] (G9 K yP):=by
 have e:=hfa.symm.trans (PySem.W.mg_of X G u38.1)
 cases e
 have B:=Na X G zb
 obtain⟨d1,F1⟩:=u1.2.get
 have k1:=F1.kp
 have b1:=F1.binds (ps:=["pattern"]) λ_ _ _ _ _ _ us hl=>by obtain⟨_,rfl⟩:=uE hl;rfl
 have g1:=PySem.W.mg_of X G u1.1
 obtain⟨d2,F2⟩:=u2.2.get
 have k2:=F2.kp
 have b2:=F2.binds (ps:=["pattern"]) λ_ _ _ _ _ _ us hl=>by obtain⟨_,rfl⟩:=uE hl;rfl
 have g2:=PySem.W.mg_of X G u2.1
 obtain⟨d3,F3⟩:=u3.2.get
 have k3:=F3.kp
 have b3:=F3.binds (ps:=["pattern"]) λ_ _ _ _ _ _ us hl=>by obtain⟨_,rfl⟩:=uE hl;rfl
 have g3:=PySem.W.mg_of X G u3.1
 obtain⟨d4,F4⟩:=u4.2.get
 have k4:=F4.kp
 have b4:=F4.binds (ps:=["ways", "more", "times"]) λ_ _ _ _ _ _ us hl=>by obtain⟨_,_,_,rfl⟩:=kO hl;rfl
 have g4:=PySem.W.mg_of X G u4.1
 obtain⟨d5,F5⟩:=u5.2.get
 have k5:=F5.kp
 have b5:=F5.binds (ps:=["self", "pattern", "text"]) λ_ _ _ _ _ _ us hl=>by obtain⟨_,_,_,rfl⟩:=kO hl;rfl
 obtain⟨d6,F6⟩:=u6.2.get
 have k6:=F6.kp
 have b6:=F6.binds (ps:=["self"]) λ_ _ _ _ _ _ us hl=>by obtain⟨_,rfl⟩:=uE hl;rfl
 obtain⟨d7,F7⟩:=u7.2.get
 have k7:=F7.kp
 have b7:=F7.binds (ps:=["self", "number", "at"]) λ_ _ _ _ _ _ us hl=>by obtain⟨_,_,_,rfl⟩:=kO hl;rfl
 obtain⟨d8,F8⟩:=u8.2.get
 have k8:=F8.kp
 have b8:=F8.binds (ps:=["self", "number", "at"]) λ_ _ _ _ _ _ us hl=>by obtain⟨_,_,_,rfl⟩:=kO hl;rfl
 obtain⟨d9,F9⟩:=u9.2.get
 have k9:=F9.kp
 have b9:=F9.binds (ps:=["self", "number", "at"]) λ_ _ _ _ _ _ us hl=>by obtain⟨_,_,_,rfl⟩:=kO hl;rfl
 obtain⟨d10,F10⟩:=u10.2.get
 have k10:=F10.kp
 have b10:=F10.binds (ps:=["self", "number", "at"]) λ_ _ _ _ _ _ us hl=>by obtain⟨_,_,_,rfl⟩:=kO hl;rfl
 obtain⟨d11,F11⟩:=u11.2.get
 have k11:=F11.kp
 have b11:=F11.binds (ps:=["self", "number", "at"]) λ_ _ _ _ _ _ us hl=>by obtain⟨_,_,_,rfl⟩:=kO hl;rfl
 obtain⟨d12,F12⟩:=u12.2.get
 have k12:=F12.kp
 have b12:=F12.binds (ps:=["self", "number"]) λ_ _ _ _ _ _ us hl=>by obtain⟨_,_,rfl⟩:=jy hl;rfl
 obtain⟨d13,F13⟩:=u13.2.get
 have k13:=F13.kp
 have b13:=F13.binds (ps:=["self", "sizes"]) λ_ _ _ _ _ _ us hl=>by obtain⟨_,_,rfl⟩:=jy hl;rfl
 obtain⟨d14,F14⟩:=u14.2.get
 have k14:=F14.kp
 have b14:=F14.binds (ps:=["self", "counts", "guide"]) λ_ _ _ _ _ _ us hl=>by obtain⟨_,_,_,rfl⟩:=kO hl;rfl
 obtain⟨d15,F15⟩:=u15.2.get
 have k15:=F15.kp
 have b15:=F15.binds (ps:=["self"]) λ_ _ _ _ _ _ us hl=>by obtain⟨_,rfl⟩:=uE hl;rfl
 obtain⟨d16,F16⟩:=u16.2.get
 have k16:=F16.kp
 have b16:=F16.binds (ps:=["self", "number", "at", "onward"]) λ_ _ _ _ _ _ us hl=>by obtain⟨_,_,_,_,rfl⟩:=FO hl;rfl
 obtain⟨d17,F17⟩:=u17.2.get
 have k17:=F17.kp
 have b17:=F17.binds (ps:=["self", "number", "places", "onward"]) λ_ _ _ _ _ _ us hl=>by obtain⟨_,_,_,_,rfl⟩:=FO hl;rfl
 obtain⟨d18,F18⟩:=u18.2.get
 have k18:=F18.kp
 have b18:=F18.binds (ps:=["self", "number", "onward"]) λ_ _ _ _ _ _ us hl=>by obtain⟨_,_,_,rfl⟩:=kO hl;rfl
 obtain⟨d19,F19⟩:=u19.2.get
 have k19:=F19.kp
 have b19:=F19.binds (ps:=["self", "parts", "onward"]) λ_ _ _ _ _ _ us hl=>by obtain⟨_,_,_,rfl⟩:=kO hl;rfl
 obtain⟨d20,F20⟩:=u20.2.get
 have k20:=F20.kp
 have b20:=F20.binds (ps:=["self", "parts", "onward"]) λ_ _ _ _ _ _ us hl=>by obtain⟨_,_,_,rfl⟩:=kO hl;rfl
 obtain⟨d21,F21⟩:=u21.2.get
 have k21:=F21.kp
 have b21:=F21.binds (ps:=["self", "number", "onward"]) λ_ _ _ _ _ _ us hl=>by obtain⟨_,_,_,rfl⟩:=kO hl;rfl
 obtain⟨d22,F22⟩:=u22.2.get
 have k22:=F22.kp
 have b22:=F22.binds (ps:=["pattern", "text", "k"]) λ_ _ _ _ _ _ us hl=>by obtain⟨_,_,_,rfl⟩:=kO hl;rfl
 have g22:=PySem.W.mg_of X G u22.1
 obtain⟨d23,F23⟩:=u23.2.get
 have k23:=F23.kp
 have b23:=F23.binds (ps:=["cell"]) λ_ _ _ _ _ _ us hl=>by obtain⟨_,rfl⟩:=uE hl;rfl
 have g23:=PySem.W.mg_of X G u23.1
 obtain⟨d24,F24⟩:=u24.2.get
 have k24:=F24.kp
 have b24:=F24.binds (ps:=["pool", "base"]) λ_ _ _ _ _ _ us hl=>by obtain⟨_,_,rfl⟩:=jy hl;rfl
 have g24:=PySem.W.mg_of X G u24.1
 obtain⟨d25,F25⟩:=u25.2.get
 have k25:=F25.kp
 have b25:=F25.binds (ps:=["pool"]) λ_ _ _ _ _ _ us hl=>by obtain⟨_,rfl⟩:=uE hl;rfl
 have g25:=PySem.W.mg_of X G u25.1
 obtain⟨d26,F26⟩:=u26.2.get
 have k26:=F26.kp
 have b26:=F26.binds (ps:=["pool", "letters"]) λ_ _ _ _ _ _ us hl=>by obtain⟨_,_,rfl⟩:=jy hl;rfl
 have g26:=PySem.W.mg_of X G u26.1
 obtain⟨d27,F27⟩:=u27.2.get
 have k27:=F27.kp
 have b27:=F27.binds (ps:=["pattern"]) λ_ _ _ _ _ _ us hl=>by obtain⟨_,rfl⟩:=uE hl;rfl
 have g27:=PySem.W.mg_of X G u27.1
 obtain⟨d28,F28⟩:=u28.2.get
 have k28:=F28.kp
 have b28:=F28.binds (ps:=["pool", "letters", "deep", "room", "blank"]) λ_ _ _ _ _ _ us hl=>by obtain⟨_,_,_,_,_,rfl⟩:=Jg hl;rfl
 have g28:=PySem.W.mg_of X G u28.1
 obtain⟨d29,F29⟩:=u29.2.get
 have k29:=F29.kp
 have b29:=F29.binds (ps:=["pool", "letters", "deep", "room", "blank"]) λ_ _ _ _ _ _ us hl=>by obtain⟨_,_,_,_,_,rfl⟩:=Jg hl;rfl
 have g29:=PySem.W.mg_of X G u29.1
 obtain⟨d30,F30⟩:=u30.2.get
 have k30:=F30.kp
 have b30:=F30.binds (ps:=["pool", "letters", "deep", "room", "blank"]) λ_ _ _ _ _ _ us hl=>by obtain⟨_,_,_,_,_,rfl⟩:=Jg hl;rfl
 have g30:=PySem.W.mg_of X G u30.1
 obtain⟨d31,F31⟩:=u31.2.get
 have k31:=F31.kp
 have b31:=F31.binds (ps:=["pool", "pattern", "room"]) λ_ _ _ _ _ _ us hl=>by obtain⟨_,_,_,rfl⟩:=kO hl;rfl
 have g31:=PySem.W.mg_of X G u31.1
 obtain⟨d32,F32⟩:=u32.2.get
 have k32:=F32.kp
 have b32:=F32.binds (ps:=["pool", "pattern", "letters", "most"]) λ_ _ _ _ _ _ us hl=>by obtain⟨_,_,_,_,rfl⟩:=FO hl;rfl
 have g32:=PySem.W.mg_of X G u32.1
 obtain⟨d33,F33⟩:=u33.2.get
 have k33:=F33.kp
 have b33:=F33.binds (ps:=["some", "more"]) λ_ _ _ _ _ _ us hl=>by obtain⟨_,_,rfl⟩:=jy hl;rfl
 have g33:=PySem.W.mg_of X G u33.1
 obtain⟨d34,F34⟩:=u34.2.get
 have k34:=F34.kp
 have b34:=F34.binds (ps:=["pattern", "text", "at"]) λ_ _ _ _ _ _ us hl=>by obtain⟨_,_,_,rfl⟩:=kO hl;rfl
 have g34:=PySem.W.mg_of X G u34.1
 obtain⟨d35,F35⟩:=u35.2.get
 have k35:=F35.kp
 have b35:=F35.binds (ps:=["pattern", "text"]) λ_ _ _ _ _ _ us hl=>by obtain⟨_,_,rfl⟩:=jy hl;rfl
 have g35:=PySem.W.mg_of X G u35.1
 obtain⟨d36,F36⟩:=u36.2.get
 have k36:=F36.kp
 have b36:=F36.binds (ps:=["cell", "most"]) λ_ _ _ _ _ _ us hl=>by obtain⟨_,_,rfl⟩:=jy hl;rfl
 have g36:=PySem.W.mg_of X G u36.1
 obtain⟨d37,F37⟩:=u37.2.get
 have k37:=F37.kp
 have b37:=F37.binds (ps:=["pattern", "text", "k"]) λ_ _ _ _ _ _ us hl=>by obtain⟨_,_,_,rfl⟩:=kO hl;rfl
 have g37:=PySem.W.mg_of X G u37.1
 have x0:=PySem.W.mg_of X G m0
 have x1:=PySem.W.mg_of X G m1
 have x2:=PySem.W.mg_of X G m2
 have x3:=PySem.W.mg_of X G m3
 have x4:=PySem.W.mg_of X G m4
 have x5:=PySem.W.mg_of X G m5
 have x6:=PySem.W.mg_of X G m6
 obtain⟨_,_,kV,dc,pm,an,cd,ct,_,lL,qL,kL⟩:=u38.2
 have F38:=DL lL qL kL
 refine⟨PySem.W.fnOf "law" "law" (lw zQ) (il zQ) (aL zQ) .none kV dc pm an cd ct,λs v=> .of_eq rfl,λbase _ _=> ?_⟩
 obtain⟨cl,nC,hmk,hfn⟩:=yj zc
 have n1:=nC "signs" (by simp)
 have n2:=nC "makes" (by simp)
 have n3:=nC "parts" (by simp)
 have n4:=nC "table" (by simp)
 obtain⟨clB,nB,hmkB,hfnB⟩:=yj zcB
 have nl:=nB "left" (by simp)
 obtain⟨clD,nD,hmkD,hfnD⟩:=yj zcD
 have nd1:=nD "counts" (by simp)
 have nd2:=nD "guide" (by simp)
 have nd3:=nD "at" (by simp)
 obtain⟨xq,xu,xk,kG,kV,kM⟩:=Kn ze
 have hV:=PySem.W.mg_none_of X G zv
 have mk:Mk K cC f5:=⟨hmk.1,u5.1,hfn f5 (by simp),hmk.2⟩
 have mkB:Mk K cB f12:=⟨hmkB.1,u12.1,hfnB f12 (by simp),hmkB.2⟩
 have mkD:Mk K cD f14:=⟨hmkD.1,u14.1,hfnD f14 (by simp),hmkD.2⟩
 have m6:jb K cC "total" f6:=⟨u6.1,hfn f6 (by simp),k6⟩
 have m7:jb K cC "count_from" f7:=⟨u7.1,hfn f7 (by simp),k7⟩
 have m8:jb K cC "count_row" f8:=⟨u8.1,hfn f8 (by simp),k8⟩
 have m9:jb K cC "count_pick" f9:=⟨u9.1,hfn f9 (by simp),k9⟩
 have m10:jb K cC "count_again" f10:=⟨u10.1,hfn f10 (by simp),k10⟩
 have m11:jb K cC "ends_of" f11:=⟨u11.1,hfn f11 (by simp),k11⟩
 have m13:jb K cB "choose" f13:=⟨u13.1,hfnB f13 (by simp),k13⟩
 have m15:jb K cD "whole_tree" f15:=⟨u15.1,hfnD f15 (by simp),k15⟩
 have m16:jb K cD "size" f16:=⟨u16.1,hfnD f16 (by simp),k16⟩
 have m17:jb K cD "onward_ahead" f17:=⟨u17.1,hfnD f17 (by simp),k17⟩
 have m18:jb K cD "make_tree" f18:=⟨u18.1,hfnD f18 (by simp),k18⟩
 have m19:jb K cD "make_row" f19:=⟨u19.1,hfnD f19 (by simp),k19⟩
 have m20:jb K cD "make_pick" f20:=⟨u20.1,hfnD f20 (by simp),k20⟩
 have m21:jb K cD "make_turns" f21:=⟨u21.1,hfnD f21 (by simp),k21⟩
 have C1:cU l.prog w K mg base 1 "inner_patterns" f1 _ ["pattern"] pZ:=⟨CV F1 B,b1,k1,g1⟩
 have C2:cU l.prog w K mg base 2 "makes_of" f2 _ ["pattern"] pY:=⟨CU F2 B C1,b2,k2,g2⟩
 have C3:cU l.prog w K mg base 3 "parts_of" f3 _ ["pattern"] oo:=⟨xK F3 B C1 C2,b3,k3,g3⟩
 have C4:cU l.prog w K mg base 1 "add_ways" f4 _ ["ways", "more", "times"] vH:=⟨IW F4 B,b4,k4,g4⟩
 have M8:eS l.prog w K mg base cC 2 "count_row" f8 _ ["self", "number", "at"] (A5 cC HG λ_=>true):=⟨IT cl n1 n2 n3 n4 F8 B C4,b8,cl,m8⟩
 have M9:eS l.prog w K mg base cC 2 "count_pick" f9 _ ["self", "number", "at"] (A5 cC Bo λ_=>true):=⟨Fv cl n1 n2 n3 n4 F9 B C4,b9,cl,m9⟩
 have M10:eS l.prog w K mg base cC 2 "count_again" f10 _ ["self", "number", "at"] (A5 cC zU Kc):=⟨C6 cl n1 n2 n3 n4 F10 B C4,b10,cl,m10⟩
 have M7:eS l.prog w K mg base cC 3 "count_from" f7 _ ["self", "number", "at"] (A5 cC zU λ_=>true):=⟨Fz cl n1 n2 n3 n4 F7 B M9 M10 M8,b7,cl,m7⟩
 have oki:i9 l.prog w K mg base 4 f5 _ ["self", "pattern", "text"] (xx cC):=Fx cl n1 n2 n3 n4 F5 B C2 C3 M7
 have M6:eS l.prog w K mg base cC 1 "total" f6 _ ["self"] (uj cC):=⟨Cy cl n1 n4 F6 B,b6,cl,m6⟩
 have M11:eS l.prog w K mg base cC 1 "ends_of" f11 _ ["self", "number", "at"] (ou cC):=⟨FA cl n4 F11 B,b11,cl,m11⟩
 have M13:eS l.prog w K mg base cB 1 "choose" f13 _ ["self", "sizes"] (kE cB):=⟨Ap clB nl F13 B,b13,clB,m13⟩
 have M16:eS l.prog w K mg base cD 2 "size" f16 _ ["self", "number", "at", "onward"] (lf cD cC cB):=⟨Cz clD nd1 F16 B M11,b16,clD,m16⟩
 have M17:eS l.prog w K mg base cD 3 "onward_ahead" f17 _ ["self", "number", "places", "onward"] (mW cD cC cB):=⟨C5 clD nd1 F17 B M16,b17,clD,m17⟩
 have oT:=qM (P:=l.prog) (w:=w) (base:=base) x0 ⟨cl,n1⟩ ⟨cl,n2⟩ ⟨cl,n3⟩ ⟨clD,nd1⟩ ⟨clD,nd2⟩ ⟨clD,nd3⟩ B M11 M16 M17 M13 F18 b18 m18 F19 b19 m19 F20 b20 m20 F21 b21 m21 5
 have M18:eS l.prog w K mg base cD 13 "make_tree" f18 _ ["self", "number", "onward"] (mT cD cC cB 5):=⟨oT,b18,clD,m18⟩
 have M15:eS l.prog w K mg base cD 14 "whole_tree" f15 _ ["self"] (HR cD cC cB 5):=⟨Am ⟨cl,n1⟩ ⟨clD,nd1⟩ F15 B M18,b15,clD,m15⟩
 have C22:A3 l.prog w K mg base cX 15 "tree_at" f22 _ ["pattern", "text", "k"] (EC 5):=⟨An (by decide) xq x1 F22 B ⟨mk,oki,b5,x4⟩ ⟨mkB,C0 clB nl F12 B,b12,x5⟩ ⟨mkD,CZ clD nd1 nd2 nd3 F14 B,b14,x6⟩ M6 M15,b22,k22,g22⟩
 have C23:cU l.prog w K mg base 1 "_law_pool" f23 _ ["cell"] xw:=⟨Fu F23 B,b23,k23,g23⟩
 have CN:cU l.prog w K mg base 1 "_law_next" f24 _ ["pool", "base"] gD:=⟨Fw F24 B,b24,k24,g24⟩
 have CNB:cU l.prog w K mg base 1 "_law_next" f24 _ ["pool", "base"] um:=⟨CK F24 B,b24,k24,g24⟩
 have CL:cU l.prog w K mg base 2 "_law_letters" f25 _ ["pool"] oq:=⟨xL F25 B CN,b25,k25,g25⟩
 have CSi:cU l.prog w K mg base 2 "_law_signs" f26 _ ["pool", "letters"] mQ:=⟨CF F26 B CN,b26,k26,g26⟩
 have CSz:∀n:Nat,cU l.prog w K mg base (n+1) "_law_size" f27 d27 ["pattern"] (l6 n):=by
  intro n
  induction n with
  |zero=>exact⟨kK λas G Q h=>by obtain⟨p,_,hd,_⟩:=h;have:=o7 p;ac_nf,b27,k27,g27⟩
  |succ n ih=>exact⟨Ft (k:=n+1) (by ac_nf) F27 B ih,b27,k27,g27⟩
 have CPa:∀n:Nat,cU l.prog w K mg base (2*n+8) "_law_pattern" f30 d30 ["pool", "letters", "deep", "room", "blank"] (mS n):=by
  intro n
  induction n with
  |zero=>exact⟨kK λas G Q h=>by obtain⟨_,_,_,d,_,_,_,_,hd,_⟩:=h;ac_nf,b30,k30,g30⟩
  |succ n ih=>exact⟨xJ (k:=2*n+8) (by ac_nf) F30 B CN CSi ⟨Fs (k:=2*n+8) (by ac_nf) F28 B CN (CSz 5) ih,b28,k28,g28⟩ ⟨Fy (k:=2*n+8) (by ac_nf) F29 B CN (CSz 5) ih,b29,k29,g29⟩ ih,b30,k30,g30⟩
 have CGr:∀n:Nat,cU l.prog w K mg base (n+2) "_law_grown" f31 d31 ["pool", "pattern", "room"] (mV n):=by
  intro n
  induction n with
  |zero=>exact⟨kK λas G Q h=>by obtain⟨_,_,p,_,_,_,_,_,_,hd,_⟩:=h;have:=o7 p;ac_nf,b31,k31,g31⟩
  |succ n ih=>exact⟨CY (k:=n+2) (by ac_nf) F31 B CN ih,b31,k31,g31⟩
 have CGx:cU l.prog w K mg base 8 "_law_grown" f31 _ ["pool", "pattern", "room"] (mV 5):=⟨(CGr 5).ok.mono (by decide),b31,k31,g31⟩
 have CTx:cU l.prog w K mg base 9 "_law_text" f32 _ ["pool", "pattern", "letters", "most"] uk:=⟨Fq (k:=8) (by decide) F32 B CN CGx,b32,k32,g32⟩
 have CBo:cU l.prog w K mg base 1 "_law_both" f33 _ ["some", "more"] uo:=⟨FB F33 B,b33,k33,g33⟩
 have CTr:∀n:Nat,cU l.prog w K mg base (n+1) "_law_trees" f34 d34 ["pattern", "text", "at"] (gx n):=by
  intro n
  induction n with
  |zero=>exact⟨kK λas G Q h=>by obtain⟨p,_,_,_,a,_⟩:=h;have:=o7 p;have:=a.d;ac_nf,b34,k34,g34⟩
  |succ n ih=>exact⟨Cw (k:=n+1) (by ac_nf) F34 B CBo ih,b34,k34,g34⟩
 have CWh:cU l.prog w K mg base 50 "_law_whole_trees" f35 _ ["pattern", "text"] ui:=⟨(Cu (k:=41) (by decide) F35 B (CTr 40)).mono (by decide),b35,k35,g35⟩
 have CPx:cU l.prog w K mg base 20 "_law_pattern" f30 _ ["pool", "letters", "deep", "room", "blank"] (mS 5):=⟨(CPa 5).ok.mono (by decide),b30,k30,g30⟩
 have CTy:cU l.prog w K mg base 20 "_law_text" f32 _ ["pool", "pattern", "letters", "most"] uk:=⟨CTx.ok.mono (by decide),b32,k32,g32⟩
 have CSc:cU l.prog w K mg base 50 "_law_scene" f36 _ ["cell", "most"] ul:=⟨(CJ (k:=20) (by decide) F36 B C23 CN CL CPx CTy).mono (by decide),b36,k36,g36⟩
 have CRe:cU l.prog w K mg base 16 "_law_refused" f37 _ ["pattern", "text", "k"] (BF 5):=⟨IU xq xu xk x1 x2 x3 hV kG kV kM F37 B C22,b37,k37,g37⟩
 exact IV (k:=50) (by decide) F38 B CSc CWh CNB CRe C22
theorem MG{K:PySem.W.Frag}{H:Hp}{a:Addr}{xs:List V}(h:SqL K H a xs)(o:GT H):FzL K H a xs:=by
 rcases h with(h|⟨ob,h⟩)|h
 ·rcases o a with e|⟨ob,ys,e⟩<;>(rw[e]at h;cases h)
 ·exact .inl ⟨ob,h⟩
 ·exact .inr h
theorem walk{l:PySem.W.OpenLaw}{q:aJ}{loose:List Str}{XP:(Str->Option ae)->Heap->Prop}{YP:aV->Heap->Prop}{d:DefRec}{K:Params->PySem.W.Frag}(hn:l.most=some 63)(hdf:d.params.defaults=[])
  (hY:∀(w:aV) (h:Heap),YP w h->(K w.params).In h)
  (F:∀(w:aV) (mg:Str->Option ae) (fa:Addr) (h:Heap),(K w.params).In h->h.Ns bO mg->mg d.name=some (.ref fa)->
   ∃fd:aW,(∀(s:ai) (u:ae),BindsTo s fd ⟨[u],[]⟩ [("script",u)])/\∀base:Heap,(K w.params).In base->base.Ns bO mg->FnOk l.prog w (K w.params) mg base GU 51 fa fd ["script"] (G9 (K w.params) yP)):
  PySem.W.WalkO q loose XP YP l.row.toRowW d [] (λf vs=>PySem.call f vs):=
 L2.walk_of (n:=63) (k:=51) (x:= "script") (CX:=λ_=>GU) (sp:=λw=>G9 (K w.params) yP) hn (by decide) hdf ⟨rfl,by decide,by decide⟩ hY F
  (λ_ H a ns hl ho hS=>⟨[.ro (ns.map PV.int)],λ_=>none,λp _=>p= .bl true,.cons ⟨a,_,rfl,MG hS ho,zB ns⟩ .nil,λ_ _ z=>(nomatch z),⟨ns,rfl,hl,λ_=>rfl⟩,λp G v H' e d _ _=>by subst e;exact d⟩) λ_ _ _ _ _ z=>z
end T17
open PySem PySem.W PyProof.Rows
set_option maxRecDepth 100000 in
theorem PySem.Challenge.cw_tastegrove_k17_tree_at_a_number_holds : PySem.Challenge.rw_tastegrove_k17_tree_at_a_number.Holds := by
 refine T17.tp ⟨⟨T17.h1,T17.h2⟩,?_⟩
 k_fill
 refine T17.walk (l:=PySem.Challenge.rw_tastegrove_k17_tree_at_a_number) rfl rfl (fun w h Y=>PySem.W.kIn_of Y) ?F
 case F=>
  intro w mg fa h KX G hmg
  refine' T17.all_mk KX G hmg ?zv ?u1 ?u2 ?u3 ?u4 ?u5 ?u6 ?u7 ?u8 ?u9 ?u10 ?u11 ?u12 ?u13 ?u14 ?u15 ?u16 ?u17 ?u18 ?u19 ?u20 ?u21 ?u22 ?u23 ?u24 ?u25 ?u26 ?u27 ?u28 ?u29 ?u30 ?u31 ?u32 ?u33 ?u34 ?u35 ?u36 ?u37 ?u38 ?m0 ?m1 ?m2 ?m3 ?m4 ?m5 ?m6 ?zc ?zcB ?zcD ?ze ?zb
  (case zv=>k_is)
  (case m0=>k_is)
  (case m1=>k_is)
  (case m2=>k_is)
  (case m3=>k_is)
  (case m4=>k_is)
  (case m5=>k_is)
  (case m6=>k_is)
  case u1=>exact⟨by k_is,_,_,_,_,_,_,_,_,_,by k_is,by k_is,by k_is⟩
  case u2=>exact⟨by k_is,_,_,_,_,_,_,_,_,_,by k_is,by k_is,by k_is⟩
  case u3=>exact⟨by k_is,_,_,_,_,_,_,_,_,_,by k_is,by k_is,by k_is⟩
  case u4=>exact⟨by k_is,_,_,_,_,_,_,_,_,_,by k_is,by k_is,by k_is⟩
  case u5=>exact⟨by k_is,_,_,_,_,_,_,_,_,_,by k_is,by k_is,by k_is⟩
  case u6=>exact⟨by k_is,_,_,_,_,_,_,_,_,_,by k_is,by k_is,by k_is⟩
  case u7=>exact⟨by k_is,_,_,_,_,_,_,_,_,_,by k_is,by k_is,by k_is⟩
  case u8=>exact⟨by k_is,_,_,_,_,_,_,_,_,_,by k_is,by k_is,by k_is⟩
  case u9=>exact⟨by k_is,_,_,_,_,_,_,_,_,_,by k_is,by k_is,by k_is⟩
  case u10=>exact⟨by k_is,_,_,_,_,_,_,_,_,_,by k_is,by k_is,by k_is⟩
  case u11=>exact⟨by k_is,_,_,_,_,_,_,_,_,_,by k_is,by k_is,by k_is⟩
  case u12=>exact⟨by k_is,_,_,_,_,_,_,_,_,_,by k_is,by k_is,by k_is⟩
  case u13=>exact⟨by k_is,_,_,_,_,_,_,_,_,_,by k_is,by k_is,by k_is⟩
  case u14=>exact⟨by k_is,_,_,_,_,_,_,_,_,_,by k_is,by k_is,by k_is⟩
  case u15=>exact⟨by k_is,_,_,_,_,_,_,_,_,_,by k_is,by k_is,by k_is⟩
  case u16=>exact⟨by k_is,_,_,_,_,_,_,_,_,_,by k_is,by k_is,by k_is⟩
  case u17=>exact⟨by k_is,_,_,_,_,_,_,_,_,_,by k_is,by k_is,by k_is⟩
  case u18=>exact⟨by k_is,_,_,_,_,_,_,_,_,_,by k_is,by k_is,by k_is⟩
  case u19=>exact⟨by k_is,_,_,_,_,_,_,_,_,_,by k_is,by k_is,by k_is⟩
  case u20=>exact⟨by k_is,_,_,_,_,_,_,_,_,_,by k_is,by k_is,by k_is⟩
  case u21=>exact⟨by k_is,_,_,_,_,_,_,_,_,_,by k_is,by k_is,by k_is⟩
  case u22=>exact⟨by k_is,_,_,_,_,_,_,_,_,_,by k_is,by k_is,by k_is⟩
  case u23=>exact⟨by k_is,_,_,_,_,_,_,_,_,_,by k_is,by k_is,by k_is⟩
  case u24=>exact⟨by k_is,_,_,_,_,_,_,_,_,_,by k_is,by k_is,by k_is⟩
  case u25=>exact⟨by k_is,_,_,_,_,_,_,_,_,_,by k_is,by k_is,by k_is⟩
  case u26=>exact⟨by k_is,_,_,_,_,_,_,_,_,_,by k_is,by k_is,by k_is⟩
  case u27=>exact⟨by k_is,_,_,_,_,_,_,_,_,_,by k_is,by k_is,by k_is⟩
  case u28=>exact⟨by k_is,_,_,_,_,_,_,_,_,_,by k_is,by k_is,by k_is⟩
  case u29=>exact⟨by k_is,_,_,_,_,_,_,_,_,_,by k_is,by k_is,by k_is⟩
  case u30=>exact⟨by k_is,_,_,_,_,_,_,_,_,_,by k_is,by k_is,by k_is⟩
  case u31=>exact⟨by k_is,_,_,_,_,_,_,_,_,_,by k_is,by k_is,by k_is⟩
  case u32=>exact⟨by k_is,_,_,_,_,_,_,_,_,_,by k_is,by k_is,by k_is⟩
  case u33=>exact⟨by k_is,_,_,_,_,_,_,_,_,_,by k_is,by k_is,by k_is⟩
  case u34=>exact⟨by k_is,_,_,_,_,_,_,_,_,_,by k_is,by k_is,by k_is⟩
  case u35=>exact⟨by k_is,_,_,_,_,_,_,_,_,_,by k_is,by k_is,by k_is⟩
  case u36=>exact⟨by k_is,_,_,_,_,_,_,_,_,_,by k_is,by k_is,by k_is⟩
  case u37=>exact⟨by k_is,_,_,_,_,_,_,_,_,_,by k_is,by k_is,by k_is⟩
  case u38=>exact⟨by k_is,_,_,_,_,_,_,_,_,_,by k_is,by k_is,by k_is⟩
  (case zc=>kernel_rfl)
  (case zcB=>kernel_rfl)
  (case zcD=>kernel_rfl)
  (case ze=>kernel_rfl)
  (case zb=>kernel_rfl)
