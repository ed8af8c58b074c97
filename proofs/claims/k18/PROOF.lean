import PyProof.Rows.All
import Wide.All
import OpenK.AllK
import Wide.FinOn
import Lean
import PyProof.EqAt
import PyProof.EqKinds
import PyProof.NeKinds
import PyProof.TupleCall
import PyProof.CollectStr
import PyProof.FactsAll.tuple
import PyProof.Draws
import PyProof.EnumMake
import PyProof.ListTruth
import PyProof.RaisesMany
import PyProof.Rows.SetFrom
import PyProof.StrLawsIn
import PyProof.TupleIter
import PySem.Challenge.RW_tastegrove_k18_numbers_of_trees
set_option Elab.async false
set_option linter.all false
set_option maxRecDepth 100000
set_option maxHeartbeats 0
set_option compiler.extract_closed false
set_option genSizeOf false
namespace T18
open PySem
def top(i:Nat):Stmt:=PySem.Challenge.pw_tastegrove_k18_numbers_of_trees.main.body.getD i (.Pass ⟨0,0,0,0⟩)
abbrev pw:Program:=PySem.Challenge.pw_tastegrove_k18_numbers_of_trees
def vw:Program:={pw with main:={pw.main with body:=[top 0,top 2,top 4,top 5,top 6,top 8,top 9,top 11,top 12,top 13,top 15,top 16,top 17,top 18,top 20,top 21,top 22,top 24,top 25,top 26,top 27,top 28,top 29,top 30,top 31,top 32,top 33,top 34,top 35,top 36,top 37,top 38,top 39]}}
theorem two_all{W α β γ:Type}{o:W→Option α}{f:W→α→β}{g:W→α→γ}{a:W→β}{b:W→γ}(h1:∀w,(o w).map (f w)=some (a w))(h2:∀w,(o w).map (g w)=some (b w)):∀w,(o w).map (fun x=>(f w x,g w x))=some (a w,b w):=fun w=>by
 have h1:=h1 w
 have h2:=h2 w
 cases h:o w with
 |none=>rw[h]at h1;cases h1
 |some x=>
  rw[h]at h1 h2
  simp only[Option.map_some,Option.some.injEq]at h1 h2⊢
  rw[h1,h2]
theorem helper{A B C:Prop}(f:A→B→C)(hw:A)(call:B):C:=f hw call
def q1{A B W V:Prop}(_:(A∧B)∧W→V):Prop:=A
def q2{A B W V:Prop}(_:(A∧B)∧W→V):Prop:=B
end T18
open PySem PySem.W PyProof.Rows in
local macro_rules | `(tactic| o_head $H) => `(tactic| (apply T18.helper (fun hw hc => holds_open (q := T18.vw) (loose := []) (Xt := fun s => xlAt T18.vw [] s && recOk (RowW.records (OpenRow.toRowW (OpenLaw.row PySem.Challenge.rw_tastegrove_k18_numbers_of_trees))) s) (XP := XL T18.vw []) (Yf := Hook.obs $H) (Ya := Hook.val $H) (YP := Hook.says $H) (N := 4262) (T18.two_all (And.left (And.left hc)) (And.right (And.left hc))) (Hook.of $H) (Hook.keeps $H) (fun s e => xl_of s (Bool.and_eq_true_iff.mp e).1) XL.keeps (by rfl) (by rfl) (by rfl) (fun s e => recFacts_of (Bool.and_eq_true_iff.mp e).2) (by rfl) (by first | assumption | decide +kernel) (by decide +kernel) ⟨rfl, rfl, rfl, rfl, rfl, by decide +kernel⟩ hw (And.right hc))))
open PySem PySem.W PyProof.Rows in
open_top T18.tp for PySem.Challenge.rw_tastegrove_k18_numbers_of_trees
theorem T18.h1:T18.q1 @T18.tp:=by
 unfold T18.q1
 intro w
 kernel_rfl
theorem T18.h2:T18.q2 @T18.tp:=by
 unfold T18.q2
 intro w
 kernel_rfl
open PySem renaming wpAny_bind → aa, Value → ae, Shared → al, wpAny_pure → ao, starEach → aB, Program → aK, sizeLine → aQ, model → aT, World → aX, FuncData → a8, wpAny_mono → bu, wpAny_newObj_type → bG, wpAny_field → bS, backTo → ce, mainGlobals → cf, bootBuiltins → cu, Builtin → cw, attributeBase → cz, wpAny_callSpecial?_slot → cH, wpAny_holding → cJ, compareOp → cL, wpAny_call_entry → cZ, binaryOp → dO, wpAny_seqItems → dU, foldedSetIterable → dY, IsPair → er, NameKind → eA, keywordEach → eK, Scope → eL, wpAny_setField_rec → eQ, sysModules → eS, lookup_relabel_local → fD, wpAny_passesOwn → gi, behindInMarks → gq, Keyword → gD, wpAny_typeOf → gX, cLine → im, backToKw → io, wpAny_updateSeq → iu, wpAny_rule → iB, wpAny_Call_Name_kw → iC, wpAny_truthy_bool → iR, getItem → iS, swapsWith → jh, sliceBounds → jy, sizeLine_eq → jz, wpAny_loadPart' → jL, letOwnedTupleGo → jQ, assignEach → ky, wpAny_onRaise → lp, wpAny_comprehension_free → lq, wpAny_attempt → lr, wpAny_isInstance → lU, codeAny_compStart_list → nQ, call_meets → nR, wpAny_execs_nil → n9, wpAny_updateSeq_pair → pL, wpAny_newFunctionEnv → pM, tupleKind_room_in1 → sd, wpAny_sequenceKey → ud, wpAny_pyIter_list → ue, wpAny_pyIter_dict → uf, slot_list_getitem → ux, wpAny_getItem_list_slice → Bx
open List renaming length_map → ai, getElem?_eq_getElem → ak, getElem?_eq_some_iff → aq, mem_singleton → au, mem_map → av, map_cons → aw, mem_of_getElem? → ax, size_toArray → aA, getElem?_map → aC, mem_cons → aI, length_append → aL, length_cons → aM, map_append → aR, all_eq_true → aU, mem_append → aZ, sum_cons → ba, mem_append_right → bd, nodup_cons → bi, take_length → bj, length_take → bo, map_map → bp, take_add_one → bt, mem_flatMap → bB, range → bE, not_mem_nil → bF, replicate → bJ, length_reverse → bK, getElem?_append_right → bO, getElem?_append_left → bT, append_nil → cr, append_assoc → cx, take_append_drop → cP, getElem?_eq_none → cQ, mem_range → cS, any_cons → cT, mem_cons_of_mem → cX, getElem?_set_ne → cY, flatten_cons → c8, replicate_succ → dz, getElem?_range → dA, drop_eq_getElem_cons → dF, sum_nil → dN, getElem?_set_self → dZ, getD_eq_getElem?_getD → eB, find?_cons → eU, reverse_cons → eY, flatMap_cons → eZ, map_congr_left → fE, filterMap_cons → fF, lookup_cons → fG, flatMap_append → gU, mem_filter → hJ, mem_cons_self → hZ, length → ib, take_of_length_le → iy, map_nil → iz, mem_iff_getElem? → iO, cons_append → iQ, lookup → iY, eq_nil_of_length_eq_zero → iZ, countP_pos_iff → jp, filter_append → jK, all_cons → ko, getElem?_replicate → kA, forIn_cons → lB, length_filter_le → lR, take_succ → mD, mem_of_mem_take → mE, reverse_append → oh, filter_eq_self → oi, pairwise_iff_getElem → wZ, length_eq_zero_iff → yz, getElem?_cons_zero → yA, filter_cons_of_pos → yB, filter_cons_of_neg → yC, length_pos_iff → EA
open PySem.Heap renaming get?_push_of_some → aj, lt_size → aF, get?_push_size → aJ, get?_update_other → ck, size_push → cU, get?_update_self → dH, SameBut → e8
open Nat renaming le_refl → am, le_trans → aP, ne_of_lt → aS, le_of_ble_eq_true → aW, zero_le → bn, lt_of_lt_of_le → bz, pow_le_pow_right → bV, lt_or_ge → cW, lt_succ_of_lt → dj, lt_irrefl → dP, zero_add → en, pos_of_ne_zero → eJ, lt_succ_self → fL, le_succ → gB, zero_mul → gL, mul_zero → gM, add_comm → gO, ne_of_gt → iM, le_of_lt → iN, pow_add → jf, mul_le_mul_right → jg, not_lt_zero → jm, pow_pos → km, sub_self → lz, min_eq_left → lQ, pow_one → nY, le_zero → nZ, lt_of_le_of_lt → pY, lt_succ_of_le → rZ
open PySem.Str renaming ofString → aD
open Ne renaming symm → aG
open PySem.Value renaming ref → aH, none → bA, type → bD, int → ed, bool → fj, str → jx, builtin → kh, isStrOf → og
open Option.some renaming inj → bc
open Array renaming length_toList → br, getElem?_toList → lC
open PyProof.Rows renaming slot_tuple_getitem → bw, callWith_type1 → fK, AllBare → lm, entry_tuple_getitem → rL, args_tuple_getitem → su
open Bool renaming false_ne_true → bx, and_eq_true → bC, and_false → mF, false_eq_true → pK, and_eq_true_iff → Bj
open PySem.Builtin.SmallTypes renaming nextOf → bM
open PySem.Builtin.Slice renaming slicePlaces → bX, sliceAdjust → dX, sliceApplied → fS, sliceFields → pJ
open False renaming elim → bZ
open PySem.Builtin.Tuple renaming tupleExact → cg, tupleItemsOf → iP, tupleIsExact → pj
open True renaming intro → cF
open PySem.Builtin.List renaming listExtendWith → cR, listTooLong → dB, listSameRef → gh, listLengthHint → pq
open PySem.Obj renaming mapSeq → c9
open PySem.Data renaming fields → dC, seq → fc
open Sum renaming inr → dG, inl → iK
open Int renaming emod_lt_of_pos → dM, emod_nonneg → e7, ofNat_inj → i0, toNat_natCast → kq
open PySem.Builtin.Range renaming rangeSize → eP
open ForInStep renaming yield → gE
open PySem.Builtin.Str renaming occurrences → gG
open PySem.F renaming slot_tuple_iterator_next → gP, slot_zip_next → ie, args_zip_next_1 → sA, slot_dict_keyiterator_iter → w8, args_tuple_iterator_next_1 → w9, entry_tuple_iterator_next → xi
open PySem.Txt renaming join → g9
open PySem.Calls renaming callWith_builtin → ir, spliced_cons → jI, evalArgs_plain → mz, spliced_nil → p0, Name_function_global → vx
open Classical renaming byContradiction → jq
open PySem.NameKind renaming free → jJ
open Option renaming some → jW, isSome_iff_exists → jZ
open PySem.Heap.IsSliceOf renaming new → kB
open PySem.SeqAt.EqAt renaming str_int → lO, int_str → lP
local macro_rules | `(tactic| ac_nf) => `(tactic| first | lia | omega)
namespace L2
open PySem PySem.Spec PyProof.Rows
noncomputable abbrev Key:=Sum Int Str
noncomputable def tD:Key->ae->Bool
 | .inl k,v=>ae.isInt k v
 | .inr x,v=>og x v
noncomputable def Oz(w:aX):Key->Int
 | .inl k=>hashInt k
 | .inr x=>hashStr w x
theorem dS:∀{k:Key} {v:ae},tD k v=true->(∃i t,k=iK i/\v=ed i t)\/(∃x t,k=dG x/\v=jx x t)
 | .inl i,v,h=>by
  obtain⟨t,e⟩:=ae.isInt_shape (k:=i) (v:=v) h
  exact .inl ⟨i,t,rfl,e⟩
 | .inr x,v,h=>by
  obtain⟨t,e⟩:=ae.isStrOf_shape (x:=x) (v:=v) h
  exact .inr ⟨x,t,rfl,e⟩
theorem AM(i:Int)(t:Tok):tD (.inl i) (.int i t)=true:=by simp[tD,ae.isInt]
theorem AL(x:Str)(t:Tok):tD (.inr x) (.str x t)=true:=by simp[tD,og]
theorem JJ(a b:Int):decide ((iK a:Key)=iK b)=(a==b):=by
 by_cases e:a=b
 ·subst e;simp
 ·have h:¬(iK a:Key)=iK b:=λq=>e (iK.inj q)
  rw[decide_eq_false h]
  exact(beq_eq_false_iff_ne.mpr e).symm
theorem JC(a b:Str):decide ((dG a:Key)=dG b)=decide (a=b):=by
 by_cases e:a=b
 ·subst e;simp
 ·have h:¬(dG a:Key)=dG b:=λq=>e (dG.inj q)
  rw[decide_eq_false h,decide_eq_false e]
theorem JH(a:Int)(b:Str):decide ((iK a:Key)=dG b)=false:=decide_eq_false (λq=>nomatch q)
theorem JD(a:Str)(b:Int):decide ((dG a:Key)=iK b)=false:=decide_eq_false (λq=>nomatch q)
noncomputable def mixKind(prog:aK)(w:aX):PySem.KeyKind prog w Key where
 is:=tD
 hash:=Oz w
 inj:=λv a b ha hb=>by
  rcases dS ha with⟨i,t,rfl,rfl⟩|⟨x,t,rfl,rfl⟩
  ·rcases dS hb with⟨j,u,rfl,e⟩|⟨y,u,rfl,e⟩
   ·injection e with e1 _;rw[e1]
   ·exact nomatch e
  ·rcases dS hb with⟨j,u,rfl,e⟩|⟨y,u,rfl,e⟩
   ·exact nomatch e
   ·injection e with e1 _;rw[e1]
 byValue:=λk v h=>by
  rcases dS h with⟨i,t,rfl,rfl⟩|⟨x,t,rfl,rfl⟩<;>rfl
 pyHash:=λhv h=>by
  rcases dS hv with⟨i,t,rfl,rfl⟩|⟨x,t,rfl,rfl⟩
  ·exact wpAny_pyHash_int h
  ·exact wpAny_pyHash_str h
 eqBool:=λhu hv h=>by
  rcases dS hu with⟨i,t,rfl,rfl⟩|⟨x,t,rfl,rfl⟩
  ·rcases dS hv with⟨j,u,rfl,rfl⟩|⟨y,u,rfl,rfl⟩
   ·rw[JJ]at h;exact wpAny_eqBool_int h
   ·rw[JH]at h;exact lP i t y u _ _ _ _ h
  ·rcases dS hv with⟨j,u,rfl,rfl⟩|⟨y,u,rfl,rfl⟩
   ·rw[JD]at h;exact lO x t j u _ _ _ _ h
   ·rw[JC]at h;exact wpAny_eqBool_str h
 «strs»:=λk x t v h=>by
  rcases dS h with⟨i,u,rfl,e⟩|⟨y,u,rfl,e⟩
  ·exact nomatch e
  ·injection e with e1 _
   subst e1
   cases v<;>rfl
theorem wn(prog:aK)(w:aX)(i:Int)(t:Tok):(mixKind prog w).is (.inl i) (.int i t)=true:=AM i t
theorem wm(prog:aK)(w:aX)(x:Str)(t:Tok):(mixKind prog w).is (.inr x) (.str x t)=true:=AL x t
inductive V where
 |non|bl (b:Bool)|int (i:Int)|str (x:Str)|byt (b:Array UInt8)|flt (b:UInt64)|ref (a:Addr)|ty (n:String)
 deriving DecidableEq
noncomputable def RelV:V->ae->Prop
 | .non,u=>u=bA
 | .bl b,u=>u=fj b
 | .int i,u=>∃t,u=ed i t
 | .str x,u=>∃t,u=jx x t
 | .byt b,u=>∃t,u=ae.bytes b t
 | .flt b,u=>∃t,u=ae.float b t
 | .ref a,u=>u=aH a
 | .ty n,u=>u=bD n
noncomputable abbrev Vals:List V->List ae->Prop:=Paired RelV
theorem Vals.length{xs:List V}{us:List ae}(r:Vals xs us):xs.length=us.length:=Paired.length r
theorem Vals.get:∀{xs:List V} {us:List ae} {i:Nat} {x:V},Vals xs us->xs[i]? =some x->∃u,us[i]? =some u/\RelV x u
 |_,_,_,_,.nil,e=>by simp at e
 |_,_,0,_,.cons r _,e=>by simp at e;subst e;exact⟨_,rfl,r⟩
 |_,_,i+1,x,.cons _ t,e=>by
  obtain⟨u,h1,h2⟩:=Vals.get (i:=i) (x:=x) t (by simpa using e)
  exact⟨u,by simpa using h1,h2⟩
theorem Vals.set{x:V}{u:ae}(r:RelV x u):∀{xs:List V} {us:List ae} (i:Nat),Vals xs us->Vals (xs.set i x) (us.set i u)
 |_,_,_,.nil=> .nil
 |_,_,0,.cons _ t=> .cons r t
 |_,_,i+1,.cons q t=> .cons q (Vals.set r i t)
theorem Vals.append:∀{xs ys:List V} {us ws:List ae},Vals xs us->Vals ys ws->Vals (xs++ys) (us++ws)
 |_,_,_,_,.nil,s=>s
 |_,_,_,_,.cons r t,s=> .cons r (Vals.append t s)
theorem Vals.take:∀{xs:List V} {us:List ae} (n:Nat),Vals xs us->Vals (xs.take n) (us.take n)
 |_,_,0,_=> .nil
 |_,_,_+1,.nil=> .nil
 |_,_,n+1,.cons r t=> .cons r (Vals.take n t)
theorem Vals.drop:∀{xs:List V} {us:List ae} (n:Nat),Vals xs us->Vals (xs.drop n) (us.drop n)
 |_,_,0,r=>r
 |_,_,_+1,.nil=> .nil
 |_,_,n+1,.cons _ t=>Vals.drop n t
noncomputable def RelO:Option V->Option ae->Prop
 |some v,some u=>RelV v u
 |none,none=>True
 |_,_=>False
noncomputable def KV{κ:Type}:List (κ×V)->List (κ×ae)->Prop:=Paired fun(p:κ×V) (q:κ×ae)=>p.1=q.1/\RelV p.2 q.2
noncomputable def kV:Key->V
 | .inl i=> .int i
 | .inr x=> .str x
inductive HO where
  |lst (xs:List V)
  |tup (xs:List V)
  |dK (kvs:List (Key×V))|dT (kvs:List (List Key×V))
  |set (S:Int->Bool) (n:Nat)
  |ins (C dx:Addr) (fs:List (Str×V))
  |own (x:Addr)
  |xd (fs:List (Str×V))
  |met (f x:Addr)
  |rng (lo hi:Int)
  |frz (o:Obj) (u:HO)
  |tbl (ps:Array ae)
  |ext (φ:Heap->Prop)
noncomputable abbrev Hp:=Addr->Option HO
noncomputable def upd(H:Hp)(a:Addr)(o:HO):Hp:=λb=>if b=a then some o else H b
theorem cG{H:Hp}{a:Addr}{o:HO}:upd H a o a=some o:=by unfold upd;rw[if_pos rfl]
theorem bH{H:Hp}{a b:Addr}{o:HO}(h:b≠a):upd H a o b=H b:=by unfold upd;rw[if_neg h]
theorem L6{H:Hp}{a b:Addr}{o u:HO}(h:H a=some o)(h':H b=some u)(d:o≠u):a≠b:=by
 intro e;subst e;rw[h]at h';exact d (bc h')
theorem cM{H:Hp}{a b:Addr}{o:HO}(h:H a=some o)(h':H b=none):a≠b:=by
 intro e;subst e;rw[h]at h';cases h'
section
variable(P:aK)(w:aX)
noncomputable def ObjOk(H:Hp)(h:Heap)(a:Addr):HO->Prop
 | .lst xs=>xs.length<=aQ/\∃(its:List ae) (n:Nat),Vals xs its/\h.get? a=some {cls:= .type "list",data:= .seq its.toArray n}
 | .tup xs=>xs.length<=aQ/\∃its:List ae,Vals xs its/\IsTup h a its.toArray
 | .dK kvs=>kvs.length<=aQ/\(a==eS)=false/\∃vs,KV kvs vs/\h.DictOf (mixKind P w) a vs
 | .dT kvs=>kvs.length<=aQ/\(a==eS)=false/\∃xs:List (List Key×Addr×ae),
   Paired (fun(p:List Key×V) (q:List Key×Addr×ae)=>p.1=q.1/\H q.2.1=some (.tup (p.1.map kV))/\RelV p.2 q.2.2) kvs xs/\
   ∃o es ep,h.get? a=some o/\o.ExactDict/\o.data= .dict es ep/\es.toList=xs.map (entryOfKey (tupleKind (mixKind P w)))/\(xs.map (·.1)).Nodup
 | .set S n=>h.SetOf (intKind P w) a S n
 | .ins C dx fs=>H dx=some (.own a)/\fs.length<=1000/\dx≠a/\h.get? a=some (PySem.W.instObj C dx)/\
   ∃mA,h.Ns1 dx mA/\(∀f,RelO (fs.lookup f) (mA f))/\PySem.Within mA (fs.map (·.1))
 | .own _=>∃o,h.get? a=some o
 | .xd fs=>∃mA,h.Ns1 a mA/\∀f,RelO (fs.lookup f) (mA f)
 | .rng lo hi=>∃t u v,h.get? a=some {cls:= .type "range",data:= .fields #[.int lo t,.int hi u,.int 1 v]}
 | .frz o u=>h.get? a=some o/\ObjOk H h a u
 | .tbl ps=>h.get? a=some {cls:= .none,data:= .fields ps}
 | .met f x=>h.get? a=some (PySem.W.methodObj (.ref f) (.ref x))
 | .ext φ=>φ h/\(∃o,h.get? a=some o)/\∀h1 h2:Heap,φ h1->(∀o,h1.get? a=some o->h2.get? a=some o)->φ h2
noncomputable def HOk(H:Hp)(h:Heap):Prop:=∀a o,H a=some o->ObjOk P w H h a o
end
section
variable{P:aK}{w:aX}{H H':Hp}{h h':Heap}{a:Addr}{o:HO}
theorem ObjOk.lt(x:ObjOk P w H h a o):a<h.objs.size:=by
 cases o with
 |lst xs=>obtain⟨_,_,_,_,e⟩:=x;exact aF e
 |tup xs=>obtain⟨_,_,_,p⟩:=x;exact p.lt
 |dK kvs=>obtain⟨_,_,_,_,o,_,_,e,_⟩:=x;exact aF e
 |dT kvs=>obtain⟨_,_,_,_,o,_,_,e,_⟩:=x;exact aF e
 |set S n=>obtain⟨o,_,_,_,e,_⟩:=x;exact aF e
 |ins C dx fs=>obtain⟨_,_,_,e,_⟩:=x;exact aF e
 |own y=>obtain⟨_,e⟩:=x;exact aF e
 |xd fs=>obtain⟨_,⟨_,_,_,e,_⟩,_⟩:=x;exact aF e
 |rng lo hi=>obtain⟨_,_,_,e⟩:=x;exact aF e
 |frz ob u=>obtain⟨e,_⟩:=x;exact aF e
 |tbl ps=>exact aF (show h.get? a=some _ from x)
 |met f y=>exact aF (show h.get? a=some _ from x)
 |ext φ=>obtain⟨_,⟨_,e⟩,_⟩:=x;exact aF e
theorem Paired.mapP{α β:Type}{F G:α->β->Prop}:∀{l₁:List α} {l₂:List β},Paired F l₁ l₂->(∀a b,F a b->G a b)->Paired G l₁ l₂
 |_,_,.nil,_=> .nil
 |_,_,.cons r t,f=> .cons (f _ _ r) (Paired.mapP t f)
theorem ObjOk.stay(x:ObjOk P w H h a o)(k:∀b u,(b=a\/H b=some (.own a))->h.get? b=some u->h'.get? b=some u)
  (ho:∀b,H b=some (.own a)->H' b=some (.own a)) (ht:∀b xs,H b=some (.tup xs)->H' b=some (.tup xs)):ObjOk P w H' h' a o:=by
 induction o with
 |lst xs=>obtain⟨z,its,n,r,e⟩:=x;exact⟨z,its,n,r,k _ _ (.inl rfl) e⟩
 |tup xs=>obtain⟨z,its,r,ob,e,c⟩:=x;exact⟨z,its,r,ob,k _ _ (.inl rfl) e,c⟩
 |dK kvs=>obtain⟨z,y,vs,r,ob,es,ep,e,c⟩:=x;exact⟨z,y,vs,r,ob,es,ep,k _ _ (.inl rfl) e,c⟩
 |dT kvs=>
  obtain⟨z,y,xs,r,ob,es,ep,e,c⟩:=x
  exact⟨z,y,xs,Paired.mapP r λp q z=>⟨z.1,ht _ _ z.2.1,z.2.2⟩,ob,es,ep,k _ _ (.inl rfl) e,c⟩
 |set S n=>obtain⟨ob,es,ep,t,e,c⟩:=x;exact⟨ob,es,ep,t,k _ _ (.inl rfl) e,c⟩
 |ins C dx fs=>
  obtain⟨d,z,ne,e,mA,⟨od,es,ep,e2,c⟩,r⟩:=x
  exact⟨ho _ d,z,ne,k _ _ (.inl rfl) e,mA,⟨od,es,ep,k _ _ (.inr d) e2,c⟩,r⟩
 |own y=>obtain⟨ob,e⟩:=x;exact⟨ob,k _ _ (.inl rfl) e⟩
 |xd fs=>obtain⟨mA,⟨od,es,ep,e,c⟩,r⟩:=x;exact⟨mA,⟨od,es,ep,k _ _ (.inl rfl) e,c⟩,r⟩
 |rng lo hi=>obtain⟨t,u,v,e⟩:=x;exact⟨t,u,v,k _ _ (.inl rfl) e⟩
 |frz ob u ih=>obtain⟨e,q⟩:=x;exact⟨k _ _ (.inl rfl) e,ih q⟩
 |tbl ps=>
  have e:h.get? a=some {cls:= .none,data:= .fields ps}:=x
  show h'.get? a=some {cls:= .none,data:= .fields ps}
  exact k a _ (.inl rfl) e
 |met f y=>
  have e:h.get? a=some (PySem.W.methodObj (.ref f) (.ref y)):=x
  show h'.get? a=some (PySem.W.methodObj (.ref f) (.ref y))
  exact k a _ (.inl rfl) e
 |ext φ=>obtain⟨p,⟨o,e⟩,st⟩:=x;exact⟨st _ _ p λo q=>k _ _ (.inl rfl) q,⟨o,k _ _ (.inl rfl) e⟩,st⟩
theorem HOk.lt(x:HOk P w H h)(e:H a=some o):a<h.objs.size:=(x a o e).lt
theorem HOk.fresh(x:HOk P w H h)(e:h.objs.size<=a):H a=none:=by
 cases q:H a with
 |none=>rfl
 |some u=>exact absurd (bz (x.lt q) e) (dP _)
theorem HOk.kept(x:HOk P w H h)(k:∀b u,h.get? b=some u->h'.get? b=some u):HOk P w H h':=λa o e=>
 (x a o e).stay (λb u _ q=>k b u q) (λ_ q=>q) λ_ _ q=>q
theorem HOk.laid(x:HOk P w H h)(k:∀b u,h.get? b=some u->h'.get? b=some u)(hp:h.objs.size<=a)(new:ObjOk P w (upd H a o) h' a o):HOk P w (upd H a o) h':=λb u e=>by
 have hn:=x.fresh hp
 by_cases hb:b=a
 ·subst hb;rw[cG]at e;cases e;exact new
 ·rw[bH hb]at e
  exact(x b u e).stay (λc v _ q=>k c v q) (λc q=>by rw[bH (cM q hn)];exact q) λc xs q=>by rw[bH (cM q hn)];exact q
end
noncomputable def Rd(H:Hp)(a:Addr)(u:HO):Prop:=H a=some u\/∃o,H a=some (.frz o u)
theorem Rd.ok{P:aK}{w:aX}{H:Hp}{h:Heap}{a:Addr}{u:HO}(r:Rd H a u)(x:HOk P w H h):ObjOk P w H h a u:=by
 rcases r with r|⟨o,r⟩
 ·exact x a u r
 ·obtain⟨_,q⟩:=x a _ r
  exact q
noncomputable def Nz:Option HO->Prop
 |some (.lst _)=>True
 |some (.dK _)=>True
 |some (.dT _)=>True
 |some (.set _ _)=>True
 |some (.ins _ _ _)=>True
 |some (.ext _)=>True
 |_=>False
section
variable{P:aK}{w:aX}{H:Hp}{h h':Heap}{x e:Addr}{o':HO}
theorem HOk.write(ok:HOk P w H h)(mu:Nz (H x))(he:e=x\/H e=some (.own x))(k:∀b u,b≠e->h.get? b=some u->h'.get? b=some u)(heo:∃u,h'.get? e=some u)
  (new:ObjOk P w (upd H x o') h' x o'):HOk P w (upd H x o') h':=λb u q=>by
 have nown:∀c y,H c=some (.own y)->c≠x:=λc y r z=>by subst z;rw[r]at mu;exact mu
 have ntup:∀c xs,H c=some (.tup xs)->c≠x:=λc xs r z=>by subst z;rw[r]at mu;exact mu
 by_cases hb:b=x
 ·subst hb;rw[cG]at q;cases q;exact new
 ·rw[bH hb]at q
  by_cases hbe:b=e
  ·have q':H b=some (.own x):=by
    rcases he with z|z
    ·exact absurd (hbe.trans z) hb
    ·rw[hbe];exact z
   rw[q]at q';cases q'
   obtain⟨v,hv⟩:=heo
   exact⟨v,by rw[hbe];exact hv⟩
  ·refine(ok b u q).stay (λc v hc r=>k c v ?_ r) (λc r=>by rw[bH (nown c b r)];exact r) λc xs r=>by rw[bH (ntup c xs r)];exact r
   rcases hc with rfl|hc
   ·exact hbe
   ·rintro rfl
    rcases he with z|z
    ·exact nown c b hc z
    ·rw[hc]at z;cases z;exact hb rfl
end
structure Un(fs ex:List Addr)(H H':Hp)(h h':Heap):Prop where
 keep:∀b o,h.get? b=some o->H b=none->b∉fs->b∉ex->h'.get? b=some o
 slot:∀b o,h.get? b=some o->H b=none->b∈fs->b∉ex->∃sl,h'.get? b=some {o with slots:=sl}
 free:∀b o,h.get? b=some o->H b=none->b∉ex->H' b=none
 there:∀b o,h.get? b=some o->b∉ex->∃o',h'.get? b=some o'
 tups:∀b xs,H b=some (.tup xs)->H' b=some (.tup xs)
 frzs:∀b o u,H b=some (.frz o u)->H' b=some (.frz o u)
 tbls:∀b ps,H b=some (.tbl ps)->∃more,H' b=some (.tbl (ps++more))
section
variable{fs ex:List Addr}{H H1:Hp}{h h1 h':Heap}{a x e:Addr}{o:HO}
theorem Un.any(u:Un fs ex H H1 h h1){b:Addr}{ob:Obj}(q:h.get? b=some ob)(n:H b=none)(hx:b∉ex):∃sl,h1.get? b=some {ob with slots:=sl}:=by
 by_cases hb:b∈fs
 ·exact u.slot b ob q n hb hx
 ·exact⟨ob.slots,u.keep b ob q n hb hx⟩
theorem Un.kept(k:∀b u,h.get? b=some u->h'.get? b=some u):Un fs ex H H h h':=
 ⟨λb ob q _ _ _=>k b ob q,λb ob q _ _ _=>⟨ob.slots,k b ob q⟩,λ_ _ _ n _=>n,λb ob q _=>⟨ob,k b ob q⟩,λ_ _ q=>q,λ_ _ _ q=>q,λ_ ps q=>⟨#[],by rw[q];simp⟩⟩
theorem Un.refl:Un fs ex H H h h:=Un.kept λ_ _ q=>q
theorem Un.laid(k:∀b u,h.get? b=some u->h'.get? b=some u)(hp:h.objs.size<=a)(hn:H a=none):Un fs ex H (upd H a o) h h' where
 keep:=λb u q _ _ _=>k b u q
 slot:=λb u q _ _ _=>⟨u.slots,k b u q⟩
 free:=λb u q n _=>by rw[bH (aS (bz (aF q) hp))];exact n
 there:=λb u q _=>⟨u,k b u q⟩
 tups:=λb xs q=>by rw[bH (cM q hn)];exact q
 frzs:=λb u xs q=>by rw[bH (cM q hn)];exact q
 tbls:=λb ps q=>⟨#[],by rw[bH (cM q hn),q];simp⟩
theorem Un.write(mu:Nz (H x))(he:e=x\/H e=some (.own x))(k:∀b u,b≠e->h.get? b=some u->h'.get? b=some u)(heo:∃u,h'.get? e=some u):Un fs ex H (upd H x o) h h':=by
 have hx:∀b,H b=none->b≠x:=λb n z=>by subst z;rw[n]at mu;exact mu
 have hb:∀b,H b=none->b≠e:=λb n z=>by
  subst z
  rcases he with r|r
  ·exact hx b n r
  ·rw[n]at r;cases r
 have hm:∀b u,H b=some u->¬Nz (some u)->b≠x:=λb u q nm z=>by subst z;rw[q]at mu;exact nm mu
 refine⟨λb u q n _ _=>k b u (hb b n) q,λb u q n _ _=>⟨u.slots,k b u (hb b n) q⟩,λb u q n _=>by rw[bH (hx b n)];exact n,λb u q _=> ?_,
  λb xs q=>by rw[bH (hm b _ q λz=>z)];exact q,λb u xs q=>by rw[bH (hm b _ q λz=>z)];exact q,λb ps q=>⟨#[],by rw[bH (hm b _ q λz=>z),q];simp⟩⟩
 by_cases hbe:b=e
 ·subst hbe;exact heo
 ·exact⟨u,k b u hbe q⟩
end
noncomputable def ND(h:Heap)(H:Hp):List Addr:=(bE h.objs.size).filter λa=>(H a).isSome
noncomputable def uT(h:Heap)(H:Hp):Heap:=PySem.W.hideAll h (ND h H)
theorem A0(h:Heap)(H:Hp):(uT h H).objs.size=h.objs.size:=PySem.W.hideAll_size _ _
theorem DS{h:Heap}{H:Hp}{b:Addr}{o:Obj}(e:h.get? b=some o)(n:H b=none):(uT h H).get? b=some o:=
 PySem.W.hideAll_get _ e λhm=>by
  have q:(H b).isSome=true:=(hJ.mp hm).2
  rw[n]at q;simp at q
theorem FS{h:Heap}{H:Hp}{b:Addr}{o:Obj}(e:(uT h H).get? b=some o):h.get? b=some o/\H b=none:=by
 have e':h.get? b=some o:=PySem.W.of_hideAll (ND h H) e
 refine⟨e',?_⟩
 cases q:H b with
 |none=>rfl
 |some x=>
  have hm:b∈ND h H:=hJ.mpr ⟨cS.mpr (aF e'),by simp[q]⟩
  have z:(uT h H).get? b=none:=PySem.W.hideAll_none (ND h H) hm
  rw[z]at e;cases e
structure Mod(K:PySem.W.Frag)(mg:Str->Option ae)(base:Heap):Prop where
 kin:K.In base
 glob:base.Ns cf mg
 blt:∃mb,base.Ns builtinsNs mb/\∀x:Str,x≠ "__name__" ->mb x=cu x
 nolimit:base.NoLimit
structure Cx where
 prog:aK
 w:aX
 K:PySem.W.Frag
 mg:Str->Option ae
 base:Heap
 A:Around
 N:List Str
 s₀:al
 H₀:Hp
 env:Env
 outer:List Env
 stack:List Env
 ex:List Addr
 fn:Str->Bool
 calm:Bool
 pn:List (Addr×Obj)
 xe:ae->al->Prop
noncomputable def xc(l:List Env):List Addr:=l.filterMap (·.frame)
noncomputable abbrev Cx.fs(X:Cx):List Addr:=xc X.outer
noncomputable def OP(sc:eL)(x:Str):Prop:=sc.names.lookup x=some .local\/sc.names.lookup x=some .cell\/sc.names.lookup x=some .free
noncomputable def xh(sc:eL)(x:Str):Prop:=sc.names.lookup x=some .local\/sc.names.lookup x=some .cell
noncomputable def OT(env:Env)(h:Heap)(m:Str->Option ae)(x:Str)(u:ae):Prop:=
 (env.kindOf x=some .local/\m x=some u)\/((env.kindOf x=some .cell\/env.kindOf x=some .free)/\∃c,env.cells.lookup x=some c/\h.IsCell c (some u))
structure Cx.Ok(X:Cx):Prop where
 mod:Mod X.K X.mg X.base
 kind:X.env.scope.kind= .function
 glob:X.env.globals=cf
 blt:X.env.builtins=builtinsNs
 above:X.s₀.heap.objs.size<=X.env.locals
 inj:∀x y c,X.env.cells.lookup x=some c->X.env.cells.lookup y=some c->x=y
 has:∀x,(X.env.kindOf x=some .cell\/X.env.kindOf x=some .free)->∃c,X.env.cells.lookup x=some c
 cab:∀x c,X.fn x=true->X.env.cells.lookup x=some c->X.s₀.heap.objs.size<=c
 hd:X.calm=true->X.A.handled=none
 frames:X.A.frames=some X.stack
 stk:X.stack=X.outer\/(X.stack=X.env::X.outer/\X.env.frame=some X.env.locals)
 exf:∀b∈X.ex,b≠X.env.locals/\∀x c,X.env.cells.lookup x=some c->c≠b
 bs:∀b o,X.base.get? b=some o->X.s₀.heap.get? b=some o/\X.H₀ b=none
 bsz:X.base.objs.size<=X.s₀.heap.objs.size
 noex:∀b o,X.base.get? b=some o->b∉X.ex
 exfs:∀b∈X.ex,b∉X.fs
 funs:X.s₀.heap.FunFrames X.base X.outer
 frf:∀b∈X.fs,X.H₀ b=none
structure Inv(X:Cx)(pins:List (Addr×Obj))(σ:List (Option V))(H:Hp)(s:al):Prop where
 ok:X.Ok
 os:s.os=X.s₀.os
 bare:lm s.gens
 base:Un X.fs X.ex X.H₀ H X.s₀.heap s.heap
 loc:∃m,s.heap.Ns X.env.locals m/\∀(i:Nat) (x:Str) (v:V),X.N[i]? =some x->σ[i]? =some (some v)->OP X.env.scope x->∃u,RelV v u/\OT X.env s.heap m x u
 cell:∀x c,X.env.cells.lookup x=some c->∃v,s.heap.IsCell c v
 free:H X.env.locals=none
 freeC:∀x c,X.env.cells.lookup x=some c->H c=none
 pin:∀p∈X.pn++pins,s.heap.get? p.1=some p.2/\H p.1=none/\p.1≠X.env.locals/\p.1∉X.fs/\∀v,p.2.data≠ .cell v
 hok:HOk X.prog X.w H s.heap
 len:σ.length=X.N.length
section
variable{X:Cx}{pins:List (Addr×Obj)}{σ:List (Option V)}{H H':Hp}{s:al}{h':Heap}
theorem Cx.Ok.nofr(ok:X.Ok){b:Addr}{o:Obj}(e:X.base.get? b=some o):b∉X.fs:=λhb=>by
 have:=(ok.funs.mem hb).1
 rw[e]at this;cases this
theorem Inv.bs(I:Inv X pins σ H s):∀b o,X.base.get? b=some o->s.heap.get? b=some o/\H b=none:=λb o e=>
 ⟨I.base.keep b o (I.ok.bs b o e).1 (I.ok.bs b o e).2 (I.ok.nofr e) (I.ok.noex b o e),I.base.free b o (I.ok.bs b o e).1 (I.ok.bs b o e).2 (I.ok.noex b o e)⟩
theorem Inv.bk(I:Inv X pins σ H s):∀b o,X.base.get? b=some o->s.heap.get? b=some o:=λb o e=>(I.bs b o e).1
theorem Inv.mod(I:Inv X pins σ H s):Mod X.K X.mg X.base:=I.ok.mod
theorem Inv.kIn(I:Inv X pins σ H s):X.K.In s.heap:=I.ok.mod.kin.keeps I.bk
theorem Inv.fr(I:Inv X pins σ H s):∃m,Fr X.base X.env.locals s.heap m:=
 let⟨m,hn,_⟩:=I.loc
 ⟨m,hn,I.bk,aP I.ok.bsz I.ok.above⟩
theorem Inv.lt(I:Inv X pins σ H s):X.env.locals<s.heap.objs.size:=let⟨_,hn,_⟩:=I.loc;hn.lt
theorem Inv.sz(I:Inv X pins σ H s):X.s₀.heap.objs.size<=s.heap.objs.size:=aP I.ok.above (iN I.lt)
theorem Inv.nofs(I:Inv X pins σ H s){a:Addr}(h:s.heap.objs.size<=a):a∉X.fs:=λhb=>by
 obtain⟨_,o,ho,_⟩:=I.ok.funs.mem hb
 exact absurd (bz (aF ho) (aP I.sz h)) (dP _)
theorem Inv.cne(I:Inv X pins σ H s):∀x c,X.env.cells.lookup x=some c->c≠X.env.locals:=λx c e z=>by
 obtain⟨v,o,ho,hd⟩:=I.cell x c e
 obtain⟨m,⟨o',es,ep,ho',hd',_⟩,_⟩:=I.loc
 rw[z,ho']at ho;cases ho;rw[hd']at hd;cases hd
theorem Inv.funs(I:Inv X pins σ H s):s.heap.FunFrames X.base X.outer:=by
 have all:∀(l:List Env),(∀b∈xc l,b∈X.fs)->X.s₀.heap.FunFrames X.base l->s.heap.FunFrames X.base l:=by
  intro l
  induction l with
  |nil=>intro _ _;trivial
  |cons env r ih=>
   intro hs hl
   obtain⟨hk,⟨L,o,hf,hn,ho,hd⟩,hr⟩:=hl
   have hL:L∈X.fs:=hs L (by unfold xc;rw[fF,hf];exact hZ)
   obtain⟨sl,e⟩:=I.base.slot L o ho (I.ok.frf L hL) hL λz=>I.ok.exfs L z hL
   exact⟨hk,⟨L,_,hf,hn,e,hd⟩,ih (λb hb=>hs b (by unfold xc;rw[fF,hf];exact cX _ hb)) hr⟩
 exact all X.outer (λ_ hb=>hb) I.ok.funs
theorem Inv.stack(I:Inv X pins σ H s):s.heap.FunFrames X.base X.stack:=by
 rcases I.ok.stk with e|⟨e,hf⟩
 ·rw[e];exact I.funs
 ·rw[e]
  obtain⟨m,hn,_⟩:=I.loc
  refine .cons (by rw[I.ok.kind];decide) hf hn ?_ I.funs
  exact Heap.get?_none_of_le (aP I.ok.bsz I.ok.above)
theorem Inv.stkSub(I:Inv X pins σ H s):∀b∈xc X.stack,b∈X.env.locals::X.fs:=λb hb=>by
 rcases I.ok.stk with e|⟨e,hf⟩
 ·rw[e]at hb;exact cX _ hb
 ·rw[e]at hb
  unfold xc at hb
  rw[fF,hf]at hb
  exact hb
theorem Inv.stkFree(I:Inv X pins σ H s):∀b∈xc X.stack,H b=none:=λb hb=>by
 rcases aI.mp (I.stkSub b hb)with e|hb
 ·rw[e];exact I.free
 ·obtain⟨_,o,ho,_⟩:=I.ok.funs.mem hb
  exact I.base.free b o ho (I.ok.frf b hb) λz=>I.ok.exfs b z hb
theorem Inv.step{g':Array GenState}{t':Nat}{d':Drawn}{ch:List Addr}(I:Inv X pins σ H s)
  (hch:∀b∈ch,(b∈X.ex\/X.s₀.heap.objs.size<=b)/\b≠X.env.locals/\(∀x c,X.env.cells.lookup x=some c->c≠b)/\∀p∈X.pn++pins,p.1≠b)
  (keep:∀b o,b≠X.env.locals->b∉X.fs->b∉ch->s.heap.get? b=some o->H b=none->h'.get? b=some o)
  (slot:∀b o,b≠X.env.locals->b∈X.fs->b∉ch->s.heap.get? b=some o->H b=none->∃sl,h'.get? b=some {o with slots:=sl}) (free:∀b o,b∉ch->s.heap.get? b=some o->H b=none->H' b=none)
  (there:∀b o,b∉ch->s.heap.get? b=some o->∃o',h'.get? b=some o')
  (tups:∀b xs,H b=some (.tup xs)->H' b=some (.tup xs)) (frzs:∀b o u,H b=some (.frz o u)->H' b=some (.frz o u)) (tbls:∀b ps,H b=some (.tbl ps)->∃more,H' b=some (.tbl (ps++more)))
  (ns:∀m,s.heap.Ns X.env.locals m->h'.Ns X.env.locals m) (hok:HOk X.prog X.w H' h') (hg:lm g'):
  Inv X pins σ H' {s with heap:=h',gens:=g',drawn:=d',toks:=t'}:=by
 have neL:∀b o,X.s₀.heap.get? b=some o->b≠X.env.locals:=λb o e=>aS (bz (aF e) I.ok.above)
 have neC:∀b o,X.s₀.heap.get? b=some o->b∉X.ex->b∉ch:=λb o e hx hb=>by
  rcases(hch b hb).1 with z|z
  ·exact hx z
  ·exact absurd (bz (aF e) z) (dP _)
 have cellK:∀x c,X.env.cells.lookup x=some c->∀v,s.heap.IsCell c v->h'.IsCell c v:=λx c e v hPl=>by
  obtain⟨o,ho,hd⟩:=hPl
  have nch:c∉ch:=λz=>(hch c z).2.2.1 x c e rfl
  by_cases hc:c∈X.fs
  ·obtain⟨sl,q⟩:=slot c o (I.cne x c e) hc nch ho (I.freeC x c e)
   exact⟨_,q,hd⟩
  ·exact⟨o,keep c o (I.cne x c e) hc nch ho (I.freeC x c e),hd⟩
 refine⟨I.ok,I.os,hg,⟨λb o e n hb hx=> ?_,λb o e n hb hx=> ?_,λb o e n hx=> ?_,λb o e hx=> ?_,λb xs e=>tups b xs (I.base.tups b xs e),λb o xs e=>frzs b o xs (I.base.frzs b o xs e),λb ps e=> ?_⟩,?_,λx c e=> ?_,?_,λx c e=> ?_,λp hp=> ?_,hok,I.len⟩
 ·exact keep b o (neL b o e) hb (neC b o e hx) (I.base.keep b o e n hb hx) (I.base.free b o e n hx)
 ·obtain⟨sl,e1⟩:=I.base.slot b o e n hb hx
  obtain⟨sl',e2⟩:=slot b _ (neL b o e) hb (neC b o e hx) e1 (I.base.free b o e n hx)
  exact⟨sl',e2⟩
 ·obtain⟨o',e1⟩:=I.base.there b o e hx
  exact free b o' (neC b o e hx) e1 (I.base.free b o e n hx)
 ·obtain⟨o',e1⟩:=I.base.there b o e hx
  exact there b o' (neC b o e hx) e1
 ·obtain⟨m1,e1⟩:=I.base.tbls b ps e
  obtain⟨m2,e2⟩:=tbls b _ e1
  exact⟨m1++m2,by rw[e2,Array.append_assoc]⟩
 ·obtain⟨m,hn,hl⟩:=I.loc
  refine⟨m,ns m hn,λi x v e1 e2 e3=> ?_⟩
  obtain⟨u,r,l⟩:=hl i x v e1 e2 e3
  refine⟨u,r,?_⟩
  rcases l with l|⟨k,c,e,z⟩
  ·exact .inl l
  ·exact .inr ⟨k,c,e,cellK x c e _ z⟩
 ·obtain⟨v,z⟩:=I.cell x c e
  exact⟨v,cellK x c e v z⟩
 ·obtain⟨m,⟨o,_,_,ho,_⟩,_⟩:=I.loc
  exact free _ o (λz=>(hch _ z).2.1 rfl) ho I.free
 ·obtain⟨v,o,ho,hd⟩:=I.cell x c e
  exact free c o (λz=>(hch c z).2.2.1 x c e rfl) ho (I.freeC x c e)
 ·obtain⟨e,n,ne,nf,d⟩:=I.pin p hp
  have nch:p.1∉ch:=λz=>(hch p.1 z).2.2.2 p hp rfl
  exact⟨keep p.1 p.2 ne nf nch e n,free p.1 p.2 nch e n,ne,nf,d⟩
theorem Inv.un{t':Nat}(I:Inv X pins σ H s)(u:Un X.fs [] H H' s.heap h')(hok:HOk X.prog X.w H' h'):Inv X pins σ H' {s with heap:=h',toks:=t'}:=by
 obtain⟨m,⟨o,es,ep,ho,r⟩,_⟩:=id I.loc
 obtain⟨sl,hL⟩:=u.any ho I.free (by simp)
 exact I.step (g':=s.gens) (d':=s.drawn) (ch:=[]) (λ_ z=>nomatch z) (λb o _ hb _ e n=>u.keep b o e n hb (by simp)) (λb o _ hb _ e n=>u.slot b o e n hb (by simp)) (λb o _ e n=>u.free b o e n (by simp)) (λb o _ e=>u.there b o e (by simp)) u.tups u.frzs u.tbls (λm' hm=>by
  obtain⟨o',es',ep',ho',r'⟩:=hm
  rw[ho]at ho';cases ho'
  exact⟨_,es',ep',hL,r'⟩) hok I.bare
theorem Inv.call{g':Array GenState}{t':Nat}{d':Drawn}{ch:List Addr}(I:Inv X pins σ H s)(u:Un (xc X.stack) ch H H' s.heap h')(hok:HOk X.prog X.w H' h')(hg:lm g')
  (hch:∀b∈ch,(b∈X.ex\/X.s₀.heap.objs.size<=b)/\b≠X.env.locals/\(∀x c,X.env.cells.lookup x=some c->c≠b)/\∀p∈X.pn++pins,p.1≠b):
  Inv X pins σ H' {s with heap:=h',gens:=g',drawn:=d',toks:=t'}:=by
 obtain⟨m,⟨o,es,ep,ho,r⟩,_⟩:=id I.loc
 obtain⟨sl,hL⟩:=u.any ho I.free λz=>(hch _ z).2.1 rfl
 exact I.step (ch:=ch) hch (λb o hL hb hc e n=>u.keep b o e n (λz=>(aI.mp (I.stkSub b z)).elim hL hb) hc) (λb o _ _ hc e n=>u.any e n hc) (λb o hc e n=>u.free b o e n hc) (λb o hc e=>u.there b o e hc) u.tups u.frzs u.tbls (λm' hm=>by
  obtain⟨o',es',ep',ho',r'⟩:=hm
  rw[ho]at ho';cases ho'
  exact⟨_,es',ep',hL,r'⟩) hok hg
theorem Inv.turned{t':Nat}{it:Addr}(I:Inv X pins σ H s)(k:∀b o,b≠it->s.heap.get? b=some o->h'.get? b=some o)(hn:H it=none)(hL:it≠X.env.locals)
  (h1:it∈X.ex\/X.s₀.heap.objs.size<=it) (h2:∀x c,X.env.cells.lookup x=some c->c≠it) (h3:∀p∈X.pn++pins,p.1≠it):Inv X pins σ H {s with heap:=h',toks:=t'}:=by
 have nit:∀b u,H b=some u->b≠it:=λb u e z=>by rw[z,hn]at e;cases e
 refine I.step (g':=s.gens) (d':=s.drawn) (ch:=[it]) (λb hb=> ?_) (λb o _ _ hc e _=>k b o (λz=>hc (by simp[z])) e) (λb o _ _ hc e _=>⟨o.slots,k b o (λz=>hc (by simp[z])) e⟩) (λ_ _ _ _ n=>n)
  (λb o hc e=>⟨o,k b o (λz=>hc (by simp[z])) e⟩) (λ_ _ e=>e) (λ_ _ _ e=>e) (λb ps e=>⟨#[],by rw[e];simp⟩) (λm hm=> ?_) (λb u e=> ?_) I.bare
 ·have e:b=it:=by simpa using hb
  subst e
  exact⟨h1,hL,h2,h3⟩
 ·obtain⟨o,es,ep,ho,r⟩:=hm
  exact⟨o,es,ep,k _ o (aG hL) ho,r⟩
 ·refine(I.hok b u e).stay (λc v hc q=>k c v ?_ q) (λ_ q=>q) λ_ _ q=>q
  rcases hc with z|z
  ·rw[z];exact nit b u e
  ·exact nit c _ z
theorem Inv.tok(I:Inv X pins σ H s)(t:Nat):Inv X pins σ H {s with toks:=t}:=I.un (h':=s.heap) (t':=t) Un.refl I.hok
theorem Inv.kept{t':Nat}(I:Inv X pins σ H s)(k:∀b u,s.heap.get? b=some u->h'.get? b=some u):Inv X pins σ H {s with heap:=h',toks:=t'}:=I.un (Un.kept k) (I.hok.kept k)
theorem Inv.laid{a:Addr}{o:HO}{t':Nat}(I:Inv X pins σ H s)(k:∀b u,s.heap.get? b=some u->h'.get? b=some u)(hp:s.heap.objs.size<=a)(new:ObjOk X.prog X.w (upd H a o) h' a o):
  Inv X pins σ (upd H a o) {s with heap:=h',toks:=t'}:=I.un (Un.laid k hp (I.hok.fresh hp)) (I.hok.laid k hp new)
theorem Inv.write{x e:Addr}{o:HO}{t':Nat}(I:Inv X pins σ H s)(mu:Nz (H x))(he:e=x\/H e=some (.own x))(k:∀b u,b≠e->s.heap.get? b=some u->h'.get? b=some u)(heo:∃u,h'.get? e=some u)
  (new:ObjOk X.prog X.w (upd H x o) h' x o):Inv X pins σ (upd H x o) {s with heap:=h',toks:=t'}:=I.un (Un.write mu he k heo) (I.hok.write mu he k heo new)
theorem Inv.weak{σ':List (Option V)}(I:Inv X pins σ H s)(hl:σ'.length=σ.length)(w:∀(i:Nat) v,σ'[i]? =some (some v)->σ[i]? =some (some v)):Inv X pins σ' H s:=
 ⟨I.ok,I.os,I.bare,I.base,let⟨m,hn,hl'⟩:=I.loc;⟨m,hn,λi x v e1 e2 e3=>hl' i x v e1 (w i v e2) e3⟩,I.cell,I.free,I.freeC,I.pin,I.hok,hl.trans I.len⟩
theorem Inv.pins_of{pins':List (Addr×Obj)}(I:Inv X pins σ H s)(h:∀p∈pins',s.heap.get? p.1=some p.2/\H p.1=none/\p.1≠X.env.locals/\p.1∉X.fs/\∀v,p.2.data≠ .cell v):Inv X pins' σ H s:=
 ⟨I.ok,I.os,I.bare,I.base,I.loc,I.cell,I.free,I.freeC,λp hp=>(aZ.mp hp).elim (λz=>I.pin p (List.mem_append_left _ z)) (h p),I.hok,I.len⟩
theorem wg{N:List Str}(hN:N.Nodup){i j:Nat}{x:Str}(a:N[i]? =some x)(b:N[j]? =some x):i=j:=by
 obtain⟨h1,e1⟩:=aq.mp a
 obtain⟨h2,e2⟩:=aq.mp b
 exact(List.getElem_inj hN).mp (e1.trans e2.symm)
theorem Aj{M:Model}{A:Around}{E:ae->al->Prop}{i:Nat}{x:Str}{v:V}{u:ae}{Q:Unit->al->Prop}(I:Inv X pins σ H s)(hN:X.N.Nodup)(hi:X.N[i]? =some x)(hx:xh X.env.scope x)(r:RelV v u)
  (h:∀s',Inv X pins (σ.set i (some v)) H s'->(∃a,e8 a s.heap s'.heap/\(a=X.env.locals\/X.env.cells.lookup x=some a))->Q () s') (hf:X.fn x=true\/X.env.scope.names.lookup x=some .local:=by first|exact .inl rfl|exact .inr rfl|assumption):wpAny M A (storeName X.env x u) Q E s:=by
 obtain⟨m,hn,hl⟩:=id I.loc
 have hcls:(X.env.scope.kind== .class||(X.env.scope.kind== .module&&X.env.locals !=X.env.globals))=false:=by rw[I.ok.kind];rfl
 have hiσ:i<σ.length:=by rw[I.len];exact(aq.mp hi).1
 have cne:=I.cne
 have tracked:∀{a:Addr} {h':Heap},(∃o,s.heap.get? a=some o/\H a=none)->e8 a s.heap h'->HOk X.prog X.w H h':=fun{a h'} ha hs b ob e=>by
  obtain⟨_,_,hfree⟩:=ha
  refine(I.hok b ob e).stay (λc w' hc q=>(hs.2 c ?_).trans q) (λ_ q=>q) λ_ _ q=>q
  rintro rfl
  rcases hc with rfl|hc
  ·rw[hfree]at e;cases e
  ·rw[hfree]at hc;cases hc
 rcases hx with hk|hk
 ·refine wpAny_storeName_local hk hn (λh' hn' hs=> ?_) hcls
  obtain⟨oL,_,_,hoL,_⟩:=id hn
  refine h _ ⟨I.ok,I.os,I.bare,⟨λb o e n hb hx=> ?_,λb o e n hb hx=> ?_,I.base.free,λb o e hx=> ?_,I.base.tups,I.base.frzs,I.base.tbls⟩,⟨_,hn',λj y v' e1 e2 e3=> ?_⟩,λy c e=> ?_,I.free,I.freeC,λp hp=> ?_,tracked ⟨oL,hoL,I.free⟩ hs,by simpa using I.len⟩ ⟨_,hs,.inl rfl⟩
  ·exact(hs.2 b (aS (bz (aF e) I.ok.above))).trans (I.base.keep b o e n hb hx)
  ·obtain⟨sl,e1⟩:=I.base.slot b o e n hb hx
   exact⟨sl,(hs.2 b (aS (bz (aF e) I.ok.above))).trans e1⟩
  ·obtain⟨o',e1⟩:=I.base.there b o e hx
   exact⟨o',(hs.2 b (aS (bz (aF e) I.ok.above))).trans e1⟩
  ·by_cases hj:j=i
   ·subst hj
    rw[hi]at e1;cases e1
    rw[dZ hiσ]at e2
    cases e2
    exact⟨u,r,.inl ⟨hk,by simp⟩⟩
   ·rw[cY (aG hj)]at e2
    obtain⟨u',r',q⟩:=hl j y v' e1 e2 e3
    refine⟨u',r',?_⟩
    rcases q with⟨k,e⟩|⟨k,c,e,z⟩
    ·refine .inl ⟨k,?_⟩
     have:y≠x:=λe=>hj (wg hN e1 (e▸hi))
     simp[this,e]
    ·exact .inr ⟨k,c,e,z.sameBut hs (cne y c e)⟩
  ·obtain⟨w',z⟩:=I.cell y c e
   exact⟨w',z.sameBut hs (cne y c e)⟩
  ·obtain⟨e,n,ne,nf,d⟩:=I.pin p hp
   exact⟨(hs.2 p.1 ne).trans e,n,ne,nf,d⟩
 ·have hfn:X.fn x=true:=by
   rcases hf with z|z
   ·exact z
   ·rw[z]at hk;cases hk
  obtain⟨c,hc⟩:=I.ok.has x (.inl hk)
  obtain⟨w',z⟩:=I.cell x c hc
  refine wpAny_storeName_cell I.ok.kind hk hc z (λh' hc' hs=> ?_)
  obtain⟨oc,hoc,hocd⟩:=id z
  refine h {s with heap:=h'} ⟨I.ok,I.os,I.bare,⟨λb o e n hb hx=> ?_,λb o e n hb hx=> ?_,I.base.free,λb o e hx=> ?_,I.base.tups,I.base.frzs,I.base.tbls⟩,⟨m,hn.sameBut hs (aG (cne x c hc)),λj y v' e1 e2 e3=> ?_⟩,λy c' e=> ?_,I.free,I.freeC,λp hp=> ?_,tracked ⟨oc,hoc,I.freeC x c hc⟩ hs,by simpa using I.len⟩ ⟨c,hs,.inr hc⟩
  ·exact(hs.2 b (aS (bz (aF e) (I.ok.cab x c hfn hc)))).trans (I.base.keep b o e n hb hx)
  ·obtain⟨sl,e1⟩:=I.base.slot b o e n hb hx
   exact⟨sl,(hs.2 b (aS (bz (aF e) (I.ok.cab x c hfn hc)))).trans e1⟩
  ·obtain⟨o',e1⟩:=I.base.there b o e hx
   exact⟨o',(hs.2 b (aS (bz (aF e) (I.ok.cab x c hfn hc)))).trans e1⟩
  ·by_cases hj:j=i
   ·subst hj
    rw[hi]at e1;cases e1
    rw[dZ hiσ]at e2
    cases e2
    exact⟨u,r,.inr ⟨.inl hk,c,hc,hc'⟩⟩
   ·rw[cY (aG hj)]at e2
    obtain⟨u',r',q⟩:=hl j y v' e1 e2 e3
    refine⟨u',r',?_⟩
    rcases q with q|⟨k,c',e,z'⟩
    ·exact .inl q
    ·refine .inr ⟨k,c',e,z'.sameBut hs ?_⟩
     rintro rfl
     exact hj (wg hN e1 (I.ok.inj _ _ _ e hc▸hi))
  ·by_cases hcc:c'=c
   ·subst hcc;exact⟨_,hc'⟩
   ·obtain⟨w2,z2⟩:=I.cell y c' e
    exact⟨w2,z2.sameBut hs hcc⟩
  ·obtain⟨e,n,ne,nf,d⟩:=I.pin p hp
   refine⟨(hs.2 p.1 ?_).trans e,n,ne,nf,d⟩
   intro q
   rw[q,hoc]at e
   have q':oc=p.2:=bc e
   exact d w' (by rw[<-q'];exact hocd)
theorem qN{M:Model}{A:Around}{E:ae->al->Prop}{i:Nat}{x:Str}{v:V}{u:ae}{Q:Unit->al->Prop}(I:Inv X pins σ H s)(hN:X.N.Nodup)(hi:X.N[i]? =some x)(hx:xh X.env.scope x)(r:RelV v u)
  (h:∀s',Inv X pins (σ.set i (some v)) H s'->Q () s') (hf:X.fn x=true\/X.env.scope.names.lookup x=some .local:=by first|exact .inl rfl|exact .inr rfl|assumption):wpAny M A (storeName X.env x u) Q E s:=
 Aj I hN hi hx r (λs' I' _=>h s' I') hf
theorem Inv.call'{s':al}{ch:List Addr}(I:Inv X pins σ H s)(ho:s'.os=s.os)(u:Un (xc X.stack) ch H H' s.heap s'.heap)(hok:HOk X.prog X.w H' s'.heap)(hg:lm s'.gens)
  (hch:∀b∈ch,(b∈X.ex\/X.s₀.heap.objs.size<=b)/\b≠X.env.locals/\(∀x c,X.env.cells.lookup x=some c->c≠b)/\∀p∈X.pn++pins,p.1≠b):Inv X pins σ H' s':=by
 obtain⟨h',g',d',t',o'⟩:=s'
 have e:o'=s.os:=ho
 subst e
 exact I.call (g':=g') (t':=t') (d':=d') u hok hg hch
end
noncomputable abbrev XK:=ae->Option Addr->Hp->Prop
noncomputable abbrev St:=List (Option V)
noncomputable abbrev VK:=V->Hp->Prop
noncomputable abbrev TE:=St->Hp->VK->Prop
noncomputable abbrev TT:=St->Hp->(Bool->Hp->Prop)->Prop
noncomputable abbrev TA:=St->Hp->(List V->Hp->Prop)->Prop
structure yD where
 nx:St->Hp->Prop
 rt:VK
 bk:St->Hp->Prop:=λ_ _=>False
 ct:St->Hp->Prop:=λ_ _=>False
noncomputable abbrev TS:=yD->St->Hp->Prop
noncomputable def EP(X:Cx)(pins:List (Addr×Obj))(σ:St)(Q:VK)(u:ae)(s':al):Prop:=∃v H',Inv X pins σ H' s'/\RelV v u/\Q v H'
noncomputable def TP(X:Cx)(pins:List (Addr×Obj))(σ:St)(Q:Bool->Hp->Prop)(b:Bool)(s':al):Prop:=∃H',Inv X pins σ H' s'/\Q b H'
noncomputable def AP(X:Cx)(pins:List (Addr×Obj))(σ:St)(Q:List V->Hp->Prop)(us:List ae)(s':al):Prop:=∃vs H',Inv X pins σ H' s'/\Vals vs us/\Q vs H'
noncomputable def SP(X:Cx)(pins:List (Addr×Obj))(D:yD)(f:Flow)(s':al):Prop:=
 match f with
 | .next=>∃σ' H',Inv X pins σ' H' s'/\D.nx σ' H'
 | .brk=>∃σ' H',Inv X pins σ' H' s'/\D.bk σ' H'
 | .cont=>∃σ' H',Inv X pins σ' H' s'/\D.ct σ' H'
 | .ret u=>∃v σ' H',Inv X pins σ' H' s'/\RelV v u/\D.rt v H'
noncomputable def PE(X:Cx)(e:Expr)(t:TE):Prop:=
 ∀(pins:List (Addr×Obj)) (s:al) (σ:St) (H:Hp) (Q:VK),Inv X pins σ H s->t σ H Q->wpAny (aT X.prog X.w) X.A (eval e X.env) (EP X pins σ Q) X.xe s
noncomputable def PT(X:Cx)(e:Expr)(t:TT):Prop:=
 ∀(pins:List (Addr×Obj)) (s:al) (σ:St) (H:Hp) (Q:Bool->Hp->Prop),Inv X pins σ H s->t σ H Q->wpAny (aT X.prog X.w) X.A (isTrue e X.env (eval e X.env)) (TP X pins σ Q) X.xe s
noncomputable def PW(X:Cx)(e:Expr)(t:TT):Prop:=
 ∀(whole:Sem ae) (pins:List (Addr×Obj)) (s:al) (σ:St) (H:Hp) (Q:Bool->Hp->Prop),Inv X pins σ H s->t σ H Q->wpAny (aT X.prog X.w) X.A (isTrue e X.env whole) (TP X pins σ Q) X.xe s
theorem PW.pt{X:Cx}{e:Expr}{t:TT}(h:PW X e t):PT X e t:=h _
noncomputable def PA(X:Cx)(es:List Expr)(t:TA):Prop:=
 ∀(pos:Pos) (pins:List (Addr×Obj)) (s:al) (σ:St) (H:Hp) (Q:List V->Hp->Prop),Inv X pins σ H s->t σ H Q->wpAny (aT X.prog X.w) X.A (spliced (ce pos (aB es X.env))) (AP X pins σ Q) X.xe s
noncomputable def PS(X:Cx)(st:Stmt)(t:TS):Prop:=
 ∀(pins:List (Addr×Obj)) (s:al) (σ:St) (H:Hp) (D:yD),Inv X pins σ H s->t D σ H->wpAny (aT X.prog X.w) X.A (exec st X.env) (SP X pins D) X.xe s
noncomputable def PSs(X:Cx)(st:List Stmt)(t:TS):Prop:=
 ∀(pins:List (Addr×Obj)) (s:al) (σ:St) (H:Hp) (D:yD),Inv X pins σ H s->t D σ H->wpAny (aT X.prog X.w) X.A (execs st X.env) (SP X pins D) X.xe s
theorem eR{α:Type}{t:Sem α}{Q Q':α->al->Prop}{M:Model}{A:Around}{E:ae->al->Prop}{s:al}(h:wpAny M A t Q E s)(hQ:∀a s,Q a s->Q' a s):wpAny M A t Q' E s:=bu h hQ λ_ _ x=>x
section
variable{X:Cx}
noncomputable def NZ(i:Nat):TE:=λσ H Q=>∃v,σ[i]? =some (some v)/\Q v H
noncomputable def tC(v:V):TE:=λ_ H Q=>Q v H
theorem IU{i:Nat}{x:Str}{pos:Pos}(hN:X.N[i]? =some x)(hv:OP X.env.scope x)(hd:(x==("__debug__" :Str))=false:=by decide)(hcd:(x==("__classdict__" :Str))=false:=by decide):PE X (.Name x pos) (NZ i):=by
 intro pins s σ H Q I h
 obtain⟨v,e,h⟩:=h
 obtain⟨m,hn,hl⟩:=I.loc
 obtain⟨u,r,l⟩:=hl i x v hN e hv
 have fin:EP X pins σ Q u s:=⟨v,H,I,r,h⟩
 rcases l with⟨hk,hm⟩|⟨hk,c,hc,hcell⟩
 ·exact wpAny_Name (wpAny_loadName_local I.ok.kind hk hn hm fin) hd
 ·rcases hk with hk|hk
  ·exact wpAny_Name (wpAny_loadName_cell I.ok.kind hk hc hcell fin) hd
  ·exact wpAny_Name (wpAny_loadName_free I.ok.kind hk hc hcell fin hcd) hd
theorem CK{i j pos}:PE X (.Constant (.int i) j pos) (tC (.int i)):=λ_ _ _ H _ I h=>wpAny_Constant_int ⟨.int i,H,I.tok _,⟨_,rfl⟩,h⟩
theorem LN{b j pos}:PE X (.Constant (.bool b) j pos) (tC (.bl b)):=λ_ _ _ H _ I h=>Constant_bool ⟨.bl b,H,I,rfl,h⟩
theorem IZ{j pos}:PE X (.Constant .none j pos) (tC .non):=λ_ _ _ H _ I h=>Constant_none ⟨.non,H,I,rfl,h⟩
theorem IW{x j pos}:PE X (.Constant (.str x) j pos) (tC (.str x)):=λ_ _ _ H _ I h=>Calls.Constant_str ⟨.str x,H,I.tok _,⟨_,rfl⟩,h⟩
noncomputable def Gl(X:Cx)(x:Str):Prop:=X.env.kindOf x=some .globalImplicit
theorem uJ{E:ae->al->Prop}{pins:List (Addr×Obj)}{s:al}{σ:St}{H:Hp}{x:Str}{u:ae}{pos:Pos}{Q:ae->al->Prop}(I:Inv X pins σ H s)(hg:Gl X x)(hm:X.mg x=some u)(h:Q u s)
  (hd:(x==("__debug__" :Str))=false:=by decide):wpAny (aT X.prog X.w) X.A (eval (.Name x pos) X.env) Q E s:=
 vx I.ok.kind hg (Calls.loadGlobal_global (by rw[I.ok.glob];exact I.mod.glob.keeps I.bk) hm h) hd
theorem oW{E:ae->al->Prop}{pins:List (Addr×Obj)}{s:al}{σ:St}{H:Hp}{x:Str}{u:ae}{pos:Pos}{Q:ae->al->Prop}(I:Inv X pins σ H s)(hg:Gl X x)(hm:X.mg x=none)(hv:cu x=some u)(h:Q u s)
  (hn:x≠ "__name__" :=by decide) (hd:(x==("__debug__" :Str))=false:=by decide):wpAny (aT X.prog X.w) X.A (eval (.Name x pos) X.env) Q E s:=by
 obtain⟨mb,h1,h2⟩:=I.mod.blt
 exact vx I.ok.kind hg (Calls.loadGlobal_builtin (by rw[I.ok.glob];exact I.mod.glob.keeps I.bk) hm (by rw[I.ok.blt];exact h1.keeps I.bk) ((h2 x hn).trans hv) h) hd
theorem Fs{x:Str}{v:V}{u:ae}{pos:Pos}(hg:Gl X x)(hm:X.mg x=some u)(r:RelV v u)(hd:(x==("__debug__" :Str))=false:=by decide):PE X (.Name x pos) (tC v):=
 λ_ _ _ H _ I h=>uJ I hg hm ⟨v,H,I,r,h⟩ hd
theorem Fz{x:Str}{v:V}{u:ae}{pos:Pos}(hg:Gl X x)(hm:X.mg x=none)(hv:cu x=some u)(r:RelV v u)(hn:x≠ "__name__" :=by decide)(hd:(x==("__debug__" :Str))=false:=by decide):PE X (.Name x pos) (tC v):=
 λ_ _ _ H _ I h=>oW I hg hm hv ⟨v,H,I,r,h⟩ hn hd
variable{a b:Expr}{ta tb:TE}{pos:Pos}
noncomputable def tB(t:TE):TT:=λσ H Q=>t σ H λx H1=>∃c,x= .bl c/\Q c H1
theorem II{e:Expr}{t:TE}(h:PE X e t)(he:∀whole,isTrue e X.env whole=(do let v <-whole;standAt e.pos;holding [v] (truthy v)):=by intro _;rfl):PT X e (tB t):=by
 intro pins s σ H Q I hw
 refine isTrue_plain (eR (h pins s σ H _ I hw) λv s1 hPl=> ?_) (he _)
 obtain⟨x,H1,I1,r1,q1⟩:=hPl
 obtain⟨d,rfl,q⟩:=q1
 cases r1
 exact iR ⟨H1,I1,q⟩
variable{tA tB':TT}{rest:List Expr}
noncomputable def Od(t u:TT):TT:=λσ H Q=>t σ H λc H1=>if c=true then u σ H1 Q else Q false H1
noncomputable def tOr(t u:TT):TT:=λσ H Q=>t σ H λc H1=>if c=true then Q true H1 else u σ H1 Q
noncomputable def N6(t:TT):TT:=λσ H Q=>t σ H λc H1=>Q (!c) H1
theorem E7(ha:PT X a tA):PW X (.BoolOp .And [a] pos) tA:=by
 intro wh pins s σ H Q I h
 refine isTrue_and (eR (ha pins s σ H Q I h) λc s1 e=> ?_)
 cases c with
 |true=>exact isTrue_and_nil e
 |false=>exact e
theorem IG(ha:PT X a tA):PW X (.BoolOp .Or [a] pos) tA:=by
 intro wh pins s σ H Q I h
 refine isTrue_or (eR (ha pins s σ H Q I h) λc s1 e=> ?_)
 cases c with
 |false=>exact isTrue_or_nil e
 |true=>exact e
theorem IH(ha:PT X a tA)(hb:PW X (.BoolOp .And (b::rest) pos) tB'):PW X (.BoolOp .And (a::b::rest) pos) (Od tA tB'):=by
 intro wh pins s σ H Q I h
 refine isTrue_and (eR (ha pins s σ H _ I h) λc s1 hPl=> ?_)
 obtain⟨H1,I1,q1⟩:=hPl
 cases c with
 |true=>exact hb wh pins s1 σ H1 Q I1 q1
 |false=>exact⟨H1,I1,q1⟩
theorem LH(ha:PT X a tA)(hb:PW X (.BoolOp .Or (b::rest) pos) tB'):PW X (.BoolOp .Or (a::b::rest) pos) (tOr tA tB'):=by
 intro wh pins s σ H Q I h
 refine isTrue_or (eR (ha pins s σ H _ I h) λc s1 hPl=> ?_)
 obtain⟨H1,I1,q1⟩:=hPl
 cases c with
 |true=>exact⟨H1,I1,q1⟩
 |false=>exact hb wh pins s1 σ H1 Q I1 q1
theorem IJ(ha:PT X a tA):PT X (.UnaryOp .Not a pos) (N6 tA):=by
 intro pins s σ H Q I h
 exact isTrue_not (ha pins s σ H (λc H1=>Q (!c) H1) I h)
noncomputable def Lu(ta tb:TE):TE:=λσ H Q=>ta σ H λx H1=>∃c,x= .bl c/\if c=true then tb σ H1 Q else Q (.bl false) H1
noncomputable def N5(ta tb:TE):TE:=λσ H Q=>ta σ H λx H1=>∃c,x= .bl c/\if c=true then Q (.bl true) H1 else tb σ H1 Q
noncomputable def Lk(ta:TE):TE:=λσ H Q=>ta σ H λx H1=>∃c,x= .bl c/\Q (.bl (!c)) H1
theorem IX{op}{t:TE}(h:PE X a t):PE X (.BoolOp op [a] pos) t:=λpins s σ H Q I hw=>BoolOp_one (h pins s σ H Q I hw)
theorem Jd(ha:PE X a ta)(hb:PE X (.BoolOp .And (b::rest) pos) tb):PE X (.BoolOp .And (a::b::rest) pos) (Lu ta tb):=by
 intro pins s σ H Q I h
 refine BoolOp_and (eR (ha pins s σ H _ I h) λv s1 hPl=> ?_)
 obtain⟨x,H1,I1,r1,q1⟩:=hPl
 obtain⟨c,rfl,q1⟩:=q1
 cases r1
 refine iR ?_
 cases c with
 |true=>exact hb pins s1 σ H1 Q I1 q1
 |false=>exact⟨.bl false,H1,I1,rfl,q1⟩
theorem LK(ha:PE X a ta)(hb:PE X (.BoolOp .Or (b::rest) pos) tb):PE X (.BoolOp .Or (a::b::rest) pos) (N5 ta tb):=by
 intro pins s σ H Q I h
 refine BoolOp_or (eR (ha pins s σ H _ I h) λv s1 hPl=> ?_)
 obtain⟨x,H1,I1,r1,q1⟩:=hPl
 obtain⟨c,rfl,q1⟩:=q1
 cases r1
 refine iR ?_
 cases c with
 |false=>exact hb pins s1 σ H1 Q I1 q1
 |true=>exact⟨.bl true,H1,I1,rfl,q1⟩
theorem IY(ha:PE X a ta):PE X (.UnaryOp .Not a pos) (Lk ta):=by
 intro pins s σ H Q I h
 refine UnaryOp_ (eR (ha pins s σ H _ I h) λv s1 hPl=> ?_)
 obtain⟨x,H1,I1,r1,q1⟩:=hPl
 obtain⟨c,rfl,q1⟩:=q1
 cases r1
 exact not_of (iR ⟨.bl (!c),H1,I1,rfl,q1⟩)
noncomputable def tIf(t:TT)(ta tb:TE):TE:=λσ H Q=>t σ H λc H1=>if c=true then ta σ H1 Q else tb σ H1 Q
theorem CQ{c:Expr}(hc:PT X c tA)(ha:PE X a ta)(hb:PE X b tb):PE X (.IfExp c a b pos) (tIf tA ta tb):=by
 intro pins s σ H Q I h
 refine wpAny_IfExp (eR (hc pins s σ H _ I h) λd s1 hPl=> ?_)
 obtain⟨H1,I1,q1⟩:=hPl
 cases d with
 |true=>exact ha pins s1 σ H1 Q I1 q1
 |false=>exact hb pins s1 σ H1 Q I1 q1
end
noncomputable def SqL(K:PySem.W.Frag)(H:Hp)(a:Addr)(xs:List V):Prop:=
 Rd H a (.lst xs)\/
  ∃(o:Obj) (its:Array ae) (n:Nat),K.lookup a=some o/\o.cls= .type "list" /\o.dict=none/\o.data= .seq its n/\its.size<=aQ/\Vals xs its.toList
noncomputable def SqT(K:PySem.W.Frag)(H:Hp)(a:Addr)(xs:List V):Prop:=
 Rd H a (.tup xs)\/
  ∃(o:Obj) (its:Array ae) (n:Nat),K.lookup a=some o/\o.cls= .type "tuple" /\o.data= .seq its n/\its.size<=aQ/\Vals xs its.toList
noncomputable def OO:ae->Option V
 | .none=>some .non
 | .bool b=>some (.bl b)
 | .int i _=>some (.int i)
 | .str x _=>some (.str x)
 | .bytes b _=>some (.byt b)
 | .float b _=>some (.flt b)
 | .ref a=>some (.ref a)
 | .type n=>some (.ty n)
 |_=>none
theorem RelV.abs{x:V}{u:ae}(r:RelV x u):OO u=some x:=by
 cases x with
 |non=>cases r;rfl
 |bl _=>cases r;rfl
 |int _=>obtain⟨t,rfl⟩:=r;rfl
 |str _=>obtain⟨t,rfl⟩:=r;rfl
 |byt _=>obtain⟨t,rfl⟩:=r;rfl
 |flt _=>obtain⟨t,rfl⟩:=r;rfl
 |ref _=>cases r;rfl
 |ty _=>cases r;rfl
theorem RelV.inj{x y:V}{u:ae}(r:RelV x u)(q:RelV y u):x=y:=bc (r.abs.symm.trans q.abs)
theorem Vals.inj:∀{xs ys:List V} {us:List ae},Vals xs us->Vals ys us->xs=ys
 |_,_,_,.nil,.nil=>rfl
 |_,_,_,.cons r t,.cons r' t'=>by rw[r.inj r',Vals.inj t t']
section
variable{X:Cx}{pins:List (Addr×Obj)}{σ:St}{H:Hp}{s:al}{a:Addr}{xs ys:List V}
theorem SqL.of{K:PySem.W.Frag}(h:H a=some (.lst xs)):SqL K H a xs:= .inl (.inl h)
theorem SqT.of{K:PySem.W.Frag}(h:H a=some (.tup xs)):SqT K H a xs:= .inl (.inl h)
theorem Inv.list(I:Inv X pins σ H s)(h:SqL X.K H a xs):∃its:List ae,Vals xs its/\PlainL s.heap a its.toArray/\xs.length<=aQ:=by
 rcases h with h|⟨o,its,n,hk,hc,hd,hs,hz,r⟩
 ·obtain⟨z,its,n,r,e⟩:=h.ok I.hok
  exact⟨its,r,⟨_,n,e,rfl,rfl,rfl⟩,z⟩
 ·refine⟨its.toList,r,⟨o,n,I.kIn a o hk,hc,hd,by simpa using hs⟩,?_⟩
  have e:=r.length
  simp only[br]at e
  ac_nf
theorem Inv.tuple(I:Inv X pins σ H s)(h:SqT X.K H a xs):∃its:List ae,Vals xs its/\IsTup s.heap a its.toArray/\xs.length<=aQ:=by
 rcases h with h|⟨o,its,n,hk,hc,hs,hz,r⟩
 ·obtain⟨z,its,r,p⟩:=h.ok I.hok
  exact⟨its,r,p,z⟩
 ·refine⟨its.toList,r,⟨o,I.kIn a o hk,hc,n,by simpa using hs⟩,?_⟩
  have e:=r.length
  simp only[br]at e
  ac_nf
theorem Inv.list_inj(I:Inv X pins σ H s)(h:SqL X.K H a xs)(h':SqL X.K H a ys):xs=ys:=by
 obtain⟨its,r,⟨o,n,e,_,_,d⟩,_⟩:=I.list h
 obtain⟨its',r',⟨o',n',e',_,_,d'⟩,_⟩:=I.list h'
 rw[e]at e';cases e'
 rw[d]at d'
 injection d' with d1 _
 have:its=its':=by simpa using congrArg Array.toList d1
 subst this
 exact r.inj r'
theorem Inv.tuple_inj(I:Inv X pins σ H s)(h:SqT X.K H a xs)(h':SqT X.K H a ys):xs=ys:=by
 obtain⟨its,r,⟨o,e,_,n,d⟩,_⟩:=I.tuple h
 obtain⟨its',r',⟨o',e',_,n',d'⟩,_⟩:=I.tuple h'
 rw[e]at e';cases e'
 rw[d]at d'
 injection d' with d1 _
 have:its=its':=by simpa using congrArg Array.toList d1
 subst this
 exact r.inj r'
end
noncomputable abbrev Cx.wish(X:Cx)(E:ae->al->Prop):Cx:={X with xe:=E}
noncomputable abbrev Cx.nox(X:Cx):Cx:=X.wish λ_ _=>False
theorem Cx.Ok.wish{X:Cx}(ok:X.Ok)(E:ae->al->Prop):(X.wish E).Ok:=
 ⟨ok.mod,ok.kind,ok.glob,ok.blt,ok.above,ok.inj,ok.has,ok.cab,ok.hd,ok.frames,ok.stk,ok.exf,ok.bs,ok.bsz,ok.noex,ok.exfs,ok.funs,ok.frf⟩
theorem Cx.Ok.unwish{X:Cx}{E:ae->al->Prop}(ok:(X.wish E).Ok):X.Ok:=
 ⟨ok.mod,ok.kind,ok.glob,ok.blt,ok.above,ok.inj,ok.has,ok.cab,ok.hd,ok.frames,ok.stk,ok.exf,ok.bs,ok.bsz,ok.noex,ok.exfs,ok.funs,ok.frf⟩
section
variable{X:Cx}{pins:List (Addr×Obj)}{σ:St}{H:Hp}{s:al}{E:ae->al->Prop}
theorem Inv.wish(I:Inv X pins σ H s)(E:ae->al->Prop):Inv (X.wish E) pins σ H s:=⟨I.ok.wish E,I.os,I.bare,I.base,I.loc,I.cell,I.free,I.freeC,I.pin,I.hok,I.len⟩
theorem Inv.unwish(I:Inv (X.wish E) pins σ H s):Inv X pins σ H s:=⟨I.ok.unwish,I.os,I.bare,I.base,I.loc,I.cell,I.free,I.freeC,I.pin,I.hok,I.len⟩
theorem SP.unwish{D:yD}{f:Flow}{s':al}(h:SP (X.wish E) pins D f s'):SP X pins D f s':=by
 cases f with
 |next=>obtain⟨σ',H',I,q⟩:=h;exact⟨σ',H',I.unwish,q⟩
 |brk=>obtain⟨σ',H',I,q⟩:=h;exact⟨σ',H',I.unwish,q⟩
 |cont=>obtain⟨σ',H',I,q⟩:=h;exact⟨σ',H',I.unwish,q⟩
 |ret u=>obtain⟨v,σ',H',I,r,q⟩:=h;exact⟨v,σ',H',I.unwish,r,q⟩
theorem PSs.nox{st:List Stmt}{t:TS}(h:PSs X.nox st t):PSs X st t:=λpins s σ H D I hw=>
 bu (h pins s σ H D (I.wish _) hw) (λ_ _ q=>q.unwish) λ_ _ z=>bZ z
end
section
variable{X:Cx}{st:Stmt}{rest:List Stmt}{t u:TS}{e:Expr}{te:TE}{pos:Pos}
noncomputable def Hr:TS:=λD σ H=>D.nx σ H
noncomputable def N2(t u:TS):TS:=λD σ H=>t {D with nx:=u D} σ H
theorem Fa:PSs X [] Hr:=λ_ _ σ H _ I h=>n9 ⟨σ,H,I,h⟩
theorem Cu(h1:PS X st t)(h2:PSs X rest u):PSs X (st::rest) (N2 t u):=by
 intro pins s σ H D I h
 refine wpAny_execs_cons (eR (h1 pins s σ H {D with nx:=u D} I h) λf s1 q=> ?_)
 cases f with
 |next=>
  obtain⟨σ',H',I',q⟩:=q
  exact h2 pins s1 σ' H' D I' q
 |ret v=>exact q
 |brk=>exact q
 |cont=>exact q
theorem E9(h1:PS X st t):PSs X [st] t:=by
 intro pins s σ H D I h
 refine wpAny_execs_cons (eR (h1 pins s σ H D I h) λf s1 q=> ?_)
 cases f with
 |next=>exact n9 q
 |ret v=>exact q
 |brk=>exact q
 |cont=>exact q
theorem Fb:PS X (.Pass pos) Hr:=λ_ _ σ H _ I h=>wpAny_Pass ⟨σ,H,I,h⟩
theorem Inv.quiet{pins:List (Addr×Obj)}{σ:St}{H:Hp}{s:al}(I:Inv X pins σ H s):interactive X.env=false:=by simp[interactive,I.ok.kind]
noncomputable def Ln(te:TE):TS:=λD σ H=>te σ H λ_ H1=>D.nx σ H1
theorem Fc(he:PE X e te)(hs:jh e none pos.line X.env=pure false:=by rfl):PS X (.Expr e pos) (Ln te):=by
 intro pins s σ H D I h
 exact wpAny_Expr_any (eR (he pins s σ H _ I h) λv s1 ⟨x,H1,I1,r1,q1⟩=>⟨σ,H1,I1,q1⟩) I.quiet hs
noncomputable def N3(te:TE):TS:=λD σ H=>te σ H D.rt
theorem IL(he:PE X e te):PS X (.Return (some e) pos) (N3 te):=by
 intro pins s σ H D I h
 exact wpAny_Return_some (eR (he pins s σ H _ I h) λv s1 ⟨x,H1,I1,r1,q1⟩=>⟨x,σ,H1,I1,r1,q1⟩)
noncomputable def N8(c:TT)(t u:TS):TS:=λD σ H=>c σ H λb H1=>if b=true then t D σ H1 else u D σ H1
theorem LI{c:Expr}{a b:List Stmt}{tc:TT}(hc:PT X c tc)(ha:PSs X a t)(hb:PSs X b u):PS X (.If c a b pos) (N8 tc t u):=by
 intro pins s σ H D I h
 refine wpAny_If (eR (hc pins s σ H _ I h) λd s1 hPl=> ?_)
 obtain⟨H1,I1,q1⟩:=hPl
 cases d with
 |true=>exact ha pins s1 σ H1 D I1 q1
 |false=>exact hb pins s1 σ H1 D I1 q1
end
noncomputable abbrev TG:=V->St->Hp->(St->Hp->Prop)->Prop
noncomputable abbrev KW:=List V->St->Hp->(St->Hp->Prop)->Prop
noncomputable def PG(X:Cx)(target:Expr)(t:TG):Prop:=
 ∀(pins:List (Addr×Obj)) (s:al) (σ:St) (H:Hp) (v:V) (u:ae) (Q:St->Hp->Prop),Inv X pins σ H s->RelV v u->t v σ H Q->
  wpAny (aT X.prog X.w) X.A (assign target X.env u) (λ_ s'=>∃σ' H',Inv X pins σ' H' s'/\Q σ' H') X.xe s
noncomputable def NQ(X:Cx)(ts:List Expr)(t:KW):Prop:=
 ∀(pins:List (Addr×Obj)) (s:al) (σ:St) (H:Hp) (vs:List V) (us:List ae) (Q:St->Hp->Prop),Inv X pins σ H s->Vals vs us->t vs σ H Q->
  wpAny (aT X.prog X.w) X.A (assignInOrder ((ky ts X.env).map (·.2)) us) (λ_ s'=>∃σ' H',Inv X pins σ' H' s'/\Q σ' H') X.xe s
noncomputable abbrev yx:=V->V->V->Hp->(Hp->Prop)->Prop
noncomputable def PSet(X:Cx)(t:yx):Prop:=
 ∀(pins:List (Addr×Obj)) (s:al) (σ:St) (H:Hp) (o i v:V) (ov iv u:ae) (Q:Hp->Prop),Inv X pins σ H s->RelV o ov->RelV i iv->RelV v u->t o i v H Q->
  wpAny (aT X.prog X.w) X.A (setItem ov iv u) (λ_ s'=>∃H',Inv X pins σ H' s'/\Q H') X.xe s
noncomputable abbrev NN:=V->V->Hp->VK->Prop
noncomputable def NP(X:Cx)(op:Operator)(t:NN):Prop:=
 ∀(pins:List (Addr×Obj)) (s:al) (σ:St) (H:Hp) (x y:V) (v u:ae) (Q:VK),Inv X pins σ H s->RelV x v->RelV y u->t x y H Q->
  wpAny (aT X.prog X.w) X.A (inplaceOp op v u) (EP X pins σ Q) X.xe s
section
variable{X:Cx}{pos:Pos}
noncomputable def rJ(i:Nat):TG:=λv σ H Q=>Q (σ.set i (some v)) H
theorem iw{i:Nat}{x:Str}(hN:X.N.Nodup)(hi:X.N[i]? =some x)(hx:xh X.env.scope x)(hf:X.fn x=true\/X.env.scope.names.lookup x=some .local:=by first|exact .inl rfl|exact .inr rfl|assumption):PG X (.Name x pos) (rJ i):=by
 intro pins s σ H v u Q I r h
 exact wpAny_assign_Name (qN I hN hi hx r (λs' I'=>⟨_,H,I',h⟩) hf)
noncomputable def Nb:KW:=λvs σ H Q=>vs=[]/\Q σ H
noncomputable def DV(t:TG)(u:KW):KW:=λvs σ H Q=>∃v r,vs=v::r/\t v σ H λσ' H'=>u r σ' H' Q
theorem uD:NQ X [] Nb:=by
 intro pins s σ H vs us Q I r h
 obtain⟨e,h⟩:=h
 subst e
 cases r
 exact assignInOrder_nil ⟨σ,H,I,h⟩
theorem iF{e:Expr}{es:List Expr}{t:TG}{u:KW}(h1:PG X e t)(h2:NQ X es u)
  (hs:(ky (e::es) X.env).map (·.2)=assign e X.env::(ky es X.env).map (·.2):=by rfl):NQ X (e::es) (DV t u):=by
 intro pins s σ H vs us Q I r h
 obtain⟨v,vr,e1,h⟩:=h
 subst e1
 cases r with
 |cons r rr=>
  rw[hs]
  refine assignInOrder_cons (eR (h1 pins s σ H _ _ _ I r h) λ_ s1 hPl=> ?_)
  obtain⟨σ1,H1,I1,q1⟩:=hPl
  exact h2 pins s1 σ1 H1 _ _ Q I1 rr q1
noncomputable def M4(K:PySem.W.Frag)(n:Nat)(t:KW):TG:=λv σ H Q=>∃a xs,v= .ref a/\SqT K H a xs/\xs.length=n/\t xs σ H Q
theorem xL{es:List Expr}{k:Nat}{t:KW}{n:Nat}(hc:X.calm=true)(h:NQ X es t)
  (hn:(ky es X.env).length=n:=by rfl) (hst:(ky es X.env).findIdx? (·.1)=none:=by rfl):PG X (.Tuple es k pos) (M4 X.K n t):=by
 intro pins s σ H v u Q I r hw
 obtain⟨a,xs,e1,hq,hl,hw⟩:=hw
 subst e1
 cases r
 obtain⟨its,rv,ht,hz⟩:=I.tuple hq
 refine assign_Tuple_tuple (I.ok.hd hc) ht (by simp[hn,<-hl,rv.length]) hst λh' hx=> ?_
 have I1:Inv X pins σ H {s with heap:=h'}:=I.kept (t':=s.toks) λb o e=>hx b o (aS (aF e)) e
 exact h pins _ σ H xs _ Q I1 (by simpa using rv) hw
noncomputable def OI(to ti:TE)(t:yx):TG:=λv σ H Q=>to σ H λo H1=>ti σ H1 λi H2=>t o i v H2 λH3=>Q σ H3
theorem IR{o i:Expr}{to ti:TE}{t:yx}(ho:PE X o to)(hi:PE X i ti)(hs:PSet X t)
  (ha:∀v,assign (.Subscript o i pos) X.env v=(do
   let ov <-holding [v] (eval o X.env)
   let iv <-holding [v,ov] (eval i X.env)
   standAt pos
   holding [v,ov,iv] (setItem ov iv v)
   release [v,ov,iv] []):=by intro _;rfl):PG X (.Subscript o i pos) (OI to ti t):=by
 intro pins s σ H v u Q I r h
 rw[ha]
 refine aa (cJ (eR (ho pins s σ H _ I h) λov s1 hPl=> ?_))
 obtain⟨x,H1,I1,r1,q1⟩:=hPl
 refine aa (cJ (eR (hi pins s1 σ H1 _ I1 q1) λiv s2 hPl=> ?_))
 obtain⟨y,H2,I2,r2,q2⟩:=hPl
 refine aa (wpAny_standAt (aa (cJ (eR (hs pins s2 σ H2 x y v ov iv u _ I2 r1 r2 r q2) λ_ s3 hPl=> ?_))))
 obtain⟨H3,I3,q3⟩:=hPl
 exact wpAny_release ⟨σ,H3,I3,q3⟩
noncomputable def Im(te:TE)(g:TG):TS:=λD σ H=>te σ H λx H1=>g x σ H1 D.nx
theorem IP{tg e:Expr}{te:TE}{g:TG}(he:PE X e te)(hg:PG X tg g)(hs:swapsWithSole [tg] e pos.line X.env=pure false:=by rfl)(hw:swappedStores [tg] e X.env=pure none:=by rfl)
  (h1:(ky [tg] X.env).map (·.2)=[assign tg X.env]:=by rfl):PS X (.Assign [tg] e pos) (Im te g):=by
 intro pins s σ H D I h
 refine wpAny_Assign_stores (eR (he pins s σ H _ I h) λv s1 hPl=> ?_) hs hw
 obtain⟨x,H1,I1,r1,q1⟩:=hPl
 rw[h1]
 exact eR (hg pins s1 σ H1 x v _ I1 r1 q1) λ_ s2 q=>q
theorem IK{i:Nat}{x:Str}{e:Expr}{te:TE}{pos':Pos}(hN:X.N.Nodup)(hi:X.N[i]? =some x)(hx:xh X.env.scope x)(he:PE X e te)(hs:jh e (some (.Name x pos')) pos.line X.env=pure false:=by rfl)(hf:X.fn x=true\/X.env.scope.names.lookup x=some .local:=by first|exact .inl rfl|exact .inr rfl|assumption):
  PS X (.Assign [.Name x pos'] e pos) (Im te (rJ i)):=by
 intro pins s σ H D I h
 refine wpAny_Assign_Name (eR (he pins s σ H _ I h) λv s1 hPl=> ?_) hs
 obtain⟨y,H1,I1,r1,q1⟩:=hPl
 exact qN I1 hN hi hx r1 (λs2 I2=>⟨_,H1,I2,q1⟩) hf
noncomputable def Ls(to ti te:TE)(tget:V->V->Hp->VK->Prop)(tip:NN)(tset:yx):TS:=λD σ H=>to σ H λo H1=>ti σ H1 λi H2=>tget o i H2 λx H3=>te σ H3 λy H4=>tip x y H4 λz H5=>tset o i z H5 λH6=>D.nx σ H6
noncomputable def KZ(X:Cx)(t:V->V->Hp->VK->Prop):Prop:=
 ∀(pins:List (Addr×Obj)) (s:al) (σ:St) (H:Hp) (o i:V) (ov iv:ae) (Q:VK),Inv X pins σ H s->RelV o ov->RelV i iv->t o i H Q->
  wpAny (aT X.prog X.w) X.A (iS ov iv) (EP X pins σ Q) X.xe s
theorem Fe{o i e:Expr}{to ti te:TE}{tget:V->V->Hp->VK->Prop}{tip:NN}{tset:yx}{op:Operator}{tpos:Pos}(ho:PE X o to)(hi:PE X i ti)(hg:KZ X tget)(he:PE X e te)(hp:NP X op tip)(hs:PSet X tset)
  (ha:∀ov iv new,augStore i ov iv new=(do holding [new,ov,iv] (setItem ov iv new);release [new,ov,iv] [];pure .next):=by intros;rfl):PS X (.AugAssign (.Subscript o i tpos) op e pos) (Ls to ti te tget tip tset):=by
 intro pins s σ H D I h
 refine wpAny_AugAssign_SubscriptAny (eR (ho pins s σ H _ I h) λov s1 hPl=> ?_) ha
 obtain⟨x1,H1,I1,r1,q1⟩:=hPl
 refine eR (hi pins s1 σ H1 _ I1 q1) λiv s2 hPl=> ?_
 obtain⟨x2,H2,I2,r2,q2⟩:=hPl
 refine eR (hg pins s2 σ H2 x1 x2 ov iv _ I2 r1 r2 q2) λold s3 hPl=> ?_
 obtain⟨x3,H3,I3,r3,q3⟩:=hPl
 refine eR (he pins s3 σ H3 _ I3 q3) λv s4 hPl=> ?_
 obtain⟨x4,H4,I4,r4,q4⟩:=hPl
 refine eR (hp pins s4 σ H4 x3 x4 old v _ I4 r3 r4 q4) λnew s5 hPl=> ?_
 obtain⟨x5,H5,I5,r5,q5⟩:=hPl
 exact eR (hs pins s5 σ H5 x1 x2 x5 ov iv new _ I5 r1 r2 r5 q5) λ_ s6 hPl=>by obtain⟨H6,I6,q6⟩:=hPl;exact⟨σ,H6,I6,q6⟩
noncomputable def ipI(f:Int->Int->Int):NN:=λx y H Q=>∃i j,x= .int i/\y= .int j/\Q (.int (f i j)) H
theorem Ku:NP X .Add (ipI λi j=>i+j):=by
 intro pins s σ H x y v u Q I r1 r2 h
 obtain⟨i,j,e1,e2,q⟩:=h
 subst e1;subst e2
 obtain⟨t,rfl⟩:=r1
 obtain⟨t',rfl⟩:=r2
 exact iadd_int ⟨.int _,H,I.tok _,⟨_,rfl⟩,q⟩
end
section
variable{X:Cx}{pos:Pos}
noncomputable def Ij(c:TT)(tb:TS):TS:=λD σ H=>∃W:Nat->St->Hp->Prop,(∃m,W m σ H)/\∀m σ H,W m σ H->
 c σ H λb H1=>if b=true then∃N:St->Hp->Prop,(∀σ' H',N σ' H'->∃m',m'<m/\W m' σ' H')/\tb {D with nx:=N,ct:=N,bk:=D.nx} σ H1 else D.nx σ H1
theorem Cv{c:Expr}{body:List Stmt}{tc:TT}{tb:TS}(hp:PassesOwn (aT X.prog X.w) X.A X.env X.xe)(hc:PT X c tc)(hb:PSs X body tb):PS X (.While c body [] pos) (Ij tc tb):=by
 intro pins s σ H D I h
 obtain⟨W,⟨m0,w0⟩,turn⟩:=h
 refine wpAny_While (codeAny_whileLoop (λn s'=>∃σ' H',Inv X pins σ' H' s'/\W n σ' H') ?_ m0 ⟨σ,H,I,w0⟩)
 rintro n s1 ⟨σ1,H1,I1,w1⟩
 refine gi hp (eR (hc pins s1 σ1 H1 _ I1 (turn n σ1 H1 w1)) λb s2 hPl=> ?_)
 obtain⟨H2,I2,q2⟩:=hPl
 cases b with
 |true=>
  obtain⟨N,hN,q2⟩:=q2
  rw[if_pos rfl]
  refine gi hp (eR (hb pins s2 σ1 H2 _ I2 q2) λf s3 q3=> ?_)
  cases f with
  |next=>
   obtain⟨σ3,H3,I3,n3⟩:=q3
   obtain⟨m',hm,w3⟩:=hN σ3 H3 n3
   exact⟨m',hm,σ3,H3,I3,w3⟩
  |cont=>
   obtain⟨σ3,H3,I3,n3⟩:=q3
   obtain⟨m',hm,w3⟩:=hN σ3 H3 n3
   exact⟨m',hm,σ3,H3,I3,w3⟩
  |brk=>exact q3
  |ret v=>exact q3
 |false=>
  rw[if_neg bx]
  exact n9 ⟨σ1,H2,I2,q2⟩
end
structure It where
 go:Nat->Hp->Prop
 yld:Nat->Hp->V->Hp->Prop
 stop:Nat->Hp->Prop
noncomputable def pZ(X:Cx)(pins:List (Addr×Obj))(H:Hp)(b:Addr):Prop:=
 H b=none/\b≠X.env.locals/\b∉X.fs/\(b∈X.ex\/X.s₀.heap.objs.size<=b)/\(∀x c,X.env.cells.lookup x=some c->c≠b)/\∀p∈X.pn++pins,p.1≠b
theorem Inv.fpOk{X:Cx}{pins:List (Addr×Obj)}{σ:St}{H H':Hp}{s:al}{b:Addr}(I:Inv X pins σ H s)(hb:s.heap.objs.size<=b)(hn:H' b=none):pZ X pins H' b:=by
 refine⟨hn,iM (bz I.lt hb),I.nofs hb,.inr (aP I.sz hb),λx c e z=> ?_,λp hp z=> ?_⟩
 ·obtain⟨v,q⟩:=I.cell x c e
  exact absurd (bz q.lt (by rw[z];exact hb)) (dP _)
 ·exact absurd (bz (aF (I.pin p hp).1) (by rw[z];exact hb)) (dP _)
structure sv(P:aK)(w:aX)(K:PySem.W.Frag)(tg:Expr)(J:It)(fp:List Addr)(it:Addr)(tn:Nat->Heap->Prop):Prop where
 mem:it∈fp
 obj:∀i h,tn i h->∀b∈fp,∃o,h.get? b=some o/\∀v,o.data≠ .cell v
 keep:∀i h h',tn i h->(∀b∈fp,∀o,h.get? b=some o->h'.get? b=some o)->tn i h'
 item:∀(X:Cx),X.prog=P->X.w=w->X.K=K->X.calm=true->∀(i:Nat) (pins:List (Addr×Obj)) (s:al) (σ:St) (H:Hp) (E:ae->al->Prop),Inv X pins σ H s->(∀b∈fp,pZ X pins H b)->tn i s.heap->J.go i H->
  wpAny (aT P w) X.A (pyNext (.ref it)) (λr s1=>∃u,r=some u/\
   wpAny (aT P w) X.A (jQ tg (.ref it) u) (λ_ s2=>∃x H',Inv X pins σ H' s2/\RelV x u/\J.yld i H x H'/\tn (i+1) s2.heap/\∀b∈fp,H' b=none) E s1) E s
 done:∀(X:Cx),X.prog=P->X.w=w->X.K=K->X.calm=true->∀(i:Nat) (pins:List (Addr×Obj)) (s:al) (σ:St) (H:Hp) (E:ae->al->Prop),Inv X pins σ H s->(∀b∈fp,pZ X pins H b)->tn i s.heap->J.stop i H->
  wpAny (aT P w) X.A (pyNext (.ref it)) (λr s1=>r=none/\Inv X pins σ H s1) E s
 self:∀(A:Around) (i:Nat) (s:al) (Q:ae->al->Prop) (E:ae->al->Prop),tn i s.heap->Q (.ref it) s->wpAny (aT P w) A (pyIter (.ref it)) Q E s
noncomputable abbrev TI:=St->Hp->(It->Hp->Prop)->Prop
noncomputable def OS(X:Cx)(pins:List (Addr×Obj))(σ:St)(tg:Expr)(R:It->Hp->Prop)(itv:ae)(s2:al):Prop:=
 ∃(it:Addr) (fp:List Addr) (tn:Nat->Heap->Prop) (J:It) (H':Hp),itv= .ref it/\Inv X pins σ H' s2/\sv X.prog X.w X.K tg J fp it tn/\tn 0 s2.heap/\(∀b∈fp,pZ X pins H' b)/\R J H'
noncomputable def PI(X:Cx)(tg iter:Expr)(wi:TI):Prop:=
 ∀(pins:List (Addr×Obj)) (s:al) (σ:St) (H:Hp) (R:It->Hp->Prop),Inv X pins σ H s->wi σ H R->
  wpAny (aT X.prog X.w) X.A (eval iter X.env) (λv s1=>wpAny (aT X.prog X.w) X.A (pyIter v) (OS X pins σ tg R) X.xe s1) X.xe s
theorem wG{M:Model}{A:Around}{E:ae->al->Prop}{s:al}{tg:Expr}{it:Addr}{u:ae}{o:Obj}{n:String}{vs:Array ae}{Q:Unit->al->Prop}(ho:s.heap.get? it=some o)(hc:o.cls= .type n)(hd:o.data= .fields vs)
  (hn:["enumerate", "zip", "dict_itemiterator", "dict_reverseitemiterator", "odict_iterator", "itertools.zip_longest", "itertools.pairwise"].contains n=false) (hQ:Q () s):wpAny M A (jQ tg (.ref it) u) Q E s:=by
 unfold jQ
 cases tg<;>first
  |exact ao hQ
  |(cases u<;>first
    |exact ao hQ
    |(refine aa (wpAny_load ho ?_)
      rw[hc,hd]
      show wpAny M A (if(["enumerate", "zip", "dict_itemiterator", "dict_reverseitemiterator", "odict_iterator", "itertools.zip_longest", "itertools.pairwise"].contains n&&vs[0]? ==some (rawInt _))=true then _ else _) Q E s
      rw[if_neg (by intro h;rw[hn,Bool.false_and]at h;cases h)]
      exact ao hQ))
noncomputable def OU(K:PySem.W.Frag)(a:Addr):It:=
 ⟨λi H=>∃xs x,SqL K H a xs/\xs[i]? =some x,λi H x H'=>H'=H/\∀xs,SqL K H a xs->xs[i]? =some x,λi H=>∃xs,SqL K H a xs/\xs.length<=i⟩
noncomputable def Itt(K:PySem.W.Frag)(a:Addr):It:=
 ⟨λi H=>∃xs x,SqT K H a xs/\xs[i]? =some x,λi H x H'=>H'=H/\∀xs,SqT K H a xs->xs[i]? =some x,λi H=>∃xs,SqT K H a xs/\xs.length<=i⟩
noncomputable def NV(lo:Int)(n:Nat):It:=⟨λi _=>i<n,λi H x H'=>H'=H/\x= .int (lo+i),λi _=>n<=i⟩
theorem sF{P:aK}{w:aX}{K:PySem.W.Frag}{tg:Expr}(a it:Addr):sv P w K tg (OU K a) [it] it (λi h=>h.IsListIter it a i) where
 mem:=by simp
 obj:=λi h st b hb=>by
  have e:b=it:=by simpa using hb
  subst e
  obtain⟨o,e,c,d⟩:=st
  exact⟨o,e,λv z=>by rw[d]at z;cases z⟩
 keep:=λi h h' st k=>st.at λo e=>k it (by simp) o e
 item:=by
  intro X hP hw hK hc i pins s σ H E I hf st hg
  subst hP hw hK
  obtain⟨xs,x,hq,hx⟩:=hg
  obtain⟨its,rv,p,hz⟩:=I.list hq
  obtain⟨u,hu,ru⟩:=rv.get hx
  obtain⟨f0,f1,f2,f3,f4,f5⟩:=hf it (by simp)
  refine wpAny_pyNext_list_item st p.isList (x:=u) (by simpa using hu) λh' st' sb=> ?_
  have I1:Inv X pins σ H {s with heap:=h'}:=I.turned (t':=s.toks) (λb o hb e=>(sb.2 b hb).trans e) f0 f1 f3 f4 f5
  obtain⟨o,e,c,d⟩:=id st'
  exact⟨u,rfl,wG (s:={s with heap:=h'}) e c d (by decide) ⟨x,H,I1,ru,⟨rfl,λys hy=>by rw[I.list_inj hy hq];exact hx⟩,st',λb hb=>(hf b hb).1⟩⟩
 done:=by
  intro X hP hw hK hc i pins s σ H E I hf st hg
  subst hP hw hK
  obtain⟨xs,hq,hx⟩:=hg
  obtain⟨its,rv,p,hz⟩:=I.list hq
  obtain⟨f0,f1,f2,f3,f4,f5⟩:=hf it (by simp)
  have hl:=rv.length
  exact wpAny_pyNext_list_end (I.ok.hd hc) st p.isList (by simp;ac_nf) λh' eb=>⟨rfl,I.turned (t':=s.toks) (λb o hb e=>eb b o hb e) f0 f1 f3 f4 f5⟩
 self:=λ_ _ _ _ _ st h=>wpAny_pyIter_listiter st h
theorem xw{P:aK}{w:aX}{K:PySem.W.Frag}{tg:Expr}(a it:Addr):sv P w K tg (Itt K a) [it] it (λi h=>h.IsTupleIter it a i) where
 mem:=by simp
 obj:=λi h st b hb=>by
  have e:b=it:=by simpa using hb
  subst e
  obtain⟨o,e,c,d⟩:=st
  exact⟨o,e,λv z=>by rw[d]at z;cases z⟩
 keep:=λi h h' st k=>st.at λo e=>k it (by simp) o e
 item:=by
  intro X hP hw hK hc i pins s σ H E I hf st hg
  subst hP hw hK
  obtain⟨xs,x,hq,hx⟩:=hg
  obtain⟨its,rv,p,hz⟩:=I.tuple hq
  obtain⟨u,hu,ru⟩:=rv.get hx
  obtain⟨f0,f1,f2,f3,f4,f5⟩:=hf it (by simp)
  refine wpAny_pyNext_tuple_item st (show s.heap.IsTuple a its.toArray from p) (x:=u) (by simpa using hu) λh' st' sb=> ?_
  have I1:Inv X pins σ H {s with heap:=h'}:=I.turned (t':=s.toks) (λb o hb e=>(sb.2 b hb).trans e) f0 f1 f3 f4 f5
  obtain⟨o,e,c,d⟩:=id st'
  exact⟨u,rfl,wG (s:={s with heap:=h'}) e c d (by decide) ⟨x,H,I1,ru,⟨rfl,λys hy=>by rw[I.tuple_inj hy hq];exact hx⟩,st',λb hb=>(hf b hb).1⟩⟩
 done:=by
  intro X hP hw hK hc i pins s σ H E I hf st hg
  subst hP hw hK
  obtain⟨xs,hq,hx⟩:=hg
  obtain⟨its,rv,p,hz⟩:=I.tuple hq
  obtain⟨f0,f1,f2,f3,f4,f5⟩:=hf it (by simp)
  have hl:=rv.length
  exact wpAny_pyNext_tuple_end (I.ok.hd hc) st (show s.heap.IsTuple a its.toArray from p) (by simp;ac_nf) λh' eb=>⟨rfl,I.turned (t':=s.toks) (λb o hb e=>eb b o hb e) f0 f1 f3 f4 f5⟩
 self:=λ_ _ _ _ _ st h=>wpAny_pyIter_tupleiter st h
theorem xx{P:aK}{w:aX}{K:PySem.W.Frag}{tg:Expr}(it:Addr)(lo:Int)(n:Nat):sv P w K tg (NV lo n) [it] it (λi h=>IsRangeIter h it (lo+(i:Nat)*1) ((n:Int)-(i:Nat)) 1) where
 mem:=by simp
 obj:=λi h st b hb=>by
  have e:b=it:=by simpa using hb
  subst e
  exact⟨_,st,λv z=>by
   have z':dC _=Data.cell v:=z
   cases z'⟩
 keep:=λi h h' st k=>k it (by simp) _ st
 item:=by
  intro X hP hw hK hc i pins s σ H E I hf st hg
  subst hP hw hK
  obtain⟨f0,f1,f2,f3,f4,f5⟩:=hf it (by simp)
  have W:=Walks.range (prog:=X.prog) (w:=X.w) (I.ok.hd hc) it lo 1 n
  refine W.item i s _ _ hg st λv h' tk hv st' kk=> ?_
  obtain⟨t,rfl⟩:=hv
  have I1:Inv X pins σ H {s with heap:=h',toks:=tk}:=I.turned (λb o hb e=>kk b o (by simpa using hb) e) f0 f1 f3 f4 f5
  refine⟨_,rfl,wG (s:={s with heap:=h',toks:=tk}) (n:= "range_iterator") st' rfl rfl (by decide) ⟨.int (lo+i),H,I1,⟨t,?_⟩,⟨rfl,rfl⟩,st',λb hb=>(hf b hb).1⟩⟩
  rw[Int.mul_one]
 done:=by
  intro X hP hw hK hc i pins s σ H E I hf st hg
  subst hP hw hK
  obtain⟨f0,f1,f2,f3,f4,f5⟩:=hf it (by simp)
  exact wpAny_pyNext_range_end (I.ok.hd hc) st (by have:n<=i:=hg;ac_nf) λh' eb=>⟨rfl,I.turned (t':=s.toks) (λb o hb e=>eb b o hb e) f0 f1 f3 f4 f5⟩
 self:=λ_ _ _ _ _ st h=>wpAny_pyIter_rangeiter st h
section
variable{X:Cx}{tg:Expr}
noncomputable def MY(K:PySem.W.Frag)(tl:TE):TI:=λσ H R=>tl σ H λx H1=>∃a,x= .ref a/\(∃xs,SqL K H1 a xs)/\R (OU K a) H1
theorem Fn{l:Expr}{tl:TE}(hl:PE X l tl):PI X tg l (MY X.K tl):=by
 intro pins s σ H R I h
 refine eR (hl pins s σ H _ I h) λv s1 hPl=> ?_
 obtain⟨x,H1,I1,r1,q1⟩:=hPl
 obtain⟨a,e,⟨xs,hq⟩,q⟩:=q1
 subst e
 cases r1
 obtain⟨its,rv,p,hz⟩:=I1.list hq
 refine ue p.isList ?_
 refine⟨s1.heap.objs.size,[s1.heap.objs.size],_,_,H1,rfl,I1.kept (t':=s1.toks) λb o e=>aj _ e,sF a _,⟨_,aJ _ rfl,rfl,rfl⟩,λb hb=> ?_,q⟩
 have e:b=s1.heap.objs.size:=by simpa using hb
 subst e
 exact I1.fpOk (am _) (I1.hok.fresh (am _))
theorem Cr{pins:List (Addr×Obj)}{σ:St}{H:Hp}{s:al}{R:It->Hp->Prop}{E:ae->al->Prop}{lo hi:Int}{t u v:Tok}{tk:Nat}(I:Inv X pins σ H s)(h1: -(2^62)<=lo)(h2:lo<2^62)(h3: -(2^62)<=hi)(h4:hi<2^62)
  (q:R (NV lo (hi-lo).toNat) H):wpAny (aT X.prog X.w) X.A (pyIter (.ref s.heap.objs.size)) (OS X pins σ tg R) E {s with heap:=s.heap.push {cls:= .type "range",data:= .fields #[.int lo t,.int hi u,.int 1 v]},toks:=tk}:=by
 refine wpAny_pyIter_range (IsRange.new ..) (small_one h1 h2 h3 h4) ?_
 have I1:Inv X pins σ H {s with heap:=s.heap.push {cls:= .type "range",data:= .fields #[.int lo t,.int hi u,.int 1 v]},toks:=tk}:=I.kept λb o e=>aj _ e
 refine⟨(s.heap.push {cls:= .type "range",data:= .fields #[.int lo t,.int hi u,.int 1 v]}).objs.size,[(s.heap.push {cls:= .type "range",data:= .fields #[.int lo t,.int hi u,.int 1 v]}).objs.size],_,_,H,rfl,
  I1.kept (t':=tk) λb o e=>aj _ e,xx _ lo (hi-lo).toNat,?_,λb hb=> ?_,q⟩
 ·have e1:lo+((0:Nat):Int)*1=lo:=by simp
  have e2:(((hi-lo).toNat:Nat):Int)-((0:Nat):Int)=eP lo hi 1:=by rw[rangeSize_one];split<;>ac_nf
  show IsRangeIter _ _ (lo+((0:Nat):Int)*1) ((((hi-lo).toNat:Nat):Int)-((0:Nat):Int)) 1
  rw[e1,e2]
  exact aJ _ rfl
 ·have e:b=(s.heap.push {cls:= .type "range",data:= .fields #[.int lo t,.int hi u,.int 1 v]}).objs.size:=by simpa using hb
  subst e
  exact I1.fpOk (am _) (I1.hok.fresh (am _))
noncomputable def MX(ta:TA):TI:=λσ H R=>ta σ H λvs H1=>∃j:Int,vs=[.int j]/\-(2^62)<=j/\j<2^62/\R (NV 0 j.toNat) H1
theorem At{a:Expr}{ta:TA}{p pos:Pos}(hg:Gl X "range")(hm:X.mg "range" =none)(ha:PA X [a] ta)(hs:aB [a] X.env=[(false,eval a X.env)]:=by rfl):PI X tg (.Call (.Name "range" p) [a] [] pos) (MX ta):=by
 intro pins s σ H R I h
 refine Call_ (oW I hg hm boot_range (fK (eR (ha pos pins s σ H _ I h) λus s1 hPl=> ?_) hs rfl))
 obtain⟨vs,H1,I1,r1,q1⟩:=hPl
 obtain⟨j,e,q1,q2,q⟩:=q1
 subst e
 cases r1 with
 |cons r rr=>
  cases rr
  obtain⟨t,rfl⟩:=r
  exact call_range_1 (Cr I1 (by ac_nf) (by ac_nf) q1 q2 (by simpa using q))
noncomputable def N9(wi:TI)(g:TG)(tb:TS):TS:=λD σ H=>wi σ H λJ H1=>∃W:Nat->Nat->St->Hp->Prop,(∃m,W 0 m σ H1)/\∀i m σ H,W i m σ H->
 (J.stop i H/\D.nx σ H)\/(J.go i H/\∃N:St->Hp->Prop,(∀σ' H',N σ' H'->∃m',m'<m/\W (i+1) m' σ' H')/\∀x H',J.yld i H x H'->g x σ H' λσ2 H2=>tb {D with nx:=N,ct:=N,bk:=D.nx} σ2 H2)
noncomputable def oN(fp:List Addr)(h:Heap):List (Addr×Obj):=fp.filterMap λb=>(h.get? b).map λo=>(b,o)
theorem ij{fp:List Addr}{h:Heap}{b:Addr}{o:Obj}(hb:b∈fp)(e:h.get? b=some o):(b,o)∈oN fp h:=List.mem_filterMap.mpr ⟨b,hb,by rw[e];rfl⟩
theorem AE{fp:List Addr}{h:Heap}{p:Addr×Obj}(hp:p∈oN fp h):p.1∈fp/\h.get? p.1=some p.2:=by
 obtain⟨b,hb,e⟩:=List.mem_filterMap.mp hp
 cases q:h.get? b with
 |none=>rw[q]at e;cases e
 |some o=>
  rw[q]at e
  have e':(b,o)=p:=bc e
  subst e'
  exact⟨hb,q⟩
theorem Inv.pinned{pins:List (Addr×Obj)}{σ:St}{H:Hp}{s:al}{fp:List Addr}(I:Inv X pins σ H s)(hf:∀b∈fp,pZ X pins H b)(ho:∀b∈fp,∃o,s.heap.get? b=some o/\∀v,o.data≠ .cell v):Inv X (pins++oN fp s.heap) σ H s:=
 I.pins_of λp hp=>(aZ.mp hp).elim (λz=>I.pin p (bd _ z)) λz=>by
  obtain⟨hb,e⟩:=AE z
  obtain⟨f0,f1,f2,_⟩:=hf p.1 hb
  obtain⟨o,e',d⟩:=ho p.1 hb
  rw[e]at e';cases e'
  exact⟨e,f0,f1,f2,d⟩
theorem Inv.unpinned{pins pl:List (Addr×Obj)}{σ:St}{H:Hp}{s:al}(I:Inv X (pins++pl) σ H s):Inv X pins σ H s:=I.pins_of λp hp=>I.pin p (bd _ (List.mem_append_left _ hp))
theorem IM{iter:Expr}{body:List Stmt}{wi:TI}{g:TG}{tb:TS}{pos:Pos}(hp:PassesOwn (aT X.prog X.w) X.A X.env X.xe)(hc:X.calm=true)(hi:PI X tg iter wi)(hg:PG X tg g)(hb:PSs X body tb)
  (hs:∀x,dY iter X.env x=pure x:=by intro _;rfl):PS X (.For tg iter body [] pos) (N9 wi g tb):=by
 intro pins s σ H D I h
 refine wpAny_For (eR (hi pins s σ H _ I h) λv s1 h1=>eR h1 λitv s2 h2=> ?_) hs
 obtain⟨it,fp,tn,J,H2,e,I2,T,st2,f2,W,⟨m0,w0⟩,turn⟩:=h2
 subst e
 -- what stays true of the iterator's objects through the loop
 have stat:∀{H':Hp},(∀b∈fp,H' b=none)->∀b∈fp,pZ X pins H' b:=λhn b hb=>⟨hn b hb,(f2 b hb).2⟩
 refine codeAny_forLoop_any (λn s'=>∃i σ' H',Inv X pins σ' H' s'/\tn i s'.heap/\(∀b∈fp,H' b=none)/\W i n σ' H') ?_ m0 ⟨0,σ,H2,I2,st2,λb hb=>(f2 b hb).1,w0⟩
 rintro n s3 ⟨i,σ3,H3,I3,st3,fr3,w3⟩
 rcases turn i n σ3 H3 w3 with⟨stop,qn⟩|⟨go,N,hN,step⟩
 ·refine gi hp (eR (T.done X rfl rfl rfl hc i pins s3 σ3 H3 X.xe I3 (stat fr3) st3 stop) λr s4 hPl=> ?_)
  obtain⟨hr,I4⟩:=hPl
  subst hr
  exact n9 ⟨σ3,H3,I4,qn⟩
 ·refine gi hp (eR (T.item X rfl rfl rfl hc i pins s3 σ3 H3 X.xe I3 (stat fr3) st3 go) λr s4 hPl=> ?_)
  obtain⟨u,hr,h4⟩:=hPl
  subst hr
  refine gi hp (eR h4 λ_ s5 hPl=> ?_)
  obtain⟨x,H5,I5,r5,y5,st5,fr5⟩:=hPl
  have I5':=I5.pinned (stat fr5) (T.obj _ _ st5)
  refine gi hp (eR (hg _ s5 σ3 H5 x u _ I5' r5 (step x H5 y5)) λ_ s6 hPl=> ?_)
  obtain⟨σ6,H6,I6,q6⟩:=hPl
  refine gi hp (eR (hb _ s6 σ6 H6 _ I6 q6) λf s7 q7=> ?_)
  have again:∀{σ7:St} {H7:Hp},Inv X (pins++oN fp s5.heap) σ7 H7 s7->N σ7 H7->∃m,m<n/\∃i σ' H',Inv X pins σ' H' s7/\tn i s7.heap/\(∀b∈fp,H' b=none)/\W i m σ' H':=fun{σ7 H7} I7 n7=>by
   obtain⟨m',hm,w7⟩:=hN σ7 H7 n7
   refine⟨m',hm,i+1,σ7,H7,I7.unpinned,T.keep _ _ _ st5 λb hb o e=>(I7.pin (b,o) (bd _ (bd _ (ij hb e)))).1,λb hb=> ?_,w7⟩
   obtain⟨o,e,d⟩:=T.obj _ _ st5 b hb
   exact(I7.pin (b,o) (bd _ (bd _ (ij hb e)))).2.1
  cases f with
  |next=>obtain⟨σ7,H7,I7,n7⟩:=q7;exact again I7 n7
  |cont=>obtain⟨σ7,H7,I7,n7⟩:=q7;exact again I7 n7
  |brk=>obtain⟨σ7,H7,I7,q7⟩:=q7;exact⟨σ7,H7,I7.unpinned,q7⟩
  |ret v=>obtain⟨x7,σ7,H7,I7,r7,q7⟩:=q7;exact⟨x7,σ7,H7,I7.unpinned,r7,q7⟩
end
noncomputable abbrev R2:=V->V->Hp->VK->Prop
noncomputable def jl(X:Cx)(f:ae->ae->Sem ae)(r:R2):Prop:=
 ∀(pins:List (Addr×Obj)) (s:al) (σ:St) (H:Hp) (x y:V) (v u:ae) (Q:VK),Inv X pins σ H s->RelV x v->RelV y u->r x y H Q->
  wpAny (aT X.prog X.w) X.A (f v u) (EP X pins σ Q) X.xe s
noncomputable def Ny(X:Cx)(f:ae->Sem ae)(r:V->Hp->VK->Prop):Prop:=
 ∀(pins:List (Addr×Obj)) (s:al) (σ:St) (H:Hp) (x:V) (v:ae) (Q:VK),Inv X pins σ H s->RelV x v->r x H Q->
  wpAny (aT X.prog X.w) X.A (f v) (EP X pins σ Q) X.xe s
noncomputable def hV(X:Cx)(f:ae)(r:List V->Hp->VK->Prop):Prop:=
 ∀(pins:List (Addr×Obj)) (s:al) (σ:St) (H:Hp) (xs:List V) (us:List ae) (Q:VK),Inv X pins σ H s->Vals xs us->r xs H Q->
  wpAny (aT X.prog X.w) X.A (call f us) (EP X pins σ Q) X.xe s
noncomputable def Lj(r:R2)(ta tb:TE):TE:=λσ H Q=>ta σ H λx H1=>tb σ H1 λy H2=>r x y H2 Q
noncomputable def tUn(r:V->Hp->VK->Prop)(ta:TE):TE:=λσ H Q=>ta σ H λx H1=>r x H1 Q
noncomputable def rI(C:Int->Int->Prop)(g:Int->Int->V):R2:=λx y H Q=>∃i j,x= .int i/\y= .int j/\C i j/\Q (g i j) H
noncomputable def HG(g:Int->Int->V):R2:=λx y H Q=>∃i j,x= .int i/\y= .int j/\Q (g i j) H
noncomputable def rU(g:Int->V):V->Hp->VK->Prop:=λx H Q=>∃i,x= .int i/\Q (g i) H
section
variable{X:Cx}{a b:Expr}{ta tb:TE}{pos:Pos}
theorem KO(ha:PE X a ta)(hb:PE X b tb){pins:List (Addr×Obj)}{s:al}{σ:St}{H:Hp}{R:V->V->Hp->Prop}(I:Inv X pins σ H s)
  (h:ta σ H λx H1=>tb σ H1 λy H2=>R x y H2) {Q:ae->al->Prop} {f:ae->ae->Sem ae}
  (hf:∀v u s2 x y H2,Inv X pins σ H2 s2->RelV x v->RelV y u->R x y H2->wpAny (aT X.prog X.w) X.A (f v u) Q X.xe s2):
  wpAny (aT X.prog X.w) X.A (eval a X.env) (λv s₁=>wpAny (aT X.prog X.w) X.A (eval b X.env) (λu s₂=>wpAny (aT X.prog X.w) X.A (f v u) Q X.xe s₂) X.xe s₁) X.xe s:=by
 refine eR (ha pins s σ H _ I h) λv s1 hPl=> ?_
 obtain⟨x,H1,I1,r1,q1⟩:=hPl
 refine eR (hb pins s1 σ H1 _ I1 q1) λu s2 hPl=> ?_
 obtain⟨y,H2,I2,r2,q2⟩:=hPl
 exact hf v u s2 x y H2 I2 r1 r2 q2
theorem LL{op:Operator}{r:R2}(ho:jl X (dO op) r)(ha:PE X a ta)(hb:PE X b tb):PE X (.BinOp a op b pos) (Lj r ta tb):=by
 intro pins s σ H Q I h
 exact wpAny_BinOp (KO ha hb I h λv u s2 x y H2 I2 rx ry q=>ho pins s2 σ H2 x y v u Q I2 rx ry q)
theorem HH{op:UnaryOp}{r:V->Hp->VK->Prop}(ho:Ny X (unaryOp op) r)(ha:PE X a ta):PE X (.UnaryOp op a pos) (tUn r ta):=by
 intro pins s σ H Q I h
 exact UnaryOp_ (eR (ha pins s σ H _ I h) λv s1 ⟨x,H1,I1,r1,q1⟩=>ho pins s1 σ H1 x v Q I1 r1 q1)
theorem NF{f:ae->ae->Sem ae}{C:Int->Int->Prop}{g:Int->Int->Int}
  (rule:∀(i j:Int) (t u:Tok) (s:al) (Q:ae->al->Prop) (E:ae->al->Prop),C i j->Q (.int (g i j) s.toks) {s with toks:=s.toks+1}->wpAny (aT X.prog X.w) X.A (f (.int i t) (.int j u)) Q E s):
  jl X f (rI C λi j=> .int (g i j)):=by
 intro pins s σ H x y v u Q I rx ry h
 obtain⟨i,j,rfl,rfl,hc,q⟩:=h
 obtain⟨t,rfl⟩:=rx
 obtain⟨t',rfl⟩:=ry
 exact rule i j t t' s _ _ hc ⟨.int (g i j),H,I.tok _,⟨_,rfl⟩,q⟩
theorem LS{f:ae->ae->Sem ae}{g:Int->Int->Int}
  (rule:∀(i j:Int) (t u:Tok) (s:al) (Q:ae->al->Prop) (E:ae->al->Prop),Q (.int (g i j) s.toks) {s with toks:=s.toks+1}->wpAny (aT X.prog X.w) X.A (f (.int i t) (.int j u)) Q E s):
  jl X f (HG λi j=> .int (g i j)):=by
 intro pins s σ H x y v u Q I rx ry h
 obtain⟨i,j,rfl,rfl,q⟩:=h
 obtain⟨t,rfl⟩:=rx
 obtain⟨t',rfl⟩:=ry
 exact rule i j t t' s _ _ ⟨.int (g i j),H,I.tok _,⟨_,rfl⟩,q⟩
theorem Jm{f:ae->ae->Sem ae}{g:Int->Int->Bool}
  (rule:∀(i j:Int) (t u:Tok) (s:al) (Q:ae->al->Prop) (E:ae->al->Prop),Q (.bool (g i j)) s->wpAny (aT X.prog X.w) X.A (f (.int i t) (.int j u)) Q E s):
  jl X f (HG λi j=> .bl (g i j)):=by
 intro pins s σ H x y v u Q I rx ry h
 obtain⟨i,j,rfl,rfl,q⟩:=h
 obtain⟨t,rfl⟩:=rx
 obtain⟨t',rfl⟩:=ry
 exact rule i j t t' s _ _ ⟨.bl (g i j),H,I,rfl,q⟩
noncomputable def K3(i j:Int):Prop:=0<=j/\j<=1000000/\i.natAbs<2^64
noncomputable def CMul(i j:Int):Prop:=(-(2^64)<i/\i<2^64)\/(-(2^64)<j/\j<2^64)
theorem CMul.ok{i j:Int}(h:CMul i j):IntMulOk i j:=by
 rcases h with⟨h1,h2⟩|⟨h1,h2⟩
 ·exact .of_left (intBits_le_64 h1 h2)
 ·exact .of_right (intBits_le_64 h1 h2)
theorem Jl:jl X (dO .Add) (HG λi j=> .int (i+j)):=LS λ_ _ _ _ _ _ _ q=>add_int q
theorem Jf:jl X (dO .Sub) (HG λi j=> .int (i-j)):=LS λ_ _ _ _ _ _ _ q=>sub_int q
theorem Ji:jl X (dO .Mult) (rI CMul λi j=> .int (i*j)):=NF λ_ _ _ _ _ _ _ hc q=>mul_int q hc.ok
theorem Jj:jl X (dO .Mod) (rI (λ_ j=>0<j) λi j=> .int (i%j)):=NF λi j _ _ _ _ _ hc q=>by
 have h1:(0:Int)<j:=hc
 exact mod_int' (by ac_nf) (by rw[Int.fmod_eq_emod_of_nonneg i (by ac_nf)];exact q)
theorem Jh:jl X (dO .Pow) (rI K3 λi j=> .int (i^j.toNat)):=NF λ_ _ _ _ _ _ _ hc q=>pow_int_small hc.1 hc.2.1 hc.2.2 q
theorem unI{f:ae->Sem ae}{g:Int->Int}
  (rule:∀(i:Int) (t:Tok) (s:al) (Q:ae->al->Prop) (E:ae->al->Prop),Q (.int (g i) s.toks) {s with toks:=s.toks+1}->wpAny (aT X.prog X.w) X.A (f (.int i t)) Q E s):
  Ny X f (rU λi=> .int (g i)):=by
 intro pins s σ H x v Q I rx h
 obtain⟨i,rfl,q⟩:=h
 obtain⟨t,rfl⟩:=rx
 exact rule i t s _ _ ⟨.int (g i),H,I.tok _,⟨_,rfl⟩,q⟩
theorem BF:Ny X (unaryOp .USub) (rU λi=> .int (-i)):=unI λ_ _ _ _ _ q=>neg_int q
end
section
variable{X:Cx}{a b c:Expr}{ta tb:TE}{pos:Pos}
theorem yi{pins:List (Addr×Obj)}{σ:St}{H:Hp}{s:al}{Q:VK}{k k':Bool}(I:Inv X pins σ H s)(q:Q (.bl k) H)(e:k=k'):EP X pins σ Q (.bool k') s:=by
 subst e
 exact⟨.bl k,H,I,rfl,q⟩
theorem LP:jl X (cL .Lt) (HG λi j=> .bl (decide (i<j))):=Jm λ_ _ _ _ _ _ _ q=>lt_int q
theorem LQ:jl X (cL .Gt) (HG λi j=> .bl (decide (j<i))):=Jm λ_ _ _ _ _ _ _ q=>gt_int q
theorem LR:jl X (cL .GtE) (HG λi j=> .bl (decide (j<=i))):=Jm λ_ _ _ _ _ _ _ q=>ge_int q
theorem Av:jl X (cL .Lt) (λx y H Q=>∃i j,x= .str i/\y= .str j/\Q (.bl (decide (i.cps.toList<j.cps.toList))) H):=by
 intro pins s σ H x y v u Q I rx ry h
 obtain⟨i,j,rfl,rfl,q⟩:=h
 obtain⟨t,rfl⟩:=rx
 obtain⟨t',rfl⟩:=ry
 exact lt_str (yi I q rfl)
theorem Aw:jl X (cL .In) (λx y H Q=>∃i j,x= .str i/\y= .str j/\Q (.bl (!(gG j i 0 j.length 1).isEmpty)) H):=by
 intro pins s σ H x y v u Q I rx ry h
 obtain⟨i,j,rfl,rfl,q⟩:=h
 obtain⟨t,rfl⟩:=rx
 obtain⟨t',rfl⟩:=ry
 exact in_str (yi I q rfl)
theorem Jk:jl X (cL .Is) (λx y H Q=>y= .non/\Q (.bl (decide (x= .non))) H):=by
 intro pins s σ H x y v u Q I rx ry h
 obtain⟨rfl,q⟩:=h
 cases ry
 refine is_none_gen (yi I q ?_)
 cases x<;>first
  |(cases rx;rfl)
  |(obtain⟨t,rfl⟩:=rx;rfl)
theorem kH(b:Expr){op:CmpOp}(h:op≠ .In:=by decide)(h2:op≠ .NotIn:=by decide):gq op b=false:=by
 have e1:(op==CmpOp.In)=false:=by cases op<;>first|rfl|exact absurd rfl h
 have e2:(op==CmpOp.NotIn)=false:=by cases op<;>first|rfl|exact absurd rfl h2
 cases b<;>simp[gq,e1,e2]
theorem Fx{op:CmpOp}{r:R2}(ho:jl X (cL op) r)(ha:PE X a ta)(hb:PE X b tb)(hm:gq op b=false):PE X (.Compare a [op] [b] pos) (Lj r ta tb):=by
 intro pins s σ H Q I h
 exact wpAny_Compare1 (KO ha hb I h λv u s2 x y H2 I2 rx ry q=>ho pins s2 σ H2 x y v u Q I2 rx ry q) hm
noncomputable def Ho(t:TE):TT:=λσ H Q=>t σ H λx H'=>∃k,x= .bl k/\Q k H'
theorem E8{op:CmpOp}{r:R2}(ho:jl X (cL op) r)(ha:PE X a ta)(hb:PE X b tb)(hm:gq op b=false):PT X (.Compare a [op] [b] pos) (Ho (Lj r ta tb)):=by
 intro pins s σ H Q I h
 refine wpAny_isTrue_Compare1 (eR (ha pins s σ H _ I h) λv s1 ⟨x,H1,I1,r1,q1⟩=>eR (hb pins s1 σ H1 _ I1 q1) λu s2 ⟨y,H2,I2,r2,q2⟩=>
  eR (ho pins s2 σ H2 x y v u _ I2 r1 r2 q2) λc s3 ⟨z,H3,I3,r3,k,e,q3⟩=> ?_) hm
 subst e
 cases r3
 exact iR ⟨H3,I3,q3⟩
theorem l9:(aQ:Nat)<2^63:=by rw[jz];decide
theorem xN:jl X (dO .Add) (λx y H Q=>∃i j,x= .str i/\y= .str j/\i.length+j.length<=aQ/\Q (.str (i++j)) H):=by
 intro pins s σ H x y v u Q I rx ry h
 obtain⟨i,j,rfl,rfl,hz,q⟩:=h
 obtain⟨t,rfl⟩:=rx
 obtain⟨t',rfl⟩:=ry
 exact add_str (λt' tk=>⟨.str (i++j),H,I.tok _,⟨_,rfl⟩,q⟩) hz
theorem yL{x:V}{us:List ae}(r:Vals [x] us):∃u,us=[u]/\RelV x u:=by
 cases r with
 |cons r1 r2=>cases r2;exact⟨_,rfl,r1⟩
theorem Lc{x y:V}{us:List ae}(r:Vals [x,y] us):∃u w',us=[u,w']/\RelV x u/\RelV y w':=by
 cases r with
 |cons r1 r2=>
  cases r2 with
  |cons r3 r4=>cases r4;exact⟨_,_,rfl,r1,r3⟩
theorem A7(hc:X.calm=true):hV X (.builtin "max") (λxs H Q=>∃i j,xs=[.int i,.int j]/\Q (.int (if j>i then j else i)) H):=by
 intro pins s σ H xs us Q I r h
 obtain⟨i,j,rfl,q⟩:=h
 obtain⟨u,w',rfl,⟨t,rfl⟩,⟨t',rfl⟩⟩:=Lc r
 refine max_two_ints (I.ok.hd hc) λh' tk k=>⟨_,H,I.kept k,?_,q⟩
 by_cases hj:j>i
 ·rw[if_pos hj,if_pos hj];exact⟨_,rfl⟩
 ·rw[if_neg hj,if_neg hj];exact⟨_,rfl⟩
end
structure ObjM(h:Heap)(x dx C:Addr)(mA:Str->Option ae):Prop where
 obj:h.get? x=some (PySem.W.instObj C dx)
 ns:h.Ns1 dx mA
 ne:dx≠x
theorem AK{h:Heap}{dx:Addr}{mA:Str->Option ae}(n:h.Ns1 dx mA):∃od,h.get? dx=some od/\∀name,PySem.W.lookIn name od=some (mA name):=by
 obtain⟨o,es,ep,ho,hd,hk,_,hm⟩:=n
 refine⟨o,ho,λname=> ?_⟩
 have e:=hm name
 unfold nsFind findBy at e
 rw[<-Array.find?_toList]at e
 unfold PySem.W.lookIn
 rw[hd]
 dsimp only
 split
 ·rename_i y q
  rw[q]at e
  exact congrArg some e
 ·rename_i q
  rw[q]at e
  have a:es.toList.any (·.refKey)=false:=by
   rw[List.any_eq_false]
   intro y hy
   obtain⟨z,t,hkey⟩:=hk y (Array.mem_toList_iff.mp hy)
   simp[DictEntry.refKey,hkey]
  have a':¬es.toList.any (·.refKey)=true:=by rw[a];exact bx
  rw[if_neg a']
  exact congrArg some e
theorem ObjM.look{h:Heap}{x dx C:Addr}{mA:Str->Option ae}(I:ObjM h x dx C mA):∃od,PySem.W.InstAt h x (PySem.W.instObj C dx) C (some od)/\∀name,PySem.W.lookIn name od=some (mA name):=
 let⟨od,ho,hl⟩:=AK I.ns
 ⟨od,⟨I.obj,rfl,rfl,ho⟩,hl⟩
section
variable{prog:aK}{w:aX}{A:Around}{E:ae->al->Prop}{s:al}{K:PySem.W.Frag}{x dx C f:Addr}{mA:Str->Option ae}{name:Str}{v:ae}
theorem GP{expr:Bool}{Q:ae->al->Prop}(X:K.In s.heap)(I:ObjM s.heap x dx C mA)(hg:PySem.W.plainGet K C name=true)(hh:PySem.W.hasDictIn K C=true)
  (ha:PySem.W.findIn K (.ref C) name=some none) (hv:mA name=some v) (hv':PySem.W.handedIn v=true) (h:Q v {s with toks:=s.toks+1}):
  wpAny (aT prog w) A (getAttr (.ref x) name expr) Q E s:=by
 obtain⟨od,J,hl⟩:=I.look
 exact PySem.W.get_value X J (PySem.W.plainGet_of hg).1 (PySem.W.findObj_own hh ha rfl (by rw[hl,hv])) hv' h
theorem DU{pl:Sem Bool}{Q:ae×List ae->al->Prop}(X:K.In s.heap)(I:ObjM s.heap x dx C mA)(hg:PySem.W.plainGet K C name=true)
  (hf:PySem.W.findIn K (.ref C) name=some (some (.ref f))) (ht:PySem.W.isFn K (.ref f)=true) (hv:mA name=none) (h:Q (.ref f,[.ref x]) s):
  wpAny (aT prog w) A (getMethod (.ref x) name pl) Q E s:=by
 obtain⟨od,J,hl⟩:=I.look
 exact PySem.W.method_fn X J (PySem.W.plainGet_of hg).1 (PySem.W.plainGet_of hg).2 hf (beq_iff_eq.mp ht) (by show(PySem.W.lookIn name od).map (·.isSome)=some false;rw[hl,hv];rfl) h
theorem EV{ns:List Str}{Q:Unit->al->Prop}(X:K.In s.heap)(I:ObjM s.heap x dx C mA)
  (hs:PySem.W.findIn K (.ref C) "__setattr__" =some (some (.builtin "object.__setattr__"))) (hp:PySem.W.plainOver K C=true) (ht:PySem.W.takerIn K C name=some none) (hh:PySem.W.hasDictIn K C=true)
  (hw:PySem.Within mA ns) (hsz:ns.length<=aQ)
  (h:∀h',ObjM h' x dx C (λy=>if y=name then some v else mA y)->e8 dx s.heap h'->Q () {s with heap:=h',toks:=s.toks+2}):
  wpAny (aT prog w) A (setAttr (.ref x) name v) Q E s:=by
 obtain⟨od,J,hl⟩:=I.look
 refine PySem.W.set_plain X J hs (PySem.W.osa_open (s:={s with toks:=s.toks+1}) (r:=none) X J hp ht λb=> ?_)
 obtain⟨cd,hc,hd'⟩:=PySem.W.any_some hh
 have hx:s.heap.get? x=some ⟨.ref C,some dx,.plain,#[]⟩:=I.obj
 refine aa (ao (aa (aa (wpAny_loadPart hx (aa (PySem.W.Looks.here (s:={s with toks:=s.toks+1}) (PySem.W.looks_clsIn X hc) ?_))))))
 rw[hd']
 refine ao (a:=some dx) (aa (ao (aa ?_)))
 refine wpAny_nsSet1 (s:={s with toks:=s.toks+1}) I.ns λh' hn2 hs2=> ?_
 obtain⟨oD,esD,epD,hoD,hdD,hcD⟩:=hn2.count (PySem.Within.cons name v hw)
 refine aa (wpAny_lookBehind hoD (by rw[hdD];exact pastItsLine_dict (aP hcD (by rw[aM];ac_nf))) ?_)
 exact ao (h _ ⟨(hs2.2 _ (aG I.ne)).trans I.obj,hn2,I.ne⟩ hs2)
theorem Du{R:Result->al->Prop}{vs:List ae}{kw:List (Str×ae)}(X:K.In s.heap)(hm:PySem.W.makesIn K C=true)
  (hi:PySem.W.findIn K (.ref C) "__init__" =some (some (.ref f))) (hf:PySem.W.typeIn K (.ref f)=some (.type "function"))
  (h:codeAny (aT prog w) (A.under (.builtin "type.__call__" ⟨.ref C::vs,kw⟩)) (.call (.ref f) ⟨.ref (s.heap.objs.size+1)::vs,kw⟩) (PySem.W.InitBack (s.heap.objs.size+1) R)
   {s with heap:=(s.heap.push PySem.W.emptyDict).push (PySem.W.instObj C s.heap.objs.size)}):
  codeAny (aT prog w) A (.call (.ref C) ⟨vs,kw⟩) R s:=by
 obtain⟨hh,g,d,t,os⟩:=s
 exact PySem.W.make_core (PySem.W.makes_of X hm) (PySem.W.looks_findIn X hi) (λself=>PySem.W.bind_fn X self hf) (.inl rfl) h
end
noncomputable def jC(f:Str)(v:V):List (Str×V)->List (Str×V)
 |[]=>[(f,v)]
 |(g,x)::r=>if g=f then(g,v)::r else(g,x)::jC f v r
theorem pB(f g:Str)(v:V):∀fs:List (Str×V),(jC f v fs).lookup g=if g=f then some v else fs.lookup g
 |[]=>by
  show iY g [(f,v)]=_
  by_cases h:g=f
  ·have hb:(g==f)=true:=beq_iff_eq.mpr h
   simp only[iY,hb,if_pos h]
  ·have hb:(g==f)=false:=beq_eq_false_iff_ne.mpr h
   simp only[iY,hb,if_neg h]
 |(k,x)::r=>by
  have ih:=pB f g v r
  rw[show jC f v ((k,x)::r)=(if k=f then(k,v)::r else(k,x)::jC f v r)from rfl]
  by_cases hk:k=f
  ·rw[if_pos hk]
   by_cases h:g=k
   ·have hb:(g==k)=true:=beq_iff_eq.mpr h
    simp only[iY,hb,if_pos (h.trans hk)]
   ·have hb:(g==k)=false:=beq_eq_false_iff_ne.mpr h
    simp only[iY,hb,if_neg (λe:g=f=>h (e.trans hk.symm))]
  ·rw[if_neg hk]
   by_cases h:g=k
   ·have hb:(g==k)=true:=beq_iff_eq.mpr h
    simp only[iY,hb,if_neg (λe:g=f=>hk (h.symm.trans e))]
   ·have hb:(g==k)=false:=beq_eq_false_iff_ne.mpr h
    simp only[iY,hb]
    exact ih
theorem oX(f:Str)(v:V):∀fs:List (Str×V),f∈(jC f v fs).map (·.1)/\∀g,g∈fs.map (·.1)->g∈(jC f v fs).map (·.1)
 |[]=>⟨by simp[jC],λg h=>by simp at h⟩
 |(k,x)::r=>by
  obtain⟨i1,i2⟩:=oX f v r
  rw[show jC f v ((k,x)::r)=(if k=f then(k,v)::r else(k,x)::jC f v r)from rfl]
  by_cases hk:k=f
  ·rw[if_pos hk]
   subst hk
   exact⟨by simp,λg h=>by simpa using h⟩
  ·rw[if_neg hk]
   refine⟨?_,λg h=> ?_⟩
   ·rw[aw]
    exact cX _ i1
   ·rw[aw]at h⊢
    rcases aI.mp h with e|e
    ·exact aI.mpr (.inl e)
    ·exact cX _ (i2 g e)
theorem pC(f:Str)(v:V):∀fs:List (Str×V),(jC f v fs).length<=fs.length+1
 |[]=>by simp[jC]
 |(k,x)::r=>by
  have ih:=pC f v r
  rw[show jC f v ((k,x)::r)=(if k=f then(k,v)::r else(k,x)::jC f v r)from rfl]
  by_cases hk:k=f
  ·rw[if_pos hk,aM,aM];ac_nf
  ·rw[if_neg hk,aM,aM];ac_nf
theorem RelO.some_of{v:V}{o:Option ae}(r:RelO (some v) o):∃u,o=some u/\RelV v u:=by
 cases o with
 |none=>exact(show False from r).elim
 |some u=>exact⟨u,rfl,r⟩
theorem RelO.none_of{o:Option ae}(r:RelO none o):o=none:=by
 cases o with
 |none=>rfl
 |some u=>exact(show False from r).elim
theorem A1{v:V}{u:ae}(r:RelV v u):PySem.W.handedIn u=true:=by
 cases v with
 |non=>cases (show u=bA from r);rfl
 |bl b=>cases (show u=fj b from r);rfl
 |int i=>obtain⟨t,e⟩:=(show∃t,u=ed i t from r);cases e;rfl
 |str x=>obtain⟨t,e⟩:=(show∃t,u=jx x t from r);cases e;rfl
 |byt b=>obtain⟨t,e⟩:=(show∃t,u=ae.bytes b t from r);cases e;rfl
 |flt b=>obtain⟨t,e⟩:=(show∃t,u=ae.float b t from r);cases e;rfl
 |ref a=>cases (show u=aH a from r);rfl
 |ty n=>cases (show u=bD n from r);rfl
section
variable{P:aK}{w:aX}{H:Hp}{h:Heap}{a C dx:Addr}{fs:List (Str×V)}
theorem qt(hok:HOk P w H h)(e:H a=some (.ins C dx fs)):∃mA,ObjM h a dx C mA/\(∀f,RelO (fs.lookup f) (mA f))/\PySem.Within mA (fs.map (·.1))/\fs.length<=1000/\H dx=some (.own a):=by
 obtain⟨d,z,ne,ob,mA,n,r,q⟩:=(show ObjOk P w H h a (.ins C dx fs)from hok a _ e)
 exact⟨mA,⟨ob,n,ne⟩,r,q,z,d⟩
end
structure Cls(K:PySem.W.Frag)(C:Addr):Prop where
 pg:PySem.W.plainGet K C Str.empty=true
 hd:PySem.W.hasDictIn K C=true
 po:PySem.W.plainOver K C=true
 sa:PySem.W.findIn K (.ref C) "__setattr__" =some (some (.builtin "object.__setattr__"))
theorem Cls.get{K:PySem.W.Frag}{C:Addr}(c:Cls K C)(f:Str):PySem.W.plainGet K C f=true:=c.pg
noncomputable def NoAttr(K:PySem.W.Frag)(C:Addr)(f:Str):Prop:=PySem.W.findIn K (.ref C) f=some none
theorem NoAttr.taker{K:PySem.W.Frag}{C:Addr}{f:Str}(n:NoAttr K C f):PySem.W.takerIn K C f=some none:=by
 unfold PySem.W.takerIn
 rw[show PySem.W.findIn K (.ref C) f=some none from n]
 rfl
structure jo(K:PySem.W.Frag)(C:Addr)(m:Str)(f:Addr):Prop where
 at_:PySem.W.findIn K (.ref C) m=some (some (.ref f))
 fn:PySem.W.isFn K (.ref f)=true
 kp:PySem.W.keepIn K (.ref f)=true
section
variable{X:Cx}{pins:List (Addr×Obj)}{σ:St}{H:Hp}{s:al}{a C dx:Addr}{fs:List (Str×V)}{f:Str}{v:V}{A:Around}{E:ae->al->Prop}
theorem rH{b:Bool}{Q:ae->al->Prop}(I:Inv X pins σ H s)(e:H a=some (.ins C dx fs))(c:Cls X.K C)(n:NoAttr X.K C f)(l:fs.lookup f=some v)
  (h:∀u s',Inv X pins σ H s'->RelV v u->Q u s'):wpAny (aT X.prog X.w) A (getAttr (.ref a) f b) Q E s:=by
 obtain⟨mA,O,r,_,_,_⟩:=qt I.hok e
 obtain⟨u,hu,ru⟩:=RelO.some_of (v:=v) (o:=mA f) (by rw[<-l];exact r f)
 exact GP I.kIn O (c.get f) c.hd n hu (A1 ru) (h u _ (I.tok _) ru)
theorem rG{m:Str}{g:Addr}{pl:Sem Bool}{Q:ae×List ae->al->Prop}(I:Inv X pins σ H s)(e:H a=some (.ins C dx fs))(c:Cls X.K C)(k:jo X.K C m g)(l:fs.lookup m=none)
  (h:Q (.ref g,[.ref a]) s):wpAny (aT X.prog X.w) A (getMethod (.ref a) m pl) Q E s:=by
 obtain⟨mA,O,r,_,_,_⟩:=qt I.hok e
 have hn:mA m=none:=RelO.none_of (by rw[<-l];exact r m)
 exact DU I.kIn O (c.get m) k.at_ k.fn hn h
theorem qT{y:V}{u:ae}{Q:Unit->al->Prop}(I:Inv X pins σ H s)(e:H a=some (.ins C dx fs))(c:Cls X.K C)(n:NoAttr X.K C f)(hl:fs.length<1000)(ry:RelV y u)
  (h:∀s',Inv X pins σ (upd H a (.ins C dx (jC f y fs))) s'->Q () s'):wpAny (aT X.prog X.w) A (setAttr (.ref a) f u) Q E s:=by
 obtain⟨mA,O,r,wi,_,ho⟩:=qt I.hok e
 have hz:(fs.map (·.1)).length<=aQ:=by rw[ai,jz];ac_nf
 refine EV I.kIn O c.sa c.po n.taker c.hd wi hz λh' O' sb=>h _ ?_
 have hd:∃o,h'.get? dx=some o:=let⟨o,_,_,e',_⟩:=O'.ns;⟨o,e'⟩
 refine I.write (x:=a) (e:=dx) (by rw[e];exact cF) (.inr ho) (λb q hb z=>(sb.2 b hb).trans z) hd ?_
 refine⟨by rw[bH O.ne];exact ho,?_,O.ne,O'.obj,_,O'.ns,λg=> ?_,λg hg=> ?_⟩
 ·have:=pC f y fs;ac_nf
 ·show RelO ((jC f y fs).lookup g) (if g=f then some u else mA g)
  rw[pB]
  by_cases q:g=f
  ·rw[if_pos q,if_pos q];exact ry
  ·rw[if_neg q,if_neg q];exact r g
 ·by_cases q:g=f
  ·rw[q];exact(oX f y fs).1
  ·refine(oX f y fs).2 g (wi g λz=>hg ?_)
   show(if g=f then some u else mA g)=none
   rw[if_neg q];exact z
theorem Inv.made(I:Inv X pins σ H s):Inv X pins σ (upd (upd H s.heap.objs.size (.own (s.heap.objs.size+1))) (s.heap.objs.size+1) (.ins C s.heap.objs.size []))
  {s with heap:=(s.heap.push PySem.W.emptyDict).push (PySem.W.instObj C s.heap.objs.size)}:=by
 have e1:(s.heap.push PySem.W.emptyDict).get? s.heap.objs.size=some PySem.W.emptyDict:=aJ s.heap rfl
 have e2:((s.heap.push PySem.W.emptyDict).push (PySem.W.instObj C s.heap.objs.size)).get? (s.heap.objs.size+1)=some (PySem.W.instObj C s.heap.objs.size):=by
  have:=aJ (s.heap.push PySem.W.emptyDict) (o:=PySem.W.instObj C s.heap.objs.size) rfl
  rwa [cU]at this
 have e3:(s.heap.push PySem.W.emptyDict).Ns s.heap.objs.size (λ_=>none):=⟨PySem.W.emptyDict,#[],_,e1,rfl,(λe he=>absurd he (by simp)),λ_=>rfl⟩
 have I1:=I.laid (a:=s.heap.objs.size) (o:= .own (s.heap.objs.size+1)) (h':=s.heap.push PySem.W.emptyDict) (t':=s.toks) (λb u q=>aj _ q) (am _) ⟨_,e1⟩
 refine I1.laid (a:=s.heap.objs.size+1) (o:= .ins C s.heap.objs.size []) (t':=s.toks) (λb u q=>aj _ q) (Nat.le_of_eq (cU _ _)) ?_
 have ne:s.heap.objs.size≠s.heap.objs.size+1:=aS (fL _)
 refine⟨by rw[bH ne,cG],bn _,ne,e2,λ_=>none,(Heap.Ns1.of_empty e3).at λo q=>aj _ q,λ_=>cF,λy hy=>absurd rfl hy⟩
theorem Hk{prog:aK}{w:aX}{env:Env}{e:Expr}{f:Str}{pos:Pos}{s:al}{Q:ae->al->Prop}(hb:cz e f env (eval e env)=eval e env)
  (h:wpAny (aT prog w) A (eval e env) (λo s₁=>wpAny (aT prog w) A (getAttr o f true) Q E s₁) E s):wpAny (aT prog w) A (eval (.Attribute e f pos) env) Q E s:=
 Attribute_any_ h (by rw[arm_eval_Attribute,hb])
end
noncomputable def Oa(K:PySem.W.Frag)(ta:TE)(f:Str):TE:=λσ H Q=>ta σ H λx H1=>∃a C dx fs v,x= .ref a/\H1 a=some (.ins C dx fs)/\Cls K C/\NoAttr K C f/\fs.lookup f=some v/\Q v H1
noncomputable def Of(K:PySem.W.Frag)(ta tv:TE)(f:Str):TS:=λD σ H=>tv σ H λy H1=>ta σ H1 λx H2=>∃a C dx fs,x= .ref a/\H2 a=some (.ins C dx fs)/\Cls K C/\NoAttr K C f/\fs.length<1000/\
 D.nx σ (upd H2 a (.ins C dx (jC f y fs)))
noncomputable def NA(X:Cx)(op:Operator)(rd:V->V->Hp->VK->Prop):Prop:=
 ∀(pins:List (Addr×Obj)) (s:al) (σ:St) (H:Hp) (x y:V) (u v:ae) (Q:VK),Inv X pins σ H s->RelV x u->RelV y v->rd x y H Q->wpAny (aT X.prog X.w) X.A (inplaceOp op u v) (EP X pins σ Q) X.xe s
noncomputable def EZ(K:PySem.W.Frag)(ta tv:TE)(rd:V->V->Hp->VK->Prop)(f:Str):TS:=λD σ H=>ta σ H λx H1=>∃a C dx fs v,x= .ref a/\H1 a=some (.ins C dx fs)/\Cls K C/\NoAttr K C f/\fs.lookup f=some v/\
 tv σ H1 λy H2=>rd v y H2 λz H3=>∃dx' fs',H3 a=some (.ins C dx' fs')/\fs'.length<1000/\D.nx σ (upd H3 a (.ins C dx' (jC f z fs')))
section
variable{X:Cx}{o e value:Expr}{f:Str}{pos pos' tpos:Pos}{ta tv:TE}
theorem Jb(he:PE X e ta)(hb:cz e f X.env (eval e X.env)=eval e X.env):PE X (.Attribute e f pos) (Oa X.K ta f):=by
 intro pins s σ H Q I h
 refine Hk hb (eR (he pins s σ H _ I h) λu s1 hPl=> ?_)
 obtain⟨x,H1,I1,rx,a,C,dx,fs,v,ex,ea,c,n,l,q⟩:=hPl
 subst ex
 obtain rfl:u=aH a:=rx
 exact rH I1 ea c n l λu' s2 I2 ru=>⟨v,H1,I2,ru,q⟩
theorem IN(ha:PE X o ta)(hv:PE X value tv)(hs:jh value (some (.Attribute o f pos')) pos.line X.env=pure false):PS X (.Assign [.Attribute o f pos'] value pos) (Of X.K ta tv f):=by
 intro pins s σ H D I h
 refine plainObj_wpAny_Assign_Attribute (eR (hv pins s σ H _ I h) λu s1 ⟨y,H1,I1,ry,q⟩=>eR (ha pins s1 σ H1 _ I1 q) λov s2 ⟨x,H2,I2,rx,a,C,dx,fs,ex,ea,c,n,l,q2⟩=> ?_) hs
 subst ex
 obtain rfl:ov=aH a:=rx
 exact qT I2 ea c n l ry λs3 I3=>⟨σ,_,I3,q2⟩
theorem Aq{op:Operator}{rd:V->V->Hp->VK->Prop}(ha:PE X o ta)(hv:PE X value tv)(hop:NA X op rd):PS X (.AugAssign (.Attribute o f tpos) op value pos) (EZ X.K ta tv rd f):=by
 intro pins s σ H D I h
 refine wpAny_AugAssign_AttributeAny (eR (ha pins s σ H _ I h) λov s1 hPl=> ?_)
 obtain⟨x,H1,I1,rx,a,C,dx,fs,v,ex,ea,c,n,l,q⟩:=hPl
 subst ex
 obtain rfl:ov=aH a:=rx
 refine rH I1 ea c n l λu s2 I2 ru=>eR (hv pins s2 σ H1 _ I2 q) λw3 s3 ⟨y,H2,I3,ry,q3⟩=>eR (hop pins s3 σ H2 v y u w3 _ I3 ru ry q3) λw4 s4 ⟨z,H3,I4,rz,dx',fs',ea',l',q4⟩=> ?_
 exact qT I4 ea' c n l' rz λs5 I5=>⟨σ,_,I5,q4⟩
noncomputable def Ot:V->V->Hp->VK->Prop:=λx y H Q=>∃i j,x= .int i/\y= .int j/\Q (.int (i+j)) H
theorem Kv:NA X .Add Ot:=by
 rintro pins s σ H x y u v Q I rx ry ⟨i,j,rfl,rfl,q⟩
 obtain⟨t,rfl⟩:=(show∃t,u=ed i t from rx)
 obtain⟨t',rfl⟩:=(show∃t',v=ed j t' from ry)
 exact PyProof.Rows.iadd_int ⟨.int (i+j),H,I.tok _,⟨_,rfl⟩,q⟩
end
section
variable{X:Cx}{pins:List (Addr×Obj)}{σ:St}{H:Hp}{s:al}{A:Around}{E:ae->al->Prop}{Q:ae->al->Prop}{c:ae}{b:Bool}
inductive pW (K:PySem.W.Frag) (H:Hp):V->ae->Prop where
 |non:pW K H .non (.type "NoneType")
 |bl (x:Bool):pW K H (.bl x) (.type "bool")
 |int (i:Int):pW K H (.int i) (.type "int")
 |str (x:Str):pW K H (.str x) (.type "str")
 |flt (x:UInt64):pW K H (.flt x) (.type "float")
 |lst {a:Addr} {xs:List V} (e:H a=some (.lst xs)):pW K H (.ref a) (.type "list")
 |frz {a:Addr} {o:Obj} {xs:List V} (e:H a=some (.frz o (.lst xs))):pW K H (.ref a) (.type "list")
 |tup {a:Addr} {xs:List V} (e:H a=some (.tup xs)):pW K H (.ref a) (.type "tuple")
 |dK {a:Addr} {kvs:List (Key×V)} (e:H a=some (.dK kvs)):pW K H (.ref a) (.type "dict")
 |dT {a:Addr} {kvs:List (List Key×V)} (e:H a=some (.dT kvs)):pW K H (.ref a) (.type "dict")
 |ins {a C dx:Addr} {fs:List (Str×V)} (e:H a=some (.ins C dx fs)) (cl:Cls K C) (ha:PySem.W.findIn K (.ref C) "__class__" =some (some (.builtin "object.__class__")))
   (hn:PySem.W.specialIn K (.builtin "object.__class__") "__get__" =some (some (.builtin "getset_descriptor.__get__"))) (htk:PySem.W.takesIn K (.builtin "object.__class__")=some true)
   (hm:PySem.W.mroIn K C (.type "object")=some true):pW K H (.ref a) (.ref C)
theorem AX{x:V}{u t:ae}(I:Inv X pins σ H s)(rx:RelV x u)(ty:pW X.K H x t)(e:PySem.W.kitOne X.K t c=some b)(h:∀tk,Q (.bool b) {s with toks:=tk}):
  wpAny (aT X.prog X.w) A (call (.builtin "isinstance") [u,c]) Q E s:=by
 cases ty with
 |non=>cases (show u=bA from rx);exact PySem.W.kia_one PySem.W.kitx_none I.kIn cF e (λz=>nomatch z) h
 |bl y=>cases (show u=fj y from rx);exact PySem.W.kia_one PySem.W.kitx_bool I.kIn cF e (λz=>nomatch z) h
 |int i=>obtain⟨t,q⟩:=(show∃t,u=ed i t from rx);cases q;exact PySem.W.kia_one PySem.W.kitx_int I.kIn cF e (λz=>nomatch z) h
 |str y=>obtain⟨t,q⟩:=(show∃t,u=jx y t from rx);cases q;exact PySem.W.kia_one PySem.W.kitx_str I.kIn cF e (λz=>nomatch z) h
 |flt y=>obtain⟨t,q⟩:=(show∃t,u=ae.float y t from rx);cases q;exact PySem.W.kia_one PySem.W.kitx_float I.kIn cF e (λz=>nomatch z) h
 | @lst a xs ea=>
  cases (show u=aH a from rx)
  obtain⟨_,_,n,_,h1⟩:=(show ObjOk X.prog X.w H s.heap a (.lst xs)from I.hok a _ ea)
  exact PySem.W.kia_one PySem.W.kitx_list I.kIn ⟨_,h1,rfl⟩ e (λz=>nomatch z) h
 | @frz a ob xs ea=>
  cases (show u=aH a from rx)
  obtain⟨_,_,_,n,_,h1⟩:=(show ObjOk X.prog X.w H s.heap a (.frz ob (.lst xs))from I.hok a _ ea)
  exact PySem.W.kia_one PySem.W.kitx_list I.kIn ⟨_,h1,rfl⟩ e (λz=>nomatch z) h
 | @tup a xs ea=>
  cases (show u=aH a from rx)
  obtain⟨_,_,_,p⟩:=(show ObjOk X.prog X.w H s.heap a (.tup xs)from I.hok a _ ea)
  obtain⟨o,h1,h2,_⟩:=p
  exact PySem.W.kia_one PySem.W.kitx_tuple I.kIn ⟨o,h1,h2⟩ e (λz=>nomatch z) h
 | @dK a kvs ea=>
  cases (show u=aH a from rx)
  obtain⟨_,_,vs,_,p⟩:=(show ObjOk X.prog X.w H s.heap a (.dK kvs)from I.hok a _ ea)
  obtain⟨o,es,ep,h1,h2,_⟩:=p
  exact PySem.W.kia_one PySem.W.kitx_dict I.kIn ⟨o,h1,h2.1⟩ e (λz=>nomatch z) h
 | @dT a kvs ea=>
  cases (show u=aH a from rx)
  obtain⟨_,_,xs,_,o,es,ep,h1,h2,_⟩:=(show ObjOk X.prog X.w H s.heap a (.dT kvs)from I.hok a _ ea)
  exact PySem.W.kia_one PySem.W.kitx_dict I.kIn ⟨o,h1,h2.1⟩ e (λz=>nomatch z) h
 | @ins a C dx fs ea cl ha hn htk hm=>
  cases (show u=aH a from rx)
  obtain⟨mA,O,_⟩:=qt I.hok ea
  obtain⟨od,J,_⟩:=O.look
  exact PySem.W.kia_one (PySem.W.kitx_own (cl.get _) cl.hd ha hn htk hm) I.kIn J e (λz=>nomatch z) h
end
structure Room(k:Nat)(A:Around):Prop where
 hd:A.handled=none
 dp:A.depth+3*k+5<recursionLimit
 un:A.units+16*k+200<im
theorem Room.mono{j k:Nat}{A:Around}(r:Room k A)(h:j<=k):Room j A:=⟨r.hd,by have:=r.dp;ac_nf,by have:=r.un;ac_nf⟩
theorem Room.deeper{k:Nat}{A:Around}(r:Room (k+1) A)(env:Env):Room k (A.deeper env):=
 ⟨r.hd,by have:=r.dp;show A.depth+1+3*k+5<_;ac_nf,by have:=r.un;show A.units+3+16*k+200<_;ac_nf⟩
theorem xZ{A:Around}{C:Addr}{us:List ae}{kw:List (Str×ae)}:(A.under (.builtin "type.__call__" ⟨.ref C::us,kw⟩)).depth=A.depth+1:=by
 first|rfl|simp[Around.under,Code.weight,Code.isCreation,Code.isGuard,Code.isCaller,Code.frames,Code.isFrame,guardIds]
theorem xY{A:Around}{C:Addr}{us:List ae}{kw:List (Str×ae)}:(A.under (.builtin "type.__call__" ⟨.ref C::us,kw⟩)).units=A.units+1:=by
 first|rfl|simp[Around.under,Code.cUnits,Code.frames,Code.isFrame]
theorem Room.make{k:Nat}{A:Around}(r:Room (k+1) A)(C:Addr)(us:List ae)(kw:List (Str×ae)):Room k (A.under (.builtin "type.__call__" ⟨.ref C::us,kw⟩)):=
 ⟨r.hd,by have:=r.dp;rw[xZ];ac_nf,by have:=r.un;rw[xY];ac_nf⟩
theorem Room.depth{k:Nat}{A:Around}(r:Room k A):A.depth<recursionLimit:=by have:=r.dp;ac_nf
noncomputable def Ll:TA:=λ_ H Q=>Q [] H
noncomputable def Lr(ta:TE)(tr:TA):TA:=λσ H Q=>ta σ H λx H1=>tr σ H1 λxs H2=>Q (x::xs) H2
section
variable{X:Cx}{e:Expr}{es:List Expr}{te:TE}{t:TA}{pos:Pos}
theorem Je:PA X [] Ll:=λ_ _ _ _ H Q I h=>p0 ⟨[],H,I,.nil,h⟩
theorem FA(ha:PE X e te)(hr:PA X es t)(hs:aB (e::es) X.env=(false,eval e X.env)::aB es X.env:=by rfl):PA X (e::es) (Lr te t):=by
 intro pos pins s σ H Q I h
 rw[hs]
 show wpAny _ _ (spliced ((false,eval e X.env)::ce pos (aB es X.env))) _ _ s
 refine jI (eR (ha pins s σ H _ I h) λu s1 hPl=> ?_)
 obtain⟨x,H1,I1,r1,q1⟩:=hPl
 exact eR (hr pos pins s1 σ H1 _ I1 q1) λus s2 hPl=>by obtain⟨xs,H2,I2,r2,q2⟩:=hPl;exact⟨x::xs,H2,I2,.cons r1 r2,q2⟩
noncomputable def N0(t:TA):TE:=λσ H Q=>t σ H λxs H1=>xs.length<=aQ/\∀p,H1 p=none->Q (.ref p) (upd H1 p (.tup xs))
noncomputable def N7(t:TA):TE:=λσ H Q=>t σ H λxs H1=>xs.length<=aQ/\∀p,H1 p=none->Q (.ref p) (upd H1 p (.lst xs))
theorem IV{x1}(h:PA X es t):PE X (.Tuple es x1 pos) (N0 t):=by
 intro pins s σ H Q I hq
 refine wpAny_Tuple_spliced (eR (h pos pins s σ H _ I hq) λus s1 ⟨xs,H1,I1,r,z,q⟩=>⟨by rw[<-r.length];exact z,?_⟩)
 have hf:H1 s1.heap.objs.size=none:=I1.hok.fresh (am _)
 refine⟨.ref s1.heap.objs.size,upd H1 s1.heap.objs.size (.tup xs),I1.laid (t':=s1.toks) (λb u e=>aj _ e) (am _) ?_,rfl,q _ hf⟩
 exact⟨z,us,r,⟨_,aJ _ rfl,rfl,_,rfl⟩⟩
theorem Ja(h:PA X es t):PE X (.List es pos) (N7 t):=by
 intro pins s σ H Q I hq
 refine wpAny_List_spliced (eR (h pos pins s σ H _ I hq) λus s1 ⟨xs,H1,I1,r,z,q⟩=>⟨by rw[<-r.length];exact z,?_⟩)
 have hf:H1 s1.heap.objs.size=none:=I1.hok.fresh (am _)
 refine⟨.ref s1.heap.objs.size,upd H1 s1.heap.objs.size (.lst xs),I1.laid (t':=s1.toks) (λb u e=>aj _ e) (am _) ?_,rfl,q _ hf⟩
 exact⟨z,us,0,r,aJ _ rfl⟩
end
noncomputable abbrev Sp:=List V->Hp->VK->XK->Prop
noncomputable abbrev Bi:=List Env->Hp->al->XK->ae->al->Prop
structure Env0(P:aK)(w:aX)(K:PySem.W.Frag)(mg:Str->Option ae)(base:Heap)(A:Around)(outer:List Env)(s:al)(H:Hp):Prop where
 frames:A.frames=some outer
 mod:Mod K mg base
 bs:∀b o,base.get? b=some o->s.heap.get? b=some o/\H b=none
 bsz:base.objs.size<=s.heap.objs.size
 funs:s.heap.FunFrames base outer
 frf:∀b∈xc outer,H b=none
 hok:HOk P w H s.heap
 bare:lm s.gens
noncomputable def CE(outer:List Env)(P:aK)(w:aX)(H:Hp)(s:al)(Q:VK)(u:ae)(s':al):Prop:=
 ∃v H',s'.os=s.os/\lm s'.gens/\Un (xc outer) [] H H' s.heap s'.heap/\HOk P w H' s'.heap/\RelV v u/\Q v H'
noncomputable def CR(CX:Bi)(outer:List Env)(P:aK)(w:aX)(H:Hp)(s:al)(Q:VK)(E:XK)(r:Result)(s':al):Prop:=
 match r with
 | .ok (.ret u)=>CE outer P w H s Q u s'
 | .ok _=>False
 | .error e=>CX outer H s E e s'
structure FnOk(P:aK)(w:aX)(K:PySem.W.Frag)(mg:Str->Option ae)(base:Heap)(CX:Bi)(k:Nat)(f:Addr)(fd:a8)(ps:List Str)(sp:Sp):Prop where
 len:∀vs H Q E,sp vs H Q E->vs.length=ps.length
 run:∀(A:Around) (outer:List Env) (s:al) (H:Hp) (args:Args) (us:List ae) (vs:List V) (Q:VK) (E:XK),Room k A->Env0 P w K mg base A outer s H->BindsTo s fd args (ps.zip us)->Vals vs us->sp vs H Q E->
  codeAny (aT P w) A (.call (.ref f) args) (CR CX outer P w H s Q E) s
theorem FnOk.mono{P:aK}{w:aX}{K:PySem.W.Frag}{mg:Str->Option ae}{base:Heap}{CX:Bi}{j k:Nat}{f:Addr}{fd:a8}{ps:List Str}{sp:Sp}(F:FnOk P w K mg base CX j f fd ps sp)(h:j<=k):
  FnOk P w K mg base CX k f fd ps sp:=⟨F.len,λA outer s H args us vs Q E hr=>F.run A outer s H args us vs Q E (hr.mono h)⟩
theorem Env0.make{P:aK}{w:aX}{K:PySem.W.Frag}{mg:Str->Option ae}{base:Heap}{A:Around}{outer:List Env}{s:al}{H:Hp}(e:Env0 P w K mg base A outer s H)(C:Addr)(us:List ae)(kw:List (Str×ae)):
  Env0 P w K mg base (A.under (.builtin "type.__call__" ⟨.ref C::us,kw⟩)) outer s H:=⟨by first|exact e.frames|(simpa [Around.under,Code.envs,Code.isFrame,pushEnvs]using e.frames),e.mod,e.bs,e.bsz,e.funs,e.frf,e.hok,e.bare⟩
section
variable{X:Cx}{pins:List (Addr×Obj)}{σ:St}{H:Hp}{s s':al}
theorem Inv.env0(I:Inv X pins σ H s):Env0 X.prog X.w X.K X.mg X.base X.A X.stack s H:=
 ⟨I.ok.frames,I.ok.mod,I.bs,aP I.ok.bsz I.sz,I.stack,I.stkFree,I.hok,I.bare⟩
theorem Inv.after{Q:VK}{u:ae}(I:Inv X pins σ H s)(h:CE X.stack X.prog X.w H s Q u s'):EP X pins σ Q u s':=by
 obtain⟨v,H',os,bare,un,hok,r,q⟩:=h
 obtain⟨hh,g,d,t,os'⟩:=s'
 obtain rfl:os'=s.os:=os
 exact⟨v,H',I.call (h':=hh) (g':=g) (d':=d) (t':=t) (ch:=[]) un hok bare (λb z=>absurd z (by simp)),r,q⟩
end
noncomputable def Ht(sp:Sp)(dvs:List V)(E:XK)(t:TA):TE:=λσ H Q=>t σ H λvs H1=>sp (vs++dvs) H1 Q E
noncomputable def Hs(C:Addr)(m:Str)(sp:Sp)(dvs:List V)(E:XK)(ta:TE)(t:TA):TE:=λσ H Q=>ta σ H λx H1=>∃a dx fs,x= .ref a/\H1 a=some (.ins C dx fs)/\fs.lookup m=none/\
 t σ H1 λvs H2=>sp (x::(vs++dvs)) H2 Q E
noncomputable def Lm(C:Addr)(sp:Sp)(dvs:List V)(E:XK)(t:TA):TE:=λσ H Q=>t σ H λvs H1=>∀x dx,H1 x=none->H1 dx=none->dx≠x->
 sp (.ref x::(vs++dvs)) (upd (upd H1 dx (.own x)) x (.ins C dx [])) (λv H2=>v= .non/\Q (.ref x) H2) E
noncomputable def Binds(K:PySem.W.Frag)(fd:a8)(ps:List Str)(ds:List ae):Prop:=
 ∀(s:al) (us:List ae),K.In s.heap->(us++ds).length=ps.length->BindsTo s fd ⟨us,[]⟩ (ps.zip (us++ds))
theorem Binds.all{K:PySem.W.Frag}{fd:a8}{ps:List Str}(h:∀us:List ae,us.length=ps.length->bindArgs fd ⟨us,[]⟩=pure (ps.zip us)):Binds K fd ps []:=λs us _ hl=>by
 rw[cr]at hl⊢
 exact .of_eq (h us hl)
noncomputable def mw(CX:Bi)(X:Cx)(E:XK):Prop:=∀(pins:List (Addr×Obj)) (σ:St) (H:Hp) (s:al) (e:ae) (s':al),Inv X pins σ H s->CX X.stack H s E e s'->X.xe e s'
section
variable{X:Cx}{CX:Bi}{k:Nat}{f C:Addr}{fd:a8}{ps:List Str}{sp:Sp}{dvs:List V}{ds:List ae}{E:XK}{x m:Str}{p pos apos:Pos}{e o:Expr}{es:List Expr}{ta:TE}{t:TA}
theorem xH{pins:List (Addr×Obj)}{σ:St}{H:Hp}{s:al}{Q:VK}{us:List ae}{vs:List V}(F:FnOk X.prog X.w X.K X.mg X.base CX k f fd ps sp)(hr:Room k X.A)(hb:Binds X.K fd ps ds)(hd:Vals dvs ds)(hx:mw CX X E)
  (I:Inv X pins σ H s) (r:Vals vs us) (h:sp (vs++dvs) H Q E):wpAny (aT X.prog X.w) X.A (call (.ref f) us) (EP X pins σ Q) X.xe s:=by
 have r2:Vals (vs++dvs) (us++ds):=r.append hd
 have hl:(us++ds).length=ps.length:=by rw[<-r2.length];exact F.len _ _ _ _ h
 refine wpAny_call (codeAny_mono (F.run X.A X.stack s H ⟨us,[]⟩ (us++ds) (vs++dvs) Q E hr I.env0 (hb s us I.kIn hl) r2 h) λr s' hq=> ?_)
 cases r with
 |error e=>exact hx pins σ H s e s' I hq
 |ok fl=>
  cases fl with
  |ret u=>exact I.after hq
  |next=>exact bZ hq
  |brk=>exact bZ hq
  |cont=>exact bZ hq
theorem Fy(F:FnOk X.prog X.w X.K X.mg X.base CX k f fd ps sp)(hr:Room k X.A)(hg:Gl X x)(hm:X.mg x=some (.ref f))(hk:PySem.W.keepIn X.K (.ref f)=true)(hb:Binds X.K fd ps ds)(hd:Vals dvs ds)(hx:mw CX X E)
  (ha:PA X (e::es) t) (hdb:(x==("__debug__" :Str))=false:=by decide) (he:aB (e::es) X.env=(false,eval e X.env)::aB es X.env:=by rfl) (hpl:(ce pos (aB es X.env)).any (·.1)=false:=by rfl):
  PE X (.Call (.Name x p) (e::es) [] pos) (Ht sp dvs E t):=by
 intro pins s σ H Q I h
 refine iC (uJ I hg hm ?_ hdb)
 refine PySem.W.callWith_K (h₀:=X.base) I.ok.mod.kin hk (eR (ha pos pins s σ H _ I h) λus s1 ⟨vs,H1,I1,r,q⟩=>⟨I1.kIn,?_⟩) he hpl
 exact xH F hr hb hd hx I1 r q
theorem Fp{pl:Sem Bool}(he:PE X o ta)(c:Cls X.K C)(hm:jo X.K C m f)(F:FnOk X.prog X.w X.K X.mg X.base CX k f fd ps sp)(hr:Room k X.A)(hb:Binds X.K fd ps ds)(hd:Vals dvs ds)(hx:mw CX X E)(ha:PA X (e::es) t)
  (hst:aB (e::es) X.env=(false,eval e X.env)::aB es X.env:=by rfl) (hpl:(ce pos (aB es X.env)).any (·.1)=false:=by rfl)
  (ht:eval (.Call (.Attribute o m apos) (e::es) [] pos) X.env=(do
   let ov <-eval o X.env
   standAt apos.atName
   let(f,first) <-holding [ov] (getMethod ov m pl)
   callWith pos f first (ce pos (aB (e::es) X.env)) (io pos (eK [] X.env))):=by rfl):
  PE X (.Call (.Attribute o m apos) (e::es) [] pos) (Hs C m sp dvs E ta t):=by
 intro pins s σ H Q I h
 refine PySem.W.methodCall_KW (pl:=pl) (eR (he pins s σ H _ I h) λu s1 hPl=> ?_) ht
 obtain⟨x,H1,I1,rx,a,dx,fs,ex,ea,l,q⟩:=hPl
 subst ex
 obtain rfl:u=aH a:=rx
 refine rG I1 ea c hm l ?_
 refine PySem.W.callWith_K (first:=[.ref a]) (h₀:=X.base) I.ok.mod.kin hm.kp (eR (ha pos pins s1 σ H1 _ I1 q) λus s2 ⟨vs,H2,I2,r,q2⟩=>⟨I2.kIn,?_⟩) hst hpl
 exact xH (us:= .ref a::us) (vs:= .ref a::vs) F hr hb hd hx I2 (.cons rfl r) q2
theorem CJ{pl:Sem Bool}(he:PE X o ta)(c:Cls X.K C)(hm:jo X.K C m f)(F:FnOk X.prog X.w X.K X.mg X.base CX k f fd ps sp)(hr:Room k X.A)(hb:Binds X.K fd ps ds)(hd:Vals dvs ds)(hx:mw CX X E)
  (ht:eval (.Call (.Attribute o m apos) [] [] pos) X.env=(do
   let ov <-eval o X.env
   standAt apos.atName
   let(f,first) <-holding [ov] (getMethod ov m pl)
   callWith pos f first (ce pos (aB [] X.env)) (io pos (eK [] X.env))):=by rfl):
  PE X (.Call (.Attribute o m apos) [] [] pos) (Hs C m sp dvs E ta Ll):=by
 intro pins s σ H Q I h
 refine PySem.W.methodCall_KW (pl:=pl) (eR (he pins s σ H _ I h) λu s1 hPl=> ?_) ht
 obtain⟨x,H1,I1,rx,a,dx,fs,ex,ea,l,q⟩:=hPl
 subst ex
 obtain rfl:u=aH a:=rx
 refine rG I1 ea c hm l ?_
 exact PySem.W.callWith_K0 (first:=[.ref a]) I1.kIn hm.kp (xH (us:=[.ref a]) (vs:=[.ref a]) F hr hb hd hx I1 (.cons rfl .nil) q)
structure Mk(K:PySem.W.Frag)(C f:Addr):Prop where
 makes:PySem.W.makesIn K C=true
 init:PySem.W.findIn K (.ref C) "__init__" =some (some (.ref f))
 fn:PySem.W.isFn K (.ref f)=true
 kp:PySem.W.keepIn K (.ref C)=true
theorem Co{pins:List (Addr×Obj)}{σ:St}{H:Hp}{s:al}{Q:VK}{us:List ae}{vs:List V}(M:Mk X.K C f)(F:FnOk X.prog X.w X.K X.mg X.base CX k f fd ps sp)(hr:Room (k+1) X.A)(hb:Binds X.K fd ps ds)(hd:Vals dvs ds)
  (hx:mw CX X E) (I:Inv X pins σ H s) (r:Vals vs us)
  (h:∀x dx,H x=none->H dx=none->dx≠x->sp (.ref x::(vs++dvs)) (upd (upd H dx (.own x)) x (.ins C dx [])) (λv H2=>v= .non/\Q (.ref x) H2) E):
  wpAny (aT X.prog X.w) X.A (call (.ref C) us) (EP X pins σ Q) X.xe s:=by
 have hq:=h (s.heap.objs.size+1) s.heap.objs.size (I.hok.fresh (gB _)) (I.hok.fresh (am _)) (aS (fL _))
 have I2:=Inv.made (C:=C) I
 have r2:Vals (V.ref (s.heap.objs.size+1)::(vs++dvs)) (aH (s.heap.objs.size+1)::(us++ds)):= .cons rfl (r.append hd)
 have hl:(aH (s.heap.objs.size+1)::us++ds).length=ps.length:=by
  have e:=r2.length
  rw[F.len _ _ _ _ hq]at e
  exact e.symm
 refine wpAny_call (Du (f:=f) I.kIn M.makes M.init (beq_iff_eq.mp M.fn) (codeAny_mono (F.run _ X.stack _ _ ⟨aH (s.heap.objs.size+1)::us,[]⟩ (aH (s.heap.objs.size+1)::(us++ds)) _ _ E (hr.make C us [])
  (I2.env0.make C us []) (hb _ (aH (s.heap.objs.size+1)::us) I2.kIn hl) r2 hq) λr s' hq'=> ?_))
 cases r with
 |error e=>exact hx pins σ _ _ e s' I2 hq'
 |ok fl=>
  cases fl with
  |ret u=>
   obtain⟨v,H',I3,rv,ev,q3⟩:=I2.after hq'
   subst ev
   exact⟨rv,⟨V.ref (s.heap.objs.size+1),H',I3,rfl,q3⟩⟩
  |next=>exact bZ hq'
  |brk=>exact bZ hq'
  |cont=>exact bZ hq'
theorem Fq(M:Mk X.K C f)(F:FnOk X.prog X.w X.K X.mg X.base CX k f fd ps sp)(hr:Room (k+1) X.A)(hg:Gl X x)(hm:X.mg x=some (.ref C))(hb:Binds X.K fd ps ds)(hd:Vals dvs ds)(hx:mw CX X E)
  (ha:PA X (e::es) t) (hdb:(x==("__debug__" :Str))=false:=by decide) (he:aB (e::es) X.env=(false,eval e X.env)::aB es X.env:=by rfl) (hpl:(ce pos (aB es X.env)).any (·.1)=false:=by rfl):
  PE X (.Call (.Name x p) (e::es) [] pos) (Lm C sp dvs E t):=by
 intro pins s σ H Q I h
 refine iC (uJ I hg hm ?_ hdb)
 refine PySem.W.callWith_K (h₀:=X.base) I.ok.mod.kin M.kp (eR (ha pos pins s σ H _ I h) λus s1 ⟨vs,H1,I1,r,q⟩=>⟨I1.kIn,?_⟩) he hpl
 exact Co M F hr hb hd hx I1 r q
end
section
end
structure bv(N P:List Str)(sc:eL):Prop where
 kind:sc.kind= .function
 co:sc.isCoroutine=false
 gen:sc.isGenerator=false
 nd:N.Nodup
 pre:N.take P.length=P
 par:∀x∈P,sc.names.lookup x=some .local\/sc.names.lookup x=some .cell
 nofree:∀y∈sc.names,y.2≠ .free
theorem tO{kindOf:Str->Option eA}{x:Str}:∀{binds:List (Str×ae)} {m:Str->Option ae},(∀v,(x,v)∉binds)->bindL kindOf binds m x=m x
 |[],_,_=>rfl
 |(n,v)::r,m,h=>by
  unfold bindL
  rw[tO λw hw=>h w (cX _ hw)]
  split
  ·have:x≠n:=by rintro rfl;exact h v hZ
   simp[this]
  ·rfl
theorem tQ{kindOf:Str->Option eA}{x:Str}:∀{binds:List (Str×ae)} {m:Str->Option ae},(∀v,(x,v)∉binds)->bindC kindOf binds m x=m x
 |[],_,_=>rfl
 |(n,v)::r,m,h=>by
  unfold bindC
  rw[tQ λw hw=>h w (cX _ hw)]
  split
  ·rfl
  ·have:x≠n:=by rintro rfl;exact h v hZ
   simp[this]
theorem tP{kindOf:Str->Option eA}{x:Str}{v:ae}:∀{P:List Str} {vs:List ae} {i:Nat} {m:Str->Option ae},P.Nodup->P[i]? =some x->vs[i]? =some v->kindOf x=some .local->
  bindL kindOf (P.zip vs) m x=some v
 |[],_,_,_,_,h,_,_=>by simp at h
 |_::_,[],_,_,_,_,h,_=>by simp at h
 |p::P,w::vs,0,m,nd,h1,h2,hk=>by
  simp at h1 h2;subst h1;subst h2
  show bindL kindOf ((p,w)::P.zip vs) m p=_
  unfold bindL
  rw[tO λv hv=>(bi.mp nd).1 (List.of_mem_zip hv).1,if_pos hk]
  simp
 |p::P,w::vs,i+1,m,nd,h1,h2,hk=>by
  show bindL kindOf ((p,w)::P.zip vs) m x=_
  unfold bindL
  exact tP (i:=i) (bi.mp nd).2 (by simpa using h1) (by simpa using h2) hk
theorem tR{kindOf:Str->Option eA}{x:Str}{v:ae}:∀{P:List Str} {vs:List ae} {i:Nat} {m:Str->Option ae},P.Nodup->P[i]? =some x->vs[i]? =some v->kindOf x≠some .local->
  bindC kindOf (P.zip vs) m x=some v
 |[],_,_,_,_,h,_,_=>by simp at h
 |_::_,[],_,_,_,_,h,_=>by simp at h
 |p::P,w::vs,0,m,nd,h1,h2,hk=>by
  simp at h1 h2;subst h1;subst h2
  show bindC kindOf ((p,w)::P.zip vs) m p=_
  unfold bindC
  rw[tQ λv hv=>(bi.mp nd).1 (List.of_mem_zip hv).1,if_neg hk]
  simp
 |p::P,w::vs,i+1,m,nd,h1,h2,hk=>by
  show bindC kindOf ((p,w)::P.zip vs) m x=_
  unfold bindC
  exact tR (i:=i) (bi.mp nd).2 (by simpa using h1) (by simpa using h2) hk
noncomputable def start(N:List Str)(vs:List V):St:=vs.map some++bJ (N.length-vs.length) none
noncomputable def wO(CX:Bi)(P:aK)(w:aX)(K:PySem.W.Frag)(mg:Str->Option ae)(base:Heap)(N:List Str)(qual:Str)(scope:eL)(f:Addr)(cd:ae)(A:Around)(outer:List Env)(s:al)(H:Hp)(E:XK):Cx where
 prog:=P
 w:=w
 K:=K
 mg:=mg
 base:=base
 A:=A.deeper (envOfC qual scope s.heap.objs.size f cd)
 N:=N
 s₀:=s
 H₀:=H
 env:=envOfC qual scope s.heap.objs.size f cd
 outer:=outer
 stack:=envOfC qual scope s.heap.objs.size f cd::outer
 ex:=[]
 calm:=true
 fn:=λ_=>true
 pn:=[]
 xe:=λe s'=>wpAny (aT P w) (A.deeper (envOfC qual scope s.heap.objs.size f cd)) (leaving (envOfC qual scope s.heap.objs.size f cd) e) (λ_ s''=>CX outer H s E e s'') (λe' s''=>CX outer H s E e' s'') s'
theorem wS{sc:eL}{n:Nat}{x:Str}(h:sc.names.lookup x=some .cell):∃c,(cellsFrom n sc.names []).lookup x=some c:=by
 have q:=PySem.W.cellsFrom_some sc.names n [] (.inl h)
 exact jZ.mp q
theorem AY{CX:Bi}{P:aK}{w:aX}{K:PySem.W.Frag}{mg:Str->Option ae}{base:Heap}{N ps:List Str}{qual:Str}{scope:eL}{f:Addr}{cd:ae}{A:Around}{outer:List Env}{s s1:al}{H:Hp}{E:XK}{us:List ae}{vs:List V}
  (S:bv N ps scope) (hd:A.handled=none) (e0:Env0 P w K mg base A outer s H) (hl:vs.length=ps.length) (r:Vals vs us)
  (x:InCallC s s.heap.objs.size (bindL (envOfC qual scope s.heap.objs.size f cd).kindOf (ps.zip us) λ_=>none) (cellsFrom (s.heap.objs.size+1) scope.names []) (bindC (envOfC qual scope s.heap.objs.size f cd).kindOf (ps.zip us) λ_=>none) s1):
  Inv (wO CX P w K mg base N qual scope f cd A outer s H E) [] (start N vs) H s1:=by
 have hpl:ps.length<=N.length:=by have:=congrArg ib S.pre;rw[bo]at this;ac_nf
 obtain⟨h1,tk,rfl,hk⟩:=x.done
 have noA:∀b:Addr,b∉(wO CX P w K mg base N qual scope f cd A outer s H E).ex:=λb z=>absurd (show b∈([]:List Addr)from z) (by simp)
 refine⟨⟨e0.mod,S.kind,rfl,rfl,am _,λy z c h1 h2=> ?_,λy hy=> ?_,λy c _ h=> ?_,λ_=>hd,Around.frames_deeper e0.frames,.inr ⟨rfl,rfl⟩,λb z=>absurd z (noA b),e0.bs,e0.bsz,λb _ _=>noA b,λb z=>absurd z (noA b),e0.funs,e0.frf⟩,
  rfl,e0.bare,Un.kept hk,⟨_,x.toInCall.ns,λi y v h1 h2 h3=> ?_⟩,λy c h=>⟨_,x.cell y c h⟩,e0.hok.fresh (am _),λy c h=> ?_,λp hp=>absurd (show p∈([]:List (Addr×Obj))from hp) (by simp),e0.hok.kept hk,?_⟩
 ·exact name_of_addr x.apart (PySem.mem_of_lookup h1) (PySem.mem_of_lookup h2)
 ·have hy:scope.names.lookup y=some .cell\/scope.names.lookup y=some .free:=hy
  rcases hy with hy|hy
  ·exact wS hy
  ·exact absurd rfl (S.nofree _ (PySem.mem_of_lookup hy))
 ·exact iN (x.above y c (PySem.mem_of_lookup h))
 ·have hi:i<vs.length:=by
   unfold start at h2
   by_cases hi:i<vs.length
   ·exact hi
   ·rw[bO (by simpa using hi)]at h2
    rw[kA]at h2
    split at h2<;>cases h2
  have ha:vs[i]? =some v:=by
   unfold start at h2
   rw[bT (by simpa using hi),aC]at h2
   cases e:vs[i]? with
   |none=>rw[e]at h2;cases h2
   |some a=>rw[e]at h2;cases h2;rfl
  obtain⟨u,hu,rv⟩:=r.get ha
  have hp:ps[i]? =some y:=by
   rw[<-S.pre,List.getElem?_take_of_lt (by ac_nf)];exact h1
  have ndP:ps.Nodup:=by rw[<-S.pre];exact S.nd.sublist (List.take_sublist _ _)
  refine⟨u,rv,?_⟩
  rcases S.par y (ax hp)with k|k
  ·exact .inl ⟨k,tP ndP hp hu k⟩
  ·obtain⟨c,e⟩:=wS (n:=s.heap.objs.size+1) k
   refine .inr ⟨.inl k,c,e,?_⟩
   have q:=x.cell y c e
   rw[tR ndP hp hu (by show scope.names.lookup y≠_;rw[k];decide)]at q
   exact q
 ·exact e0.hok.fresh (iN (x.above y c (PySem.mem_of_lookup h)))
 ·unfold start
  show _=N.length
  rw[aL,ai,List.length_replicate]
  ac_nf
theorem Nd{CX:Bi}{P:aK}{w:aX}{K:PySem.W.Frag}{mg:Str->Option ae}{base:Heap}{k:Nat}{f:Addr}{name qual:Str}{params:Arguments}{body:List Stmt}{scope:eL}{dV kV doc pm cdv ct oc:ae}{an od:Option Addr}
  {osl:Array (Option ae)} {N ps:List Str} {sp:Sp} (lk:K.lookup f=some ⟨oc,od,.func (PySem.W.fnOf name qual params body scope dV kV doc pm an cdv ct),osl⟩) (hcd:PySem.W.codeIn K cdv qual=true) (S:bv N ps scope)
  (len:∀vs H Q E,sp vs H Q E->vs.length=ps.length)
  (hbody:∀(A:Around) (outer:List Env) (s:al) (H:Hp) (vs:List V) (Q:VK) (E:XK),Room k (A.deeper (envOfC qual scope s.heap.objs.size f cdv))->sp vs H Q E->
   ∃t,PSs (wO CX P w K mg base N qual scope f cdv A outer s H E) body t/\t {nx:=λ_ H'=>Q .non H',rt:=Q} (start N vs) H):
  FnOk P w K mg base CX (k+1) f (PySem.W.fnOf name qual params body scope dV kV doc pm an cdv ct) ps sp:=by
 refine⟨len,λA outer s H args us vs Q E hr e0 hb r hsp=> ?_⟩
 have hl:=len _ _ _ _ hsp
 have KX:K.In s.heap:=e0.mod.kin.keeps λb o e=>(e0.bs b o e).1
 have lim:s.heap.NoLimit:=e0.mod.nolimit.keeps λb o e=>(e0.bs b o e).1
 have hkind:∀y∈ps.zip us,scope.names.lookup y.1=some .local\/(scope.names.lookup y.1=some .cell/\((cellsFrom (s.heap.objs.size+1) scope.names []).lookup y.1).isSome=true):=λ⟨n,v⟩ hy=>by
  rcases S.par n (List.of_mem_zip hy).1 with q|q
  ·exact .inl q
  ·exact .inr ⟨q,PySem.W.cellsFrom_some _ _ _ (.inl q)⟩
 refine codeAny_call_function hr.depth (KX _ _ lk) rfl S.co S.gen rfl (PySem.W.codeRec_of KX hcd) (hb _ _ _ _ ?_)
 refine wpAny_newFunctionEnv_cells S.kind hkind λenv he s1 x=> ?_
 subst he
 refine⟨lim.keeps x.toInCall.keep,codeAny_func ?_⟩
 obtain⟨t,ht,hq⟩:=hbody A outer s H vs Q E (hr.deeper _) hsp
 have I:Inv (wO CX P w K mg base N qual scope f cdv A outer s H E) [] (start N vs) H s1:=AY S hr.hd e0 hl r x
 refine bu (ht [] s1 (start N vs) H _ I hq) (λfl s' hs=> ?_) λe s' hs=>hs
 have fin:∀{σ':St} {H':Hp} {v:V} {u:ae},Inv (wO CX P w K mg base N qual scope f cdv A outer s H E) [] σ' H' s'->RelV v u->Q v H'->CE outer P w H s Q u s':=
  fun{σ' H' v u} J rv q=>⟨v,H',J.os,J.bare,J.base,J.hok,rv,q⟩
 cases fl with
 |ret u=>
  obtain⟨v,σ',H',J,rv,q⟩:=hs
  exact fin J rv q
 |next=>
  obtain⟨σ',H',J,q⟩:=hs
  exact fin (v:=V.non) (u:=bA) J rfl q
 |brk=>
  obtain⟨_,_,_,q⟩:=hs
  exact bZ q
 |cont=>
  obtain⟨_,_,_,q⟩:=hs
  exact bZ q
section
variable{X:Cx}{x:Str}{p pos:Pos}{e:Expr}{es:List Expr}{t:TA}{id T:String}{r:List V->Hp->VK->Prop}
noncomputable def Ob(r:List V->Hp->VK->Prop)(t:TA):TE:=λσ H Q=>t σ H λvs H1=>r vs H1 Q
theorem CZ(hc:hV X (.builtin id) r)(hg:Gl X x)(hm:X.mg x=none)(hv:cu x=some (.builtin id))(ha:PA X (e::es) t)(hn:x≠ "__name__" :=by decide)(hdb:(x==("__debug__" :Str))=false:=by decide)
  (he:aB (e::es) X.env=(false,eval e X.env)::aB es X.env:=by rfl) (hpl:(ce pos (aB es X.env)).any (·.1)=false:=by rfl):PE X (.Call (.Name x p) (e::es) [] pos) (Ob r t):=by
 intro pins s σ H Q I h
 refine iC (oW I hg hm hv ?_ hn hdb)
 exact PyProof.Rows.callWith_builtin1 (eR (ha pos pins s σ H _ I h) λus s1 ⟨vs,H1,I1,r1,q1⟩=>hc pins s1 σ H1 vs us Q I1 r1 q1) he hpl
theorem Au(hc:hV X (.type T) r)(hg:Gl X x)(hm:X.mg x=none)(hv:cu x=some (.type T))(ha:PA X (e::es) t)(hn:x≠ "__name__" :=by decide)(hdb:(x==("__debug__" :Str))=false:=by decide)
  (he:aB (e::es) X.env=(false,eval e X.env)::aB es X.env:=by rfl) (hpl:(ce pos (aB es X.env)).any (·.1)=false:=by rfl):PE X (.Call (.Name x p) (e::es) [] pos) (Ob r t):=by
 intro pins s σ H Q I h
 refine iC (oW I hg hm hv ?_ hn hdb)
 exact fK (eR (ha pos pins s σ H _ I h) λus s1 ⟨vs,H1,I1,r1,q1⟩=>hc pins s1 σ H1 vs us Q I1 r1 q1) he hpl
end
end L2
namespace HT
open PySem PyProof.Rows
section
open PySem.SeqAt
open PySem.AutoSeq1 (wpAny_loadPart')
open PySem.MeetsSeq PySem.MeetsSeq2 PySem.MeetsSeq3
end
section
variable{prog:aK}{w:aX}{A:Around}{E:ae->al->Prop}{s:al}
theorem cat_tup{t b:Addr}{vs ws:List ae}{Q:ae->al->Prop}(ht:IsTup s.heap t vs.toArray)(hb:IsTup s.heap b ws.toArray)(hv:vs≠[])
  (h1:ws=[]->Q (.ref t) s) (h2:ws≠[]->Q (.ref s.heap.objs.size) {s with heap:=s.heap.push {cls:= .type "tuple",data:= .seq (vs++ws).toArray}})
  (hsz:vs.length+ws.length<=aQ):wpAny (aT prog w) A (dO .Add (.ref t) (.ref b)) Q E s:=by
 obtain⟨⟨cls,dd,data,sl⟩,ho,hc,n,hd⟩:=id ht
 obtain⟨⟨cls2,dd2,data2,Bf⟩,ho2,hc2,n2,hd2⟩:=id hb
 simp only at hc hd hc2 hd2
 subst hc hd hc2 hd2
 have e:vs.toArray++ws.toArray=(vs++ws).toArray:=by simp
 by_cases hw:ws=[]
 ·exact concat_meets ⟨_,ho,rfl⟩ ⟨_,ho2,rfl⟩ noFill_tuple_add seq_tuple_add PySem.F.slot_tuple_add PySem.F.entry_tuple_add (PySem.F.args_tuple_add_2 _ _)
   (tuple_addW1 t b vs.toArray ws.toArray n n2 dd dd2 sl Bf (by simpa using hv) (by simp[hw])) ⟨ho,ho2,h1 hw⟩
 ·refine concat_meets ⟨_,ho,rfl⟩ ⟨_,ho2,rfl⟩ noFill_tuple_add seq_tuple_add PySem.F.slot_tuple_add PySem.F.entry_tuple_add (PySem.F.args_tuple_add_2 _ _)
   (tuple_addW2 t b vs.toArray ws.toArray n n2 dd dd2 sl Bf (by simpa using hv) (by simpa using hw) (by rw[aA,aA];exact hsz)) ⟨ho,ho2,?_⟩
  rw[e]
  exact h2 hw
noncomputable def sIx(n d:Nat):Option Int->Nat
 |none=>d
 |some v=>if v<0 then(v+(n:Int)).toNat else min v.toNat n
theorem sIx_none(n d:Nat):sIx n d none=d:=rfl
theorem sIx_nat(n d k:Nat):sIx n d (some (k:Int))=min k n:=by
 show(if(k:Int)<0 then((k:Int)+(n:Int)).toNat else min (k:Int).toNat n)=min k n
 rw[if_neg (by ac_nf),kq]
theorem IB(n d:Nat)(hd:d<=n)(o:Option Int):sIx n d o<=n:=by
 cases o with
 |none=>exact hd
 |some v=>
  show(if v<0 then(v+(n:Int)).toNat else min v.toNat n)<=n
  by_cases hv:v<0
  ·rw[if_pos hv];ac_nf
  ·rw[if_neg hv];exact Nat.min_le_right _ _
theorem zT(v:Int)(n d:Nat):(if v<0 then max (v+(n:Int)) 0 else min v (n:Int))=((sIx n d (some v):Nat):Int):=by
 show(if v<0 then max (v+(n:Int)) 0 else min v (n:Int))=(((if v<0 then(v+(n:Int)).toNat else min v.toNat n):Nat):Int)
 by_cases hv:v<0
 ·simp only[if_pos hv];ac_nf
 ·simp only[if_neg hv];ac_nf
theorem yu(lo hi:Option Int)(n:Nat):dX lo hi 1 (n:Int)=(((sIx n 0 lo:Nat):Int),((sIx n n hi:Nat):Int)):=by
 have h1:¬((1:Int)<0):=by ac_nf
 unfold dX
 simp only[h1,if_false]
 refine Prod.ext ?_ ?_
 ·cases lo with
  |none=>rfl
  |some v=>exact zT v n 0
 ·cases hi with
  |none=>rfl
  |some v=>exact zT v n n
theorem xK(i j:Nat):bX (i:Int) (j:Int) 1=j-i:=by
 unfold bX
 have h1:(1:Int)>0:=by ac_nf
 simp only[h1,if_true,Int.ediv_one]
 split<;>ac_nf
theorem i7{v:ae}{o:Option Int}{Q:Option Int->al->Prop}(p:IsPart v o)(h:Q o s):wpAny (aT prog w) A (cw.Slice.slicePartIndex v) Q E s:=by
 cases p with
 |none=>exact slicePart_none h
 |int i t=>exact slicePart_int h
theorem sliceApplied_gen{sl:Addr}{vl vu:ae}{lo hi:Option Int}{n:Nat}{Q:Int×Int×Nat->al->Prop}(hs:s.heap.IsSliceOf sl vl vu .none)(pl:IsPart vl lo)(pu:IsPart vu hi)
  (h:Q (((sIx n 0 lo:Nat):Int),1,sIx n n hi-sIx n 0 lo) s):wpAny (aT prog w) A (fS (.ref sl) (pure (n:Int))) Q E s:=by
 obtain⟨os,hos,hcs,hds⟩:=id hs
 unfold fS pJ
 refine aa (aa (bS hos hds (x:=vl) rfl (aa (bS hos hds (x:=vu) rfl (aa (bS hos hds (x:= .none) rfl (ao ?_)))))))
 refine aa (slicePart_none ?_)
 show wpAny _ _ (if((1:Int)==0)=true then _ else _) _ _ s
 rw[if_neg (by decide)]
 refine aa (i7 pl (aa (i7 pu (aa (ao ?_)))))
 show wpAny _ _ (match dX lo hi 1 (n:Int)with|(lo,hi)=>pure (lo,(1:Int),bX lo hi 1)) _ _ s
 rw[yu lo hi n]
 show wpAny _ _ (pure (((sIx n 0 lo:Nat):Int),(1:Int),bX ((sIx n 0 lo:Nat):Int) ((sIx n n hi:Nat):Int) 1)) _ _ s
 rw[xK]
 exact ao h
theorem CF(xs:Array ae)(i k:Nat):((bE k).filterMap fun(m:Nat)=>xs[((i:Int)+(m:Int)*1).toNat]?).toArray=((xs.toList.drop i).take k).toArray:=by
 have e:(fun(m:Nat)=>xs[((i:Int)+(m:Int)*1).toNat]?)=λm=>xs[i+m]? :=by
  funext m
  have:((i:Int)+(m:Int)*1).toNat=i+m:=by ac_nf
  rw[this]
 rw[e]
 have:=pick_run xs i k
 rw[List.filterMap_map]at this
 have e2:((λx=>xs[x]?)∘λx=>i+x)=λm=>xs[i+m]? :=rfl
 rw[e2]at this
 rw[this]
theorem getItem_tuple_cut{t sl:Addr}{items:Array ae}{vl vu:ae}{lo hi:Option Int}{Q:ae->al->Prop}(ht:IsTup s.heap t items)(hs:s.heap.IsSliceOf sl vl vu .none)(pl:IsPart vl lo)(pu:IsPart vu hi)
  (hw:¬(sIx items.size 0 lo=0/\sIx items.size items.size hi=items.size))
  (h:Q (.ref s.heap.objs.size) {s with heap:=s.heap.push {cls:= .type "tuple",data:= .seq ((items.toList.drop (sIx items.size 0 lo)).take (sIx items.size items.size hi-sIx items.size 0 lo)).toArray}})
  (hsz:items.size<=aQ):wpAny (aT prog w) A (iS (.ref t) (.ref sl)) Q E s:=by
 have htake:sizeOk (.seq ((items.toList.drop (sIx items.size 0 lo)).take (sIx items.size items.size hi-sIx items.size 0 lo)).toArray):=by
  show((items.toList.drop (sIx items.size 0 lo)).take (sIx items.size items.size hi-sIx items.size 0 lo)).toArray.size<=aQ
  rw[aA,bo,List.length_drop,br]
  ac_nf
 have hj:sIx items.size items.size hi<=items.size:=IB _ _ (am _) hi
 obtain⟨os,hos,hcs,hds⟩:=id hs
 have hTs:s.TypeIs (.ref sl) "slice" :=⟨os,hos,hcs⟩
 unfold iS
 try with_reducible refine cJ ?_
 first|refine aa (ao ?_)|skip
 refine aa (ud ht.typeIs (by decide) ?_)
 refine aa (cH (name:=aD "__getitem__") ht.typeIs bw
  (cZ bw ht.typeIs rL ?_ (su _ _)))
 show wpAny _ _ (iP (.ref t)>>=_) _ _ s
 refine aa (tupleItemsOf_ ht ?_)
 refine aa (gX hTs ?_)
 rw[if_pos (by decide)]
 refine aa (sliceApplied_gen hs pl pu ?_)
 have hno:¬((((sIx items.size 0 lo:Nat):Int)==0&&(1:Int)==1&&(sIx items.size items.size hi-sIx items.size 0 lo)==items.size)=true):=by
  intro q
  rw[bC,bC]at q
  have q1:((sIx items.size 0 lo:Nat):Int)=0:=eq_of_beq q.1.1
  have q2:sIx items.size items.size hi-sIx items.size 0 lo=items.size:=eq_of_beq q.2
  exact hw ⟨by ac_nf,by ac_nf⟩
 show wpAny _ _ (if(((sIx items.size 0 lo:Nat):Int)==0&&(1:Int)==1&&(sIx items.size items.size hi-sIx items.size 0 lo)==items.size)=true then _ else _) _ _ s
 rw[if_neg hno,CF]
 first
  |exact aa (m:=cg _) (bG (ao ⟨_,rfl,ao h⟩) htake)
  |exact aa (m:=cg _) (bG (aa (ao (ao ⟨_,rfl,ao h⟩))) htake)
  |exact aa (aa (m:=cg _) (bG (ao (ao ⟨_,rfl,ao h⟩)) htake))
  |exact aa (aa (m:=cg _) (bG (ao ⟨_,rfl,ao h⟩) htake))
end
end HT
namespace L2
open PySem PySem.Spec PyProof.Rows
noncomputable abbrev TO:=St->Hp->(Option Int->Hp->Prop)->Prop
noncomputable def PO(X:Cx)(e:Option Expr)(t:TO):Prop:=
 ∀(pins:List (Addr×Obj)) (s:al) (σ:St) (H:Hp) (Q:Option Int->Hp->Prop),Inv X pins σ H s->t σ H Q->
  wpAny (aT X.prog X.w) X.A (evalPart e X.env) (λu s'=>∃o H',Inv X pins σ H' s'/\IsPart u o/\Q o H') X.xe s
noncomputable def EN:TO:=λ_ H Q=>Q none H
noncomputable def Lh(t:TE):TO:=λσ H Q=>t σ H λx H1=>∃i,x= .int i/\Q (some i) H1
theorem ye{ns:List Int}:∀{us:List ae},Vals (ns.map V.int) us->IntsAre us ns:=by
 induction ns with
 |nil=>intro us r;rw[iz]at r;cases r;exact .nil
 |cons n ns ih=>
  intro us r
  rw[aw]at r
  cases r with
  |cons r1 r2=>
   obtain⟨t,e⟩:=r1
   subst e
   exact .cons n t (ih r2)
section
variable{X:Cx}{e:Expr}{te:TE}{lo hi:Option Expr}{tl th:TO}{pos p2:Pos}
theorem Fh:PO X none EN:=by
 intro pins s σ H Q I h
 rw[evalPart_none]
 exact ao ⟨none,H,I,.none,h⟩
theorem Fg(h:PE X e te):PO X (some e) (Lh te):=by
 intro pins s σ H Q I hw
 rw[evalPart_some]
 refine eR (h pins s σ H _ I hw) λu s1 hPl=> ?_
 obtain⟨x,H1,I1,r1,q1⟩:=hPl
 obtain⟨i,rfl,q⟩:=q1
 obtain⟨t,rfl⟩:=r1
 exact⟨some i,H1,I1,.int i t,q⟩
noncomputable def KY(X:Cx)(r:V->Option Int->Option Int->Hp->VK->Prop):Prop:=
 ∀(pins:List (Addr×Obj)) (s:al) (σ:St) (H:Hp) (x:V) (v vl vu:ae) (lo hi:Option Int) (sl:Addr) (Q:VK),Inv X pins σ H s->RelV x v->s.heap.IsSliceOf sl vl vu .none->IsPart vl lo->IsPart vu hi->r x lo hi H Q->
  ∃T id,typeLookup (.type T) "__getitem__" =pure (some (.builtin id))/\s.TypeIs v T/\wpAny (aT X.prog X.w) X.A (iS v (.ref sl)) (EP X pins σ Q) X.xe s
noncomputable def tSl(r:V->Option Int->Option Int->Hp->VK->Prop)(te:TE)(tl th:TO):TE:=λσ H Q=>te σ H λx H1=>tl σ H1 λl H2=>th σ H2 λu H3=>r x l u H3 Q
theorem wa{r:V->Option Int->Option Int->Hp->VK->Prop}(hr:KY X r)(he:PE X e te)(hl:PO X lo tl)(hu:PO X hi th):PE X (.Subscript e (.Slice lo hi none p2) pos) (tSl r te tl th):=by
 intro pins s σ H Q I h
 refine Subscript_ (eR (he pins s σ H _ I h) λv s1 hPl=> ?_)
 obtain⟨x,H1,I1,r1,q1⟩:=hPl
 refine wpAny_Slice (eR (hl pins s1 σ H1 _ I1 q1) λvl s2 ⟨l,H2,I2,pl,q2⟩=>eR (hu pins s2 σ H2 _ I2 q2) λvu s3 ⟨u,H3,I3,pu,q3⟩=> ?_)
 rw[evalPart_none]
 refine ao ?_
 have I4:Inv X pins σ H3 {s3 with heap:=s3.heap.push {cls:= .type "slice",data:= .fields #[vl,vu,.none]}}:=I3.kept (t':=s3.toks) λb ob q=>aj _ q
 obtain⟨T,id,hT,ht,hg⟩:=hr pins {s3 with heap:=s3.heap.push {cls:= .type "slice",data:= .fields #[vl,vu,.none]}} σ H3 x v vl vu l u s3.heap.objs.size Q I4 r1 (kB ..) pl pu q3
 show wpAny (aT X.prog X.w) X.A (subscriptTail e (.Slice lo hi none p2) v (.ref s3.heap.objs.size)) (EP X pins σ Q) X.xe {s3 with heap:=s3.heap.push {cls:= .type "slice",data:= .fields #[vl,vu,.none]}}
 exact tail_any (ops:=[.ref s3.heap.objs.size,v]) ht hT hg (by with_unfolding_all rfl)
noncomputable def vf(xs:List V)(lo hi:Option Int):List V:=(xs.drop (HT.sIx xs.length 0 lo)).take (HT.sIx xs.length xs.length hi-HT.sIx xs.length 0 lo)
theorem pG(xs:List V)(lo hi:Option Int):(vf xs lo hi).length<=xs.length:=by
 unfold vf
 rw[bo,List.length_drop]
 ac_nf
noncomputable def Oi(K:PySem.W.Frag):V->Option Int->Option Int->Hp->VK->Prop:=λx lo hi H Q=>∃a xs,x= .ref a/\SqT K H a xs/\
 ¬(HT.sIx xs.length 0 lo=0/\HT.sIx xs.length xs.length hi=xs.length)/\∀p,H p=none->Q (.ref p) (upd H p (.tup (vf xs lo hi)))
theorem Ir:KY X (Oi X.K):=by
 intro pins s σ H x v vl vu lo hi sl Q I rx hs pl pu h
 obtain⟨a,xs,rfl,hx,hw,q⟩:=h
 cases rx
 obtain⟨its,r,ht,hz⟩:=I.tuple hx
 have hlen:its.toArray.size=xs.length:=by rw[aA];exact r.length.symm
 refine⟨"tuple",_,bw.lookup,ht.typeIs,?_⟩
 refine HT.getItem_tuple_cut ht hs pl pu (by rw[hlen];exact hw) ?_ (by rw[hlen];exact hz)
 rw[hlen]
 refine⟨.ref s.heap.objs.size,_,I.laid (t':=s.toks) (o:= .tup (vf xs lo hi)) (λb ob q=>aj _ q) (am _) ?_,rfl,q _ (I.hok.fresh (am _))⟩
 exact⟨aP (pG xs lo hi) hz,_,(r.drop (HT.sIx xs.length 0 lo)).take (HT.sIx xs.length xs.length hi-HT.sIx xs.length 0 lo),IsTup.new _ _⟩
noncomputable def LF(K:PySem.W.Frag):R2:=λx y H Q=>∃a b xs ys,x= .ref a/\y= .ref b/\SqT K H a xs/\SqT K H b ys/\xs≠[]/\xs.length+ys.length<=aQ/\
 (ys=[]->Q (.ref a) H)/\(ys≠[]->∀p,H p=none->Q (.ref p) (upd H p (.tup (xs++ys))))
theorem Vals.nil_iff{xs:List V}{us:List ae}(r:Vals xs us):us=[]↔xs=[]:=by
 cases r with
 |nil=>simp
 |cons _ _=>simp
theorem FB:jl X (dO .Add) (LF X.K):=by
 intro pins s σ H x y v u Q I rx ry h
 obtain⟨a,b,xs,ys,rfl,rfl,ha,hb,hx,hz,q1,q2⟩:=h
 cases rx
 cases ry
 obtain⟨its,r1,p1,_⟩:=I.tuple ha
 obtain⟨its2,r2,p2,_⟩:=I.tuple hb
 refine HT.cat_tup p1 p2 (λz=>hx (r1.nil_iff.mp z)) (λz=>⟨.ref a,H,I,rfl,q1 (r2.nil_iff.mp z)⟩) (λz=> ?_) (by rw[<-r1.length,<-r2.length];exact hz)
 refine⟨.ref s.heap.objs.size,_,I.laid (t':=s.toks) (o:= .tup (xs++ys)) (λb ob q=>aj _ q) (am _) ?_,rfl,q2 (λw=>z (r2.nil_iff.mpr w)) _ (I.hok.fresh (am _))⟩
 exact⟨by rw[aL];exact hz,_,r1.append r2,IsTup.new _ _⟩
end
noncomputable def AV(n:Nat)(i:Int):Option Nat:=if 0<=i then(if i<n then some i.toNat else none)else if-(n:Int)<=i then some (i+n).toNat else none
noncomputable def qv{α:Type}(xs:List α)(i:Int):Option α:=(AV xs.length i).bind λj=>xs[j]?
theorem zL{n:Nat}{i:Int}{j:Nat}(h:AV n i=some j):seqIndex? i n=some j/\j<n/\-(n:Int)<=i/\i<n:=by
 unfold AV at h
 by_cases h0:0<=i
 ·rw[if_pos h0]at h
  by_cases h1:i<n
  ·rw[if_pos h1]at h
   have e:i.toNat=j:=bc h
   exact⟨by rw[seqIndex_of h0 h1,e],by ac_nf,by ac_nf,h1⟩
  ·rw[if_neg h1]at h;cases h
 ·rw[if_neg h0]at h
  by_cases h1: -(n:Int)<=i
  ·rw[if_pos h1]at h
   have e:(i+n).toNat=j:=bc h
   exact⟨by rw[seqIndex_neg (by ac_nf) h1,e],by ac_nf,h1,by ac_nf⟩
  ·rw[if_neg h1]at h;cases h
theorem qu{α:Type}{xs:List α}{i:Int}{v:α}(h:qv xs i=some v):∃j,seqIndex? i xs.length=some j/\xs[j]? =some v/\j<xs.length/\-(xs.length:Int)<=i/\i<xs.length:=by
 unfold qv at h
 cases e:AV xs.length i with
 |none=>rw[e]at h;cases h
 |some j=>
  rw[e]at h
  obtain⟨h1,h2,h3,h4⟩:=zL e
  exact⟨j,h1,h,h2,h3,h4⟩
theorem bI{α:Type}{xs:List α}{j:Nat}{v:α}(h:xs[j]? =some v):qv xs (j:Int)=some v:=by
 have hj:j<xs.length:=(aq.mp h).1
 have e:AV xs.length (j:Int)=some j:=by
  unfold AV
  rw[if_pos (by ac_nf),if_pos (by ac_nf)];simp
 unfold qv;rw[e];exact h
noncomputable def vv(b:Expr):Prop:=∀o i,subscripted b false o i=operate [o,i] (iS o i)
noncomputable def K8(X:Cx)(r:R2):Prop:=
 ∀(value slice:Expr) (pins:List (Addr×Obj)) (s:al) (σ:St) (H:Hp) (x y:V) (v u:ae) (Q:VK),Inv X pins σ H s->RelV x v->RelV y u->r x y H Q->
  subscripted slice false v u=operate [v,u] (iS v u)->wpAny (aT X.prog X.w) X.A (subscriptTail value slice v u) (EP X pins σ Q) X.xe s
noncomputable def Ez(X:Cx)(id:String)(r:V->List V->Hp->VK->Prop):Prop:=
 ∀(pins:List (Addr×Obj)) (s:al) (σ:St) (H:Hp) (x:V) (xs:List V) (v:ae) (us:List ae) (Q:VK),Inv X pins σ H s->RelV x v->Vals xs us->r x xs H Q->
  wpAny (aT X.prog X.w) X.A (call (.builtin id) (v::us)) (EP X pins σ Q) X.xe s
section
variable{X:Cx}{a b:Expr}{ta tb:TE}{pos:Pos}
theorem LM{r:R2}(hr:K8 X r)(ha:PE X a ta)(hb:PE X b tb)(hs:vv b):PE X (.Subscript a b pos) (Lj r ta tb):=by
 intro pins s σ H Q I h
 exact Subscript_ (KO ha hb I h λv u s2 x y H2 I2 rx ry q=>hr a b pins s2 σ H2 x y v u Q I2 rx ry q (hs _ _))
noncomputable def Os(K:PySem.W.Frag):R2:=λx y H Q=>∃p xs i v,x= .ref p/\y= .int i/\SqL K H p xs/\qv xs i=some v/\Q v H
noncomputable def Op(K:PySem.W.Frag):R2:=λx y H Q=>∃p xs i v,x= .ref p/\y= .int i/\SqT K H p xs/\qv xs i=some v/\Q v H
noncomputable def Oq:R2:=λx y H Q=>∃z i c,x= .str z/\y= .int i/\z.length<=aQ/\qv z.cps.toList i=some c/\Q (.str ⟨#[c]⟩) H
theorem GF:K8 X (Os X.K):=by
 intro value slice pins s σ H x y v u Q I rx ry h hs
 obtain⟨p,xs,i,z,rfl,rfl,hq,he,q⟩:=h
 cases rx
 obtain⟨t,rfl⟩:=ry
 obtain⟨its,r,pl,hz⟩:=I.list hq
 obtain⟨j,h1,h2,h3,h4,h5⟩:=qu he
 obtain⟨w,ew,rw'⟩:=r.get h2
 have hl:=r.length
 have hn:=l9
 have fin:EP X pins σ Q w s:=⟨z,H,I,rw',q⟩
 by_cases h0:0<=i
 ·have hj:i.toNat=j:=by
   rw[seqIndex_of h0 h5]at h1
   exact bc h1
  exact item_listR pl.isList h0 (by ac_nf) (by rw[hj];simpa using ew) fin hs
 ·have hj:(i+(its.toArray.size:Int)).toNat=j:=by
   rw[seqIndex_neg (by ac_nf) h4]at h1
   rw[aA,<-hl]
   exact bc h1
  exact subscriptTail_builtinR (x:=w) pl.isList.typeIs ux.lookup
   (wpAny_getItem_list_neg (Q:=λr s'=>r=w/\EP X pins σ Q r s') pl.isList (by ac_nf) (by rw[aA]<;>ac_nf) (by ac_nf) (by rw[hj];simpa using ew) ⟨rfl,fin⟩) hs
theorem Kn:K8 X (Op X.K):=by
 intro value slice pins s σ H x y v u Q I rx ry h hs
 obtain⟨p,xs,i,z,rfl,rfl,hq,he,q⟩:=h
 cases rx
 obtain⟨t,rfl⟩:=ry
 obtain⟨its,r,pl,hz⟩:=I.tuple hq
 obtain⟨j,h1,h2,h3,h4,h5⟩:=qu he
 obtain⟨w,ew,rw'⟩:=r.get h2
 have hl:=r.length
 have hn:=l9
 have fin:EP X pins σ Q w s:=⟨z,H,I,rw',q⟩
 exact subscriptTail_builtinR (x:=w) pl.typeIs slot_tuple_getitem.lookup
  (getItem_tuple (j:=j) (Q:=λr s'=>r=w/\EP X pins σ Q r s') pl (by ac_nf) (by ac_nf) (by rw[aA,<-hl];exact h1) (by simpa using ew) ⟨rfl,fin⟩) hs
theorem Ko:K8 X Oq:=by
 intro value slice pins s σ H x y v u Q I rx ry h hs
 obtain⟨z,i,c,rfl,rfl,hz,he,q⟩:=h
 obtain⟨t,rfl⟩:=rx
 obtain⟨t',rfl⟩:=ry
 obtain⟨j,h1,h2,h3,h4,h5⟩:=qu he
 have hl:z.cps.toList.length=z.length:=by simp[Str.length]
 rw[hl]at h1 h4 h5
 have hn:=l9
 exact tail_any (typeIs_str s z t) slot_str_getitem.lookup (getItem_str (c:=c) (by
  have e1:decide (i< -(2^63:Int))=false:=decide_eq_false (by ac_nf)
  have e2:decide (i≥2^63)=false:=decide_eq_false (by ac_nf)
  rw[e1,e2,Bool.or_false]) (by rw[h1];simpa using h2) ⟨.str ⟨#[c]⟩,H,I.tok _,⟨_,rfl⟩,q⟩) hs
theorem xW(its:List ae)(n j:Nat)(u:ae):c9 (·.setIfInBounds j u) {cls:= .type "list",data:= .seq its.toArray n}={cls:= .type "list",data:= .seq (its.set j u).toArray n}:=by
 simp[c9]
theorem Inv.lst{pins:List (Addr×Obj)}{σ:St}{H:Hp}{s:al}{p:Addr}{xs:List V}(I:Inv X pins σ H s)(h:H p=some (.lst xs)):
  ∃(its:List ae) (n:Nat),Vals xs its/\s.heap.get? p=some {cls:= .type "list",data:= .seq its.toArray n}/\xs.length<=aQ:=by
 obtain⟨z,its,n,r,e⟩:=I.hok p _ h
 exact⟨its,n,r,e,z⟩
theorem Inv.lstUpd{pins:List (Addr×Obj)}{σ:St}{H:Hp}{s:al}{p:Addr}{xs ys:List V}{its its':List ae}{n n':Nat}{f:Obj->Obj}(I:Inv X pins σ H s)(h:H p=some (.lst xs))
  (ho:s.heap.get? p=some {cls:= .type "list",data:= .seq its.toArray n}) (hf:f {cls:= .type "list",data:= .seq its.toArray n}={cls:= .type "list",data:= .seq its'.toArray n'}) (r:Vals ys its') (hz:ys.length<=aQ) (t:Nat):
  Inv X pins σ (upd H p (.lst ys)) {s with heap:=s.heap.update p f,toks:=t}:=by
 have e:(s.heap.update p f).get? p=some {cls:= .type "list",data:= .seq its'.toArray n'}:=by
  rw[dH f ho (by rw[hf]<;>rfl),hf]
 refine I.write (x:=p) (e:=p) (by rw[h];trivial) (.inl rfl) (λb u hb q=>(ck _ _ (aG hb)).trans q) ⟨_,e⟩ ?_
 exact⟨hz,its',n',r,e⟩
noncomputable def LC:V->V->V->Hp->(Hp->Prop)->Prop:=λo i v H Q=>∃p xs k j,o= .ref p/\i= .int k/\H p=some (.lst xs)/\AV xs.length k=some j/\Q (upd H p (.lst (xs.set j v)))
theorem B5:PSet X LC:=by
 intro pins s σ H o i v ov iv u Q I ro ri rv h
 obtain⟨p,xs,k,j,rfl,rfl,hp,hj,q⟩:=h
 cases ro
 obtain⟨t,rfl⟩:=ri
 obtain⟨its,n,r,ho,hz⟩:=I.lst hp
 obtain⟨h1,h2,h3,h4⟩:=zL hj
 have hl:=r.length
 have hn:=l9
 have I':Inv X pins σ (upd H p (.lst (xs.set j v))) {s with heap:=s.heap.update p (c9 (·.setIfInBounds j u))}:=
  I.lstUpd hp ho (xW its n j u) (r.set rv j) (by rw[List.length_set];exact hz) s.toks
 by_cases h0:0<=k
 ·have hk:k.toNat=j:=by
   rw[seqIndex_of h0 h4]at h1
   exact bc h1
  exact PySem.W.ki_setAt ho h0 (by ac_nf) (by rw[aA,<-hl];exact h4) (by rw[hk];exact⟨_,I',q⟩)
 ·have hk:(k+(its.toArray.size:Int)).toNat=j:=by
   rw[seqIndex_neg (by ac_nf) h3]at h1
   rw[aA,<-hl]
   exact bc h1
  exact PySem.W.ki_setBack ho (by ac_nf) (by rw[aA,<-hl];exact h3) (by ac_nf) (by rw[hk];exact⟨_,I',q⟩)
theorem uy(lo hi:Option Int)(n:Nat):(jy lo hi none n).1=((HT.sIx n 0 lo:Nat):Int)/\(jy lo hi none n).2.1=((HT.sIx n n hi:Nat):Int)/\(jy lo hi none n).2.2=1:=by
 refine⟨?_,?_,rfl⟩
 ·cases lo with
  |none=>simp[jy,HT.sIx]
  |some i=>
   simp only[jy,HT.sIx,Option.getD_none,show(1:Int)>0 by decide,if_true]
   by_cases h:i<0
   ·simp only[h,if_true]<;>ac_nf
   ·simp only[h,if_false]<;>ac_nf
 ·cases hi with
  |none=>simp[jy,HT.sIx]
  |some i=>
   simp only[jy,HT.sIx,Option.getD_none,show(1:Int)>0 by decide,if_true]
   by_cases h:i<0
   ·simp only[h,if_true]<;>ac_nf
   ·simp only[h,if_false]<;>ac_nf
theorem se(its:List ae)(lo hi:Option Int):slicePick its.toArray lo hi none=((its.drop (HT.sIx its.length 0 lo)).take (HT.sIx its.length its.length hi-HT.sIx its.length 0 lo)).toArray:=by
 obtain⟨h1,h2,h3⟩:=uy lo hi its.toArray.size
 unfold slicePick
 rw[h1,h2,h3]
 simp only[sliceRange_one,pick_run,aA]<;>rfl
noncomputable def Ol(K:PySem.W.Frag):V->Option Int->Option Int->Hp->VK->Prop:=λx lo hi H Q=>∃a xs,x= .ref a/\SqL K H a xs/\∀p,H p=none->Q (.ref p) (upd H p (.lst (vf xs lo hi)))
theorem ET:KY X (Ol X.K):=by
 intro pins s σ H x v vl vu lo hi sl Q I rx hs pl pu h
 obtain⟨a,xs,rfl,hx,q⟩:=h
 cases rx
 obtain⟨its,r,ht,hz⟩:=I.list hx
 have hlen:=r.length
 refine⟨"list",_,ux.lookup,ht.isList.typeIs,?_⟩
 refine Bx ht.isList hs pl pu .none (by simp) ?_ (by rw[aA]<;>ac_nf)
 rw[se,<-hlen]
 refine⟨.ref s.heap.objs.size,_,I.laid (t':=s.toks) (o:= .lst (vf xs lo hi)) (λb ob q=>aj _ q) (am _) ?_,rfl,q _ (I.hok.fresh (am _))⟩
 exact⟨aP (pG xs lo hi) hz,_,0,(r.drop (HT.sIx xs.length 0 lo)).take (HT.sIx xs.length xs.length hi-HT.sIx xs.length 0 lo),aJ _ rfl⟩
noncomputable def lI:V->Bool
 | .non=>true
 | .bl _=>true
 | .int _=>true
 | .str _=>true
 |_=>false
noncomputable def GV:V->V->Bool
 | .non,.non=>true
 | .bl a,.bl b=>a==b
 | .bl a,.int b=>(if a then 1 else 0)==b
 | .int a,.bl b=>a==(if b then 1 else 0)
 | .int a,.int b=>a==b
 | .str a,.str b=>a==b
 |_,_=>false
theorem KB{A:Around}{s:al}{y x:V}{u v:ae}(ry:RelV y u)(rx:RelV x v)(fy:lI y=true)(fx:lI x=true):SeqAt.EqAt A s u v (GV y x):=by
 cases y with
 |non=>
  cases ry
  cases x with
  |non=>cases rx;exact SeqAt.EqAt.same _
  |bl b=>cases rx;exact SeqAt.EqAt.none_bool b
  |int b=>obtain⟨t,rfl⟩:=rx;exact SeqAt.EqAt.none_int b t
  |str b=>obtain⟨t,rfl⟩:=rx;exact SeqAt.EqAt.none_str b t
  |_=>exact absurd (show false=true from fx) bx
 |bl a=>
  cases ry
  cases x with
  |non=>cases rx;exact SeqAt.EqAt.bool_none a
  |bl b=>cases rx;exact SeqAt.EqAt.bool_bool a b
  |int b=>obtain⟨t,rfl⟩:=rx;exact SeqAt.EqAt.bool_int a b t
  |str b=>obtain⟨t,rfl⟩:=rx;exact SeqAt.EqAt.bool_str a b t
  |_=>exact absurd (show false=true from fx) bx
 |int a=>
  obtain⟨t',rfl⟩:=ry
  cases x with
  |non=>cases rx;exact SeqAt.EqAt.int_none a t'
  |bl b=>cases rx;exact SeqAt.EqAt.int_bool a t' b
  |int b=>obtain⟨t,rfl⟩:=rx;exact SeqAt.EqAt.int_int a t' b t
  |str b=>obtain⟨t,rfl⟩:=rx;exact lP a t' b t
  |_=>exact absurd (show false=true from fx) bx
 |str a=>
  obtain⟨t',rfl⟩:=ry
  cases x with
  |non=>cases rx;exact SeqAt.EqAt.str_none a t'
  |bl b=>cases rx;exact SeqAt.EqAt.str_bool a t' b
  |int b=>obtain⟨t,rfl⟩:=rx;exact lO a t' b t
  |str b=>obtain⟨t,rfl⟩:=rx;exact SeqAt.EqAt.str_str a t' b t
  |_=>exact absurd (show false=true from fx) bx
 |_=>exact absurd (show false=true from fy) bx
noncomputable def GX(x:V)(u:ae):Bool:=match u with
 | .none=>GV .non x
 | .bool b=>GV (.bl b) x
 | .int i _=>GV (.int i) x
 | .str z _=>GV (.str z) x
 |_=>false
theorem D0{x y:V}{u:ae}(r:RelV y u)(f:lI y=true):GX x u=GV y x:=by
 cases y with
 |non=>cases r;rfl
 |bl b=>cases r;rfl
 |int i=>obtain⟨t,rfl⟩:=r;rfl
 |str z=>obtain⟨t,rfl⟩:=r;rfl
 |_=>exact absurd (show false=true from f) bx
theorem vm{x:V}:∀{xs:List V} {us:List ae},Vals xs us->xs.all lI=true->us.any (GX x)=xs.any λy=>GV y x
 |_,_,.nil,_=>rfl
 |y::xs,u::us,.cons r t,f=>by
  rw[ko,bC]at f
  rw[cT,cT,D0 r f.1,vm t f.2]
theorem rf{A:Around}{s:al}{x:V}{v:ae}(rx:RelV x v)(fx:lI x=true):∀{xs:List V} {us:List ae},Vals xs us->xs.all lI=true->∀u∈us,SeqAt.EqAt A s u v (GX x u)
 |_,_,.nil,_=>λu hu=>by cases hu
 |y::xs,u::us,.cons r t,f=>λu' hu=>by
  rw[ko,bC]at f
  rcases aI.mp hu with rfl|hu
  ·rw[D0 r f.1];exact KB r rx f.1 fx
  ·exact rf rx fx t f.2 u' hu
noncomputable def NK(x:V)(xs:List V):Bool:=xs.any λy=>GV y x
noncomputable def rIn(K:PySem.W.Frag)(neg:Bool):R2:=λx y H Q=>∃p xs,y= .ref p/\(SqL K H p xs\/SqT K H p xs)/\lI x=true/\xs.all lI=true/\Q (.bl (if neg then !NK x xs else NK x xs)) H
theorem tt:jl X (cL .In) (rIn X.K false):=by
 intro pins s σ H x y v u Q I rx ry h
 obtain⟨p,xs,rfl,hq,fx,fs,q⟩:=h
 cases ry
 rcases hq with hq|hq
 ·obtain⟨its,r,pl,hz⟩:=I.list hq
  refine SeqAt.in_listAt (GX x) pl.isList (λw hw=>rf rx fx r fs w (by simpa using hw)) ⟨.bl _,H,I,rfl,?_⟩
  rw[show its.toArray.any (GX x)=its.any (GX x)by simp,vm r fs]
  exact q
 ·obtain⟨its,r,pl,hz⟩:=I.tuple hq
  refine SeqAt.in_tupleAt (GX x) pl (λw hw=>rf rx fx r fs w (by simpa using hw)) ⟨.bl _,H,I,rfl,?_⟩
  rw[show its.toArray.any (GX x)=its.any (GX x)by simp,vm r fs]
  exact q
theorem nS:hV X (.builtin "len") (λxs H Q=>∃p ys,xs=[.ref p]/\(SqL X.K H p ys\/SqT X.K H p ys)/\Q (.int ys.length) H):=by
 intro pins s σ H xs us Q I r h
 obtain⟨p,ys,rfl,hq,q⟩:=h
 obtain⟨u,rfl,rx⟩:=yL r
 cases rx
 have hn:=l9
 rcases hq with hq|hq
 ·obtain⟨its,r',pl,hz⟩:=I.list hq
  have hlen:=r'.length
  exact Calls.call_len_list pl.isList (by simp only[aA]<;>ac_nf) ⟨.int ys.length,H,I.tok _,⟨s.toks+1,by rw[aA,hlen]⟩,q⟩
 ·obtain⟨its,r',pl,hz⟩:=I.tuple hq
  have hlen:=r'.length
  exact len_tuple pl (by simp only[aA]<;>ac_nf) ⟨.int ys.length,H,I.tok _,⟨s.toks+1,by rw[aA,hlen]⟩,q⟩
theorem vj:hV X (.builtin "len") (λxs H Q=>∃z,xs=[.str z]/\z.length<=aQ/\Q (.int z.length) H):=by
 intro pins s σ H xs us Q I r h
 obtain⟨z,rfl,hz,q⟩:=h
 obtain⟨u,rfl,t,rfl⟩:=yL r
 have hn:=l9
 exact len_str (by ac_nf) ⟨.int z.length,H,I.tok _,⟨_,rfl⟩,q⟩
theorem ke:hV X (.type "list") (λxs H Q=>∃p ys,xs=[.ref p]/\(SqL X.K H p ys\/SqT X.K H p ys)/\∀l,H l=none->Q (.ref l) (upd H l (.lst ys))):=by
 intro pins s σ H xs us Q I r h
 obtain⟨p,ys,rfl,hq,q⟩:=h
 obtain⟨u,rfl,rx⟩:=yL r
 cases rx
 have fin:∀(its:List ae),Vals ys its->ys.length<=aQ->∀(h':Heap) (c':Nat),(∀b o',s.heap.get? b=some o'->h'.get? b=some o')->
   h'.get? s.heap.objs.size=some {cls:= .type "list",dict:=none,data:= .seq its.toArray c',slots:= #[]}->EP X pins σ Q (.ref s.heap.objs.size) {s with heap:=h'}:=λits r' hz h' c' kp e=>
  ⟨.ref s.heap.objs.size,_,I.laid (t':=s.toks) kp (am _) (show ObjOk X.prog X.w _ h' _ (.lst ys)from⟨hz,its,c',r',e⟩),rfl,q _ (I.hok.fresh (am _))⟩
 rcases hq with hq|hq
 ·obtain⟨its,r',pl,hz⟩:=I.list hq
  have hlen:=r'.length
  obtain⟨o,ho,hc,n,hd⟩:=pl.isList
  exact call_list_seq p (.inl rfl) ho hc hd (λh' c' kp e=>fin its r' hz h' c' kp e) (by simp only[aA]<;>ac_nf)
 ·obtain⟨its,r',pl,hz⟩:=I.tuple hq
  have hlen:=r'.length
  obtain⟨o,ho,hc,n,hd⟩:=pl
  exact call_list_seq p (.inr rfl) ho hc hd (λh' c' kp e=>fin its r' hz h' c' kp e) (by simp only[aA]<;>ac_nf)
theorem lN:hV X (.type "tuple") (λxs H Q=>∃p ys,xs=[.ref p]/\((SqL X.K H p ys/\∀l,H l=none->Q (.ref l) (upd H l (.tup ys)))\/(SqT X.K H p ys/\Q (.ref p) H))):=by
 intro pins s σ H xs us Q I r h
 obtain⟨p,ys,rfl,h⟩:=h
 obtain⟨u,rfl,rx⟩:=yL r
 cases rx
 rcases h with⟨hq,q⟩|⟨hq,q⟩
 ·obtain⟨its,r',pl,hz⟩:=I.list hq
  have hlen:=r'.length
  refine call_tuple_list pl.isList (λh' kp=> ?_) (by simp only[aA]<;>ac_nf)
  have I1:Inv X pins σ H {s with heap:=h'}:=I.kept (t':=s.toks) kp
  have I2:Inv X pins σ (upd H h'.objs.size (.tup ys)) {s with heap:=h'.push {cls:= .type "tuple",data:= .seq its.toArray}}:=
   I1.laid (t':=s.toks) (λb o e=>aj _ e) (am _) (show ObjOk X.prog X.w _ _ _ (.tup ys)from⟨hz,its,r',IsTup.new _ _⟩)
  exact⟨.ref h'.objs.size,_,I2,rfl,q _ (I1.hok.fresh (am _))⟩
 ·obtain⟨its,r',pl,hz⟩:=I.tuple hq
  exact call_tuple_same pl ⟨.ref p,H,I,rfl,q⟩
noncomputable def NC(K:PySem.W.Frag)(T:String)(x:V)(H:Hp):Prop:=match x with
 | .str _=>T= "str"
 | .int _=>T= "int"
 | .ref p=>(T= "list" /\∃xs,SqL K H p xs)\/(T= "tuple" /\∃o,K.lookup p=some o/\o.cls= .type "tuple" /\o.dict=none)\/
   (T= "dict" /\((∃kvs,H p=some (.dK kvs))\/∃kvs,H p=some (.dT kvs)))\/(T= "set" /\∃S n,H p=some (.set S n))
 |_=>False
theorem BG{pins:List (Addr×Obj)}{σ:St}{H:Hp}{s:al}{T:String}{x:V}{v:ae}(I:Inv X pins σ H s)(r:RelV x v)(ty:NC X.K T x H):
  s.TypeIs v T/\∀a,v= .ref a->∃ob,s.heap.get? a=some ob/\ob.dict=none:=by
 cases x with
 |str z=>
  obtain⟨t,rfl⟩:=r
  cases (show T= "str" from ty)
  exact⟨typeIs_str s z t,λ_ e=>nomatch e⟩
 |int i=>
  obtain⟨t,rfl⟩:=r
  cases (show T= "int" from ty)
  exact⟨typeIs_int s i t,λ_ e=>nomatch e⟩
 |ref p=>
  cases r
  rcases ty with⟨rfl,xs,hq⟩|⟨rfl,o,hk,hc,hd⟩|⟨rfl,hk⟩|⟨rfl,S,n,hk⟩
  ·obtain⟨its,_,pl,_⟩:=I.list hq
   refine⟨pl.isList.typeIs,λa e=> ?_⟩
   cases e
   obtain⟨o,n,e,c,hd,_⟩:=pl
   exact⟨o,e,hd⟩
  ·refine⟨⟨o,I.kIn p o hk,hc⟩,λa e=> ?_⟩
   cases e
   exact⟨o,I.kIn _ o hk,hd⟩
  ·have z:∃o,s.heap.get? p=some o/\o.ExactDict:=by
    rcases hk with⟨kvs,hk⟩|⟨kvs,hk⟩
    ·obtain⟨_,_,_,_,o,_,_,e,ex,_⟩:=I.hok p _ hk
     exact⟨o,e,ex⟩
    ·obtain⟨_,_,_,_,o,_,_,e,ex,_⟩:=I.hok p _ hk
     exact⟨o,e,ex⟩
   obtain⟨o,e,ex⟩:=z
   refine⟨⟨o,e,ex.1⟩,λa e2=> ?_⟩
   cases e2
   exact⟨o,e,ex.2.1⟩
  ·obtain⟨o,_,_,_,e,ex,_⟩:=I.hok p _ hk
   refine⟨⟨o,e,ex.1⟩,λa e2=> ?_⟩
   cases e2
   exact⟨o,e,ex.2.1⟩
 |_=>exact bZ ty
noncomputable def Oc(K:PySem.W.Frag)(T:String)(r:V->List V->Hp->VK->Prop)(to:TE):TE:=λσ H Q=>to σ H λx H1=>NC K T x H1/\r x [] H1 Q
noncomputable def tBM(K:PySem.W.Frag)(T:String)(r:V->List V->Hp->VK->Prop)(to:TE)(t:TA):TE:=λσ H Q=>to σ H λx H1=>NC K T x H1/\t σ H1 λxs H2=>r x xs H2 Q
variable{o e:Expr}{es:List Expr}{to:TE}{t:TA}{name:Str}{apos cpos:Pos}{T id:String}{r:V->List V->Hp->VK->Prop}
theorem Jc(pa:PlainAttrs T)(slot:Slot T name id)(hty:typeOf (.builtin id)=pure (.type "method_descriptor"))(hm:Ez X id r)(ho:PE X o to)
  (hbase:cz o name X.env (eval o X.env)=eval o X.env:=by rfl) (hline:(apos.endLine==cpos.line)=true:=by rfl):PE X (.Call (.Attribute o name apos) [] [] cpos) (Oc X.K T r to):=by
 intro pins s σ H Q I h
 refine wpAny_Call_method0_late hbase hline (eR (ho pins s σ H _ I h) λv s1 hPl=> ?_)
 obtain⟨x,H1,I1,r1,ty,q1⟩:=hPl
 obtain⟨h1,h2⟩:=BG I1 r1 ty
 exact⟨T,id,pa,slot,hty,h1,h2,ir rfl (PySem.evalArgs_none (hm pins s1 σ H1 x [] v [] Q I1 r1 .nil q1))⟩
theorem HI(pa:PlainAttrs T)(slot:Slot T name id)(hty:typeOf (.builtin id)=pure (.type "method_descriptor"))(hm:Ez X id r)(ho:PE X o to)(ha:PA X (e::es) t)
  (hbase:cz o name X.env (eval o X.env)=eval o X.env:=by rfl)
  (hfew:((ce cpos (aB (e::es) X.env)).all (λx=> !x.1)&&(io cpos (eK [] X.env)).all (λx=>x.1.isSome)
   &&decide ((e::es).length+([]:List gD).length+(if([]:List gD).isEmpty then 0 else 1)<30))=true:=by rfl)
  (hline:(apos.endLine==cpos.line)=true:=by rfl) (hs:aB (e::es) X.env=(false,eval e X.env)::aB es X.env:=by rfl) (hplain:(ce cpos (aB es X.env)).any (·.1)=false:=by rfl):
  PE X (.Call (.Attribute o name apos) (e::es) [] cpos) (tBM X.K T r to t):=by
 intro pins s σ H Q I h
 refine wpAny_Call_method_late hbase hfew hline rfl (eR (ho pins s σ H _ I h) λv s1 hPl=> ?_)
 obtain⟨x,H1,I1,r1,ty,q1⟩:=hPl
 obtain⟨h1,h2⟩:=BG I1 r1 ty
 refine⟨T,id,pa,slot,hty,h1,h2,?_⟩
 have hA:=ha cpos pins s1 σ H1 _ I1 q1
 rw[hs]at hA⊢
 refine ir (by show(false||(ce cpos (aB es X.env)).any (·.1))=false;rw[hplain]<;>rfl) (mz ?_)
 exact eR hA λus s2 hPl=>by obtain⟨vs,H2,I2,r2,q2⟩:=hPl;exact hm pins s2 σ H2 x vs v us Q I2 r1 r2 q2
/-xs.append(e),list.index on a module's tuple .. are Ez facts of 06m-/
end
noncomputable def NR(X:Cx)(id:String)(r:V->List V->Hp->VK->Prop):Prop:=
 ∀(pins:List (Addr×Obj)) (s:al) (σ:St) (H:Hp) (x:V) (xs:List V) (v:ae) (us:List ae) (Q:VK),Inv X pins σ H s->RelV x v->Vals xs us->r x xs H Q->
  wpAny (aT X.prog X.w) X.A (call (.builtin id) (v::us)) (EP X pins σ Q) X.xe s
theorem Vals.one{x:V}{us:List ae}(h:Vals [x] us):∃u,us=[u]/\RelV x u:=by
 cases h with
 |cons r t=>cases t;exact⟨_,rfl,r⟩
theorem Vals.two{x y:V}{us:List ae}(h:Vals [x,y] us):∃u v,us=[u,v]/\RelV x u/\RelV y v:=by
 cases h with
 |cons r t=>cases t with
  |cons q t=>cases t;exact⟨_,_,rfl,r,q⟩
theorem Vals.zero:∀{us:List ae},Vals [] us->us=[]
 |_,.nil=>rfl
theorem Vals.dropLast{xs:List V}{us:List ae}(h:Vals xs us):Vals xs.dropLast us.dropLast:=by
 induction h with
 |nil=>exact .nil
 |cons r t ih=>
  cases t with
  |nil=>exact .nil
  |cons q t'=>exact .cons r ih
theorem Vals.reverse{xs:List V}{us:List ae}(h:Vals xs us):Vals xs.reverse us.reverse:=by
 induction h with
 |nil=>exact .nil
 |cons r t ih=>rw[eY,eY];exact Vals.append ih (.cons r .nil)
theorem Vals.rep{xs:List V}{us:List ae}(h:Vals xs us):∀k:Nat,Vals (bJ k xs).flatten (bJ k us).flatten
 |0=> .nil
 |k+1=>by
  rw[dz,dz,c8,c8]
  exact Vals.append h (Vals.rep h k)
theorem yj{α:Type}(l:List α):l.eraseIdx (l.length-1)=l.dropLast:=by
 induction l with
 |nil=>rfl
 |cons a r ih=>
  cases r with
  |nil=>rfl
  |cons b r=>
   have e:(a::b::r).length-1=((b::r).length-1)+1:=by
    have h1:(a::b::r).length=r.length+2:=rfl
    have h2:(b::r).length=r.length+1:=rfl
    ac_nf
   rw[e,List.eraseIdx_cons_succ,ih]
   all_goals rfl
theorem tG(its:List ae):∀(k:Nat) (acc:List ae),
  List.foldl (λx1 x2=>x1++x2) acc.toArray (bJ k its.toArray)=(acc++(bJ k its).flatten).toArray
 |0,acc=>by simp
 |k+1,acc=>by
  have e:acc.toArray++its.toArray=(acc++its).toArray:=by simp
  have e2:(acc++its)++(bJ k its).flatten=acc++(bJ (k+1) its).flatten:=by
   rw[dz,c8,cx]
  rw[<-e2,<-tG its k (acc++its),<-e,dz,List.foldl_cons]
section
variable{X:Cx}{pins:List (Addr×Obj)}{σ:St}{H:Hp}{s:al}{l:Addr}{xs ys:List V}
theorem Inv.lset{its its':List ae}{n:Nat}{f:Array ae->Array ae}{t':Nat}(I:Inv X pins σ H s)(hH:H l=some (.lst xs))
  (e:s.heap.get? l=some {cls:= .type "list",data:= .seq its.toArray n}) (hf:f its.toArray=its'.toArray) (hv:Vals ys its') (hz:ys.length<=aQ):
  Inv X pins σ (upd H l (.lst ys)) {s with heap:=s.heap.update l (c9 f),toks:=t'}:=by
 have q:=PySem.IsL.update e f
 rw[hf]at q
 refine I.write (x:=l) (e:=l) (by rw[hH];exact trivial) (.inl rfl) (λb' u hb hu=>(ck s.heap (c9 f) (aG hb)).trans hu) ⟨_,q⟩ ?_
 exact⟨hz,its',_,hv,q⟩
theorem Inv.lnew{its:List ae}{t':Nat}(I:Inv X pins σ H s)(hv:Vals ys its)(hz:ys.length<=aQ):
  Inv X pins σ (upd H s.heap.objs.size (.lst ys)) {s with heap:=s.heap.push {cls:= .type "list",data:= .seq its.toArray},toks:=t'}:=
 I.laid (λ_ _ q=>aj _ q) (am _) ⟨hz,its,0,hv,aJ _ rfl⟩
theorem Inv.fresh(I:Inv X pins σ H s):H s.heap.objs.size=none:=I.hok.fresh (am _)
theorem Inv.lstM(I:Inv X pins σ H s)(hH:H l=some (.lst xs)):xs.length<=aQ/\∃(its:List ae) (n:Nat),Vals xs its/\xs.length=its.length/\s.heap.get? l=some {cls:= .type "list",data:= .seq its.toArray n}:=by
 obtain⟨z,its,n,r,e⟩:=I.hok l _ hH
 exact⟨z,its,n,r,r.length,e⟩
theorem rb{n:Nat}(h:n<=aQ):dB n=false:=by
 unfold dB
 exact decide_eq_false (by ac_nf)
end
section
variable{X:Cx}
noncomputable def E6:V->List V->Hp->VK->Prop:=λx vs H Q=>∃l xs y,x= .ref l/\vs=[y]/\H l=some (.lst xs)/\xs.length<aQ/\Q .non (upd H l (.lst (xs++[y])))
theorem oS:NR X "list.append" E6:=by
 intro pins s σ H x vs v us Q I rx rv h
 obtain⟨l,xs,y,rfl,rfl,hH,hz,q⟩:=h
 cases rx
 obtain⟨u,rfl,ru⟩:=rv.one
 obtain⟨z,its,n,r,hl,e⟩:=I.lstM hH
 refine nR F.slot_list_append ⟨_,e,rfl⟩ F.entry_list_append (F.args_list_append_2 _ _) (PySem.list_append l its.toArray n u (by rw[aA];ac_nf)) ⟨e,?_⟩
 refine⟨.non,_,I.lset (its':=its++[u]) hH e (by simp) (r.append (.cons ru .nil)) ?_,rfl,q⟩
 rw[aL,List.length_singleton]
 ac_nf
noncomputable def E5:V->List V->Hp->VK->Prop:=λx vs H Q=>∃l b xs zs,x= .ref l/\vs=[.ref b]/\H l=some (.lst xs)/\H b=some (.lst zs)/\xs.length+zs.length<=aQ/\Q .non (upd H l (.lst (xs++zs)))
theorem AG:NR X "list.extend" E5:=by
 intro pins s σ H x vs v us Q I rx rv h
 obtain⟨l,b,xs,zs,rfl,rfl,hH,hB,hz,q⟩:=h
 cases rx
 obtain⟨u,rfl,ru⟩:=rv.one
 cases ru
 obtain⟨z,its,n,r,hl,e⟩:=I.lstM hH
 obtain⟨z2,its2,n2,r2,hl2,e2⟩:=I.lstM hB
 have hsz:its.toArray.size+its2.toArray.size<=aQ:=by rw[aA,aA];ac_nf
 have hlong:¬(!its.toArray.isEmpty&&dB (its.toArray.size+its2.toArray.size))=true:=by
  rw[rb hsz,mF]
  exact bx
 refine nR F.slot_list_extend ⟨_,e,rfl⟩ F.entry_list_extend (F.args_list_extend_2 _ _)
  (AutoSeq1.list_extend_list_list_0 l its.toArray n b its2.toArray n2 hlong (by rw[aA];ac_nf) (by ac_nf)) ⟨e,e2,?_⟩
 refine⟨.non,_,I.lset (its':=its++its2) hH e (by simp) (r.append r2) ?_,rfl,q⟩
 rw[aL]
 ac_nf
noncomputable def Oo:V->List V->Hp->VK->Prop:=λx vs H Q=>∃l xs y,x= .ref l/\vs=[]/\H l=some (.lst xs)/\xs[xs.length-1]? =some y/\Q y (upd H l (.lst xs.dropLast))
theorem Jw:NR X "list.pop" Oo:=by
 intro pins s σ H x vs v us Q I rx rv h
 obtain⟨l,xs,y,rfl,rfl,hH,hy,q⟩:=h
 cases rx
 have hus:=rv.zero
 subst hus
 obtain⟨z,its,n,r,hl,e⟩:=I.lstM hH
 obtain⟨u,hu,ru⟩:=r.get hy
 have hy':its.toArray[its.toArray.size-1]? =some u:=by
  show its.toArray[its.length-1]? =some u
  rw[<-lC,<-hl]
  exact hu
 refine nR F.slot_list_pop ⟨_,e,rfl⟩ F.entry_list_pop (F.args_list_pop_1 _) (MeetsSeq.list_pop_last l its.toArray n u hy' (by rw[aA];ac_nf)) ⟨e,?_⟩
 refine⟨y,_,I.lset (its':=its.dropLast) hH e ?_ r.dropLast ?_,ru,q⟩
 ·show its.toArray.eraseIdxIfInBounds (its.toArray.size-1)=its.dropLast.toArray
  rw[aA,List.eraseIdxIfInBounds_toArray,yj]
 ·rw[List.length_dropLast]
  ac_nf
noncomputable def Om:R2:=λx y H Q=>∃l k xs,x= .ref l/\y= .int k/\H l=some (.lst xs)/\-(2^63)<=k/\k<2^63/\xs.length*k.toNat<=aQ/\
 ∀p,H p=none->Q (.ref p) (upd H p (.lst (bJ k.toNat xs).flatten))
theorem Gc{α:Type}(xs:List α)(k:Nat):(bJ k xs).flatten.length=k*xs.length:=by
 induction k with
 |zero=>simp
 |succ k ih=>rw[dz,c8,aL,ih,Nat.succ_mul,gO]
theorem Jg:jl X (dO .Mult) Om:=by
 intro pins s σ H x y v u Q I rx ry h
 obtain⟨l,k,xs,rfl,rfl,hH,h1,h2,hz,q⟩:=h
 cases rx
 obtain⟨t,rfl⟩:=ry
 obtain⟨z,its,n,r,hl,e⟩:=I.lstM hH
 have hlen:its.toArray.size*k.toNat<=aQ:=by rw[aA,<-hl];exact hz
 have hcap:¬its.toArray.size*k.toNat>(2^63-1)/8:=by
  have:(aQ:Nat)<=(2^63-1)/8:=by decide
  ac_nf
 have hfit:¬(!cw.List.listFitsIndex k)=true:=by
  rw[fitsIndex_both h1 h2]
  exact bx
 have hlong:¬dB (its.toArray.size*k.toNat)=true:=by
  rw[rb hlen]
  exact bx
 have hnew:List.foldl (λx1 x2=>x1++x2) #[] (bJ (if its.toArray.isEmpty=true then 0 else k.toNat) its.toArray)=(bJ k.toNat its).flatten.toArray:=by
  have f0:∀m:Nat,List.foldl (λx1 x2=>x1++x2) #[] (bJ m its.toArray)=(bJ m its).flatten.toArray:=λm=>by
   have:=tG its m []
   rw[List.nil_append]at this
   exact this
  rw[f0]
  cases its with
  |nil=>simp
  |cons a r'=>rw[if_neg (by simp)]
 refine wpAny_binaryOp_repeat_ref (T:= "list") (U:= "int") (by decide) ⟨_,e,rfl⟩ (λs'=>typeIs_int s' k t) noFill_list_mul F.fills_int_mul F.slot_int_rmul repeat_list F.slot_int_index.lookup
  (nR F.slot_int_rmul (typeIs_int s k t) F.entry_int_rmul (F.args_int_rmul_2 _ _) (int___rmul___int_list k t l its.toArray n)
   ⟨e,rfl,⟨_,e,rfl⟩,nR F.slot_list_mul ⟨_,e,rfl⟩ F.entry_list_mul (F.args_list_mul_2 _ _) (AutoListH.list___mul___list_int_3 l its.toArray n k t hfit hcap hlong) ⟨e,?_⟩⟩)
 rw[hnew]
 exact⟨.ref _,_,I.lnew (t':=s.toks) (r.rep k.toNat) (by rw[Gc,Nat.mul_comm];exact hz),rfl,q _ I.fresh⟩
end
section
end
section
end
end L2
namespace Att
open PySem PySem.W PySem.Calls PyProof.Rows
theorem pU{P:Params}{h:Heap}:∀(ns:List Int) (vs:List ae),WellAll P h vs (ns.map WData.int)->IntsAre vs ns:=by
 intro ns
 induction ns with
 |nil=>
  intro vs w
  rw[iz]at w
  cases w
  exact .nil
 |cons n ns ih=>
  intro vs w
  rw[aw]at w
  cases w with
  |cons a b=>
   cases a
   exact .cons _ _ (ih _ b)
theorem Ao{l:OpenLaw}{n:Nat}(hn:l.most=some n){P:Params}{h:Heap}{args:List WData}{vals:List ae}
  (hpre:l.row.toRowW.claim.pre args=true) (hwl:WellAll P h vals args):
  ∃a vs ns,vals=[aH a]/\args=[WData.list (ns.map WData.int)]/\h.get? a=some {cls:= .type "list",data:= .seq vs.toArray}/\IntsAre vs ns/\ns.length<=n:=by
 have hsh:WShape.hasAll [] args [.list .int]=true:=(pre_splitW hpre).1
 have hc:l.pre.holds [] {args:=args}=true:=(pre_splitW hpre).2
 obtain⟨d,r,rfl,h1,h2⟩:=hasAllW_cons hsh
 obtain rfl:=hasAllW_nil h2
 obtain⟨xs,rfl,h3⟩:=hasW_list h1
 obtain⟨ns,rfl⟩:=items_int h3
 have hlen:ns.length<=n:=by
  unfold OpenLaw.pre at hc
  have h4:(WTm.not (.lt (.lit (.int (n:Int))) (.len (.arg 0)))).holds [] {args:=[.list (ns.map .int)]}=true:=by
   have h4:=(holds_andW hc).1
   rw[hn]at h4
   exact h4
  have h5:=condW_of h4 (w_not (w_lt w_lit (w_len_list (w_arg rfl))))
  rw[ai]at h5
  refine Nat.le_of_not_lt λq=> ?_
  have q':(n:Int)<((ns.length:Nat):Int):=by ac_nf
  first
   |(rw[decide_eq_true q']at h5;exact absurd h5 (by decide))
   |(simp at h5;ac_nf)
 cases hwl with
 |cons w1 w2=>
  cases w2
  cases w1 with
  |list ho hall=>exact⟨_,_,ns,rfl,rfl,ho,pU ns _ hall,hlen⟩
theorem Ar(l:OpenLaw)(args:List WData):l.row.toRowW.claim.post args (.bool true) args=true:=
 postW_of (r:=l.row.toRowW) (X:=(true==true))
  (show WShape.has [] (.bool true) .bool=true by first|rfl|decide|simp[WShape.has,WShape.arms,WShape.armsAll])
  (show(WTm.eq .res (.lit (.bool true))).value [] {args:=args,res:=some (.bool true),after:=args}=some (.bool (true==true))from w_eq_bool (w_res rfl) w_lit) rfl
theorem attach_call{l:OpenLaw}{n:Nat}{q:aK}{loose:List Str}{XP:(Str->Option ae)->Heap->Prop}{YP:aX->Heap->Prop}{d:DefRec}
  (hn:l.most=some n) (hdf:d.params.defaults=[])
  (call:∀(w:aX) (s₀ s₁:al) (mg mb:Str->Option ae) (fa:Addr) (o:Obj) (pm cd doc:ae) (a:Addr) (vs:List ae) (ns:List Int),
   Ground q loose [] XP w s₀ mg mb s₁.heap->YP w s₁.heap->
   s₁.heap.get? fa=some o->o.data= .func (docDef d.name d.params d.body d.scope pm cd doc)->s₁.heap.CodeRec cd d.name->mg d.name=some (.ref fa)->
   s₁.heap.get? a=some {cls:= .type "list",data:= .seq vs.toArray}->IntsAre vs ns->ns.length<=n->s₁.gens= #[]->
   codeAny (aT l.prog w) callerA (.call (.ref fa) ⟨[.ref a],[]⟩) (λr s'=>r= .ok (.ret (.bool true))/\OldK s₁.heap s'.heap/\s'.os=s₁.os/\lm s'.gens) s₁):
  WalkO q loose XP YP l.row.toRowW d [] (λf vs=>PySem.call f vs):=by
 intro w s₀ s₁ mg mb G Y fa o pm cd doc dV kV ho hd hcd hD hmg hg args vals as hpre hlay hrd hwl hlo
 obtain rfl:dV= .none:=Dflts.none hD hdf
 obtain rfl:kV= .none:=Dflts.noKw hD
 obtain⟨a,vs,ns,rfl,rfl,hobj,hints,hlen⟩:=Ao hn hpre hwl
 refine enter_call (codeAny_mono (call w s₀ s₁ mg mb fa o pm cd doc a vs ns G Y ho (fd_plain hd) hcd hmg hobj hints hlen hg) λr s' hq=> ?_)
 obtain⟨rfl,h2,h3,h4⟩:=hq
 exact⟨.inl ⟨.bool true,.bool true,[],rfl,λ_=>rfl,.bool true,Ar l _,λ_=>⟨List.Pairwise.nil,λ_ hm=>(nomatch hm)⟩⟩,h2,h3,h4⟩
section
end
end Att
namespace L2
open PySem PySem.Spec PyProof.Rows
theorem sE:∀{vs:List ae} {ns:List Int},IntsAre vs ns->Vals (ns.map V.int) vs
 |_,_,.nil=> .nil
 |_,_,.cons n t h=> .cons ⟨t,rfl⟩ (sE h)
noncomputable def Hm(H:Hp):Prop:=∀b,H b=none\/∃o xs,H b=some (.frz o (.lst xs))
theorem DB{P:aK}{w:aX}{K:PySem.W.Frag}{mg mb:Str->Option ae}{CX:Bi}{k:Nat}{fa a:Addr}{fd:a8}{x:Str}{sp:Sp}{s₁:al}{vs:List ae}{ns:List Int}
  (KX:K.In s₁.heap) (hns:s₁.heap.Ns cf mg) (hb:s₁.heap.Ns builtinsNs mb) (hbb:∀x:Str,x≠ "__name__" ->mb x=cu x) (hlim:s₁.heap.NoLimit) (hg:s₁.gens= #[])
  (ha:s₁.heap.get? a=some {cls:= .type "list",data:= .seq vs.toArray}) (hi:IntsAre vs ns) (hl:ns.length<=aQ) (hr:Room k callerA)
  (F:∀base:Heap,K.In base->base.Ns cf mg->FnOk P w K mg base CX k fa fd [x] sp) (hbind:∀(s:al) (u:ae),BindsTo s fd ⟨[u],[]⟩ [(x,u)])
  (hsp:∀H:Hp,Hm H->SqL K H a (ns.map V.int)->sp [.ref a] H (λv _=>v= .bl true) λ_ _ _=>False)
  (hCX:∀H e s',CX [] H s₁ (λ_ _ _=>False) e s'->False):
  codeAny (aT P w) callerA (.call (.ref fa) ⟨[.ref a],[]⟩) (λr s'=>r= .ok (.ret (.bool true))/\OldK s₁.heap s'.heap/\s'.os=s₁.os/\lm s'.gens) s₁:=by
 have rv:=sE hi
 have lenV:=hi.length
 -- from an abstract heap in which nothing but the script may be tracked
 have core:∀H:Hp,Hm H->SqL K H a (ns.map V.int)->HOk P w H s₁.heap->(∀b,H b≠none->b=a)->(H a≠none->K.lookup a=none)->
   codeAny (aT P w) callerA (.call (.ref fa) ⟨[.ref a],[]⟩) (λr s'=>r= .ok (.ret (.bool true))/\OldK s₁.heap s'.heap/\s'.os=s₁.os/\lm s'.gens) s₁:=by
  intro H hO hS hok hA hK
  have base_of:∀{b:Addr} {o:Obj},s₁.heap.get? b=some o->H b=none->(uT s₁.heap H).get? b=some o:=λe n=>DS e n
  have noA:∀{b:Addr} {o:Obj} {es:Array DictEntry} {ep:Nat},s₁.heap.get? b=some o->o.data= .dict es ep->H b=none:=fun{b o es ep} e d=>by
   cases q:H b with
   |none=>rfl
   |some u=>
    have e':b=a:=hA b (by rw[q];simp)
    subst e'
    rw[ha]at e;cases e
    have d':fc vs.toArray _=Data.dict es ep:=d
    cases d'
  have nsK:∀{b:Addr} {m:Str->Option ae},s₁.heap.Ns b m->(uT s₁.heap H).Ns b m:=fun{b m} ⟨o,es,ep,e,d,r⟩=>⟨o,es,ep,base_of e (noA e d),d,r⟩
  have hKb:K.In (uT s₁.heap H):=λb o e=>base_of (KX b o e) (by
   cases q:H b with
   |none=>rfl
   |some u=>
    have e':b=a:=hA b (by rw[q];simp)
    subst e'
    rw[hK (by rw[q];simp)]at e;cases e)
  have hM:Mod K mg (uT s₁.heap H):=⟨hKb,nsK hns,⟨mb,nsK hb,hbb⟩,let⟨mc,h1,h2⟩:=hlim;⟨mc,nsK h1,h2⟩⟩
  have e0:Env0 P w K mg (uT s₁.heap H) callerA [] s₁ H:=⟨rfl,hM,λb o e=>FS e,Nat.le_of_eq (A0 _ _),trivial,λb hb=>absurd (show b∈([]:List Addr)from hb) (by simp),hok,.of_eq hg⟩
  refine codeAny_mono ((F _ hKb (nsK hns)).run callerA [] s₁ H ⟨[.ref a],[]⟩ [.ref a] [.ref a] _ _ hr e0 (hbind s₁ (.ref a)) (.cons rfl .nil) (hsp H hO hS)) λr s' h=> ?_
  cases r with
  |error e=>exact(hCX H e s' h).elim
  |ok fl=>
   cases fl with
   |next=>exact bZ h
   |brk=>exact bZ h
   |cont=>exact bZ h
   |ret u=>
    obtain⟨v,H',os,bare,un,hok',r',q⟩:=h
    have q':v= .bl true:=q
    subst q'
    obtain rfl:u=fj true:=r'
    refine⟨rfl,OldK.of_keep λb o e=> ?_,os,bare⟩
    cases q:H b with
    |none=>exact un.keep b o e q (by intro z;exact absurd (show b∈([]:List Addr)from z) (by simp)) (by simp)
    |some u=>
     rcases hO b with z|⟨ob,xs,z⟩
     ·rw[q]at z;cases z
     ·have z2:=un.frzs b ob _ z
      obtain⟨e1,_⟩:=hok b _ z
      obtain⟨e2,_⟩:=hok' b _ z2
      rw[e]at e1;cases e1
      exact e2
 cases hk:K.lookup a with
 |some o=>
  -- the script is one of the module's own objects
  have e:=KX a o hk
  rw[ha]at e
  cases e
  refine core (λ_=>none) (λ_=> .inl rfl) (.inr ⟨_,vs.toArray,_,hk,rfl,rfl,rfl,by rw[aA,lenV];exact hl,by simpa using rv⟩) (λb u z=>by have z':(none:Option HO)=some u:=z;cases z') (λb z=>absurd rfl z) λz=>absurd rfl z
 |none=>
  refine core (λb=>if b=a then some (.frz {cls:= .type "list",data:= .seq vs.toArray} (.lst (ns.map V.int)))else none) (λb=> ?_) (.inl (.inr ⟨{cls:= .type "list",data:= .seq vs.toArray},if_pos rfl⟩)) (λb u z=> ?_) (λb z=> ?_) λ_=>hk
  ·by_cases hb:b=a
   ·exact .inr ⟨_,_,if_pos hb⟩
   ·exact .inl (if_neg hb)
  ·by_cases hb:b=a
   ·have z':=(if_pos hb).symm.trans z
    cases z'
    subst hb
    exact⟨ha,by rw[ai];exact hl,vs,_,rv,ha⟩
   ·have z':=(if_neg hb).symm.trans z
    cases z'
  ·by_cases hb:b=a
   ·exact hb
   ·exact absurd (if_neg hb) z
theorem walk_of{l:PySem.W.OpenLaw}{n k:Nat}{q:aK}{loose:List Str}{XP:(Str->Option ae)->Heap->Prop}{YP:aX->Heap->Prop}{d:DefRec}{K:Params->PySem.W.Frag}{CX:aX->Bi}{sp:aX->Sp}{x:Str}
  (hn:l.most=some n) (hn2:n<=aQ) (hdf:d.params.defaults=[]) (hr:Room k callerA)
  (hY:∀(w:aX) (h:Heap),YP w h->(K w.params).In h)
  (F:∀(w:aX) (mg:Str->Option ae) (fa:Addr) (h:Heap),(K w.params).In h->h.Ns cf mg->mg d.name=some (.ref fa)->
   ∃fd:a8,(∀(s:al) (u:ae),BindsTo s fd ⟨[u],[]⟩ [(x,u)])/\
    ∀base:Heap,(K w.params).In base->base.Ns cf mg->FnOk l.prog w (K w.params) mg base (CX w) k fa fd [x] (sp w))
  (hsp:∀(w:aX) (H:Hp) (a:Addr) (ns:List Int),ns.length<=n->Hm H->SqL (K w.params) H a (ns.map V.int)->sp w [.ref a] H (λv _=>v= .bl true) λ_ _ _=>False)
  (hCX:∀(w:aX) (H:Hp) (s:al) (e:ae) (s':al),CX w [] H s (λ_ _ _=>False) e s'->False):
  PySem.W.WalkO q loose XP YP l.row.toRowW d [] (λf vs=>PySem.call f vs):=by
 refine Att.attach_call hn hdf λw s₀ s₁ mg mb fa o pm cd doc a vs ns G Y ho hd hcd hmg hobj hints hlen hg=> ?_
 have KX:=hY w _ Y
 obtain⟨fd,hb,hF⟩:=F w mg fa _ KX G.T.g hmg
 exact DB KX G.T.g G.T.b G.T.builtins G.T.nolimit hg hobj hints (aP hlen hn2) hr hF hb (λH hO hS=>hsp w H a ns hlen hO hS) λH e s'=>hCX w H s₁ e s'
end L2
/-THE LAST THEOREM (shape;LID,My.*are yours):
  My.Adr:a structure of the addresses that your layer names (classes,functions);My.Txt K t:a structure (Prop) of the equations over K;
  My.txt_mk:{K} {implicit addresses ..} (e1:nsIn K cf "law" =some (some (.ref f))) (e2:K.lookup f=some ⟨oc,od,.func (fnOf "law" "law" params body scope dV kV doc pm an cdv ct),sl⟩) (e3:codeIn K cdv "law" =true) .. :∃t,My.Txt K t
set_option maxRecDepth 100000 in
theorem PySem.Challenge.cw_LID_holds : PySem.Challenge.rw_LID.Holds := by
 w_on;o_law;k_head;(case hw=>w_witness2)
 k_fill
 refine L2.walk_of (l:=PySem.Challenge.rw_LID) (n:=63) (k:=40) (x:= "script") (CX:=λw=> ..) (sp:=λ_=>My.sp_law) rfl (by decide) rfl ⟨rfl,by decide,by decide⟩ (λw h Y=>PySem.W.kIn_of Y) ?F ?S ?C
 case F=>
  intro w mg fa h KX G hmg
  have T:∃t,My.Txt (L2.KOf KX) t:=by
   dsimp only [L2.KOf]                          -- K must stand as «<heap const> w.params» for k_is
   refine' My.txt_mk ?e1 ?e2 ?e3 ..
   (case e1 => PySem.W.k_is)                    -- in the order: a name -> its address -> its object -> its parts
   (case e2=>PySem.W.k_is)
   ..
  obtain⟨t,T⟩:=T
  have e0:=hmg.symm.trans (PySem.W.mg_of KX G T.law)
  cases e0                                       -- fa is the law's own address
  exact ⟨_, λs u => .of_eq rfl, λbase kb nb => My.law_fn T kb nb⟩     -- if «.of_eq rfl» comes too early: refine' ⟨_, ?b, λbase kb nb => My.law_fn T kb nb⟩; exact λs u => .of_eq rfl
 case S=>exact λw H a ns hl hO hS=> ..
 case C=>exact ..
(the tactic k_is has no namespace:write k_is)-/
namespace L2
open PySem PySem.Spec PyProof.Rows
noncomputable def eX(s:Stmt)(j:Nat):Stmt:=match s with
 | .ClassDef _ _ _ body _ _ _ _ _ _ _=>body.getD j (.Pass ⟨0,0,0,0⟩)
 |_=> .Pass ⟨0,0,0,0⟩
noncomputable def lj(s:Stmt):Arguments:=match s with
 | .FunctionDef _ a _ _ _ _ _ _ _ _=>a
 |_=>{posonlyargs:=[],args:=[],vararg:=none,kwonlyargs:=[],kw_defaults:=[],kwarg:=none,defaults:=[]}
noncomputable def iU(s:Stmt):List Stmt:=match s with
 | .FunctionDef _ _ b _ _ _ _ _ _ _=>b
 |_=>[]
noncomputable def aN(s:Stmt):eL:=match s with
 | .FunctionDef _ _ _ _ _ _ sc _ _ _=>sc
 |_=>{kind:= .function,names:=[],isGenerator:=false,isCoroutine:=false}
noncomputable abbrev Hn:Bi:=λ_ _ _ _ _ _=>False
noncomputable abbrev E0:XK:=λ_ _ _=>False
theorem zw{X:Cx}:mw Hn X E0:=λ_ _ _ _ _ _ _ h=>h.elim
structure Fun(K:PySem.W.Frag)(x qual:Str)(st:Stmt)(f:Addr)(fd:a8):Prop where
 ex:∃(oc:ae) (od:Option Addr) (kV doc pm:ae) (an:Option Addr) (cdv ct:ae) (osl:Array (Option ae)),
  fd=PySem.W.fnOf x qual (lj st) (iU st) (aN st) .none kV doc pm an cdv ct/\K.lookup f=some ⟨oc,od,.func fd,osl⟩/\PySem.W.codeIn K cdv qual=true
 kp:PySem.W.keepIn K (.ref f)=true
section
variable{P:aK}{w:aX}{K:PySem.W.Frag}{mg:Str->Option ae}{base:Heap}
theorem Fun.ok{x qual:Str}{st:Stmt}{f:Addr}{fd:a8}{N ps:List Str}{k:Nat}{sp:Sp}(F:Fun K x qual st f fd)(S:bv N ps (aN st))(len:∀vs H Q E,sp vs H Q E->vs.length=ps.length)
  (hbody:∀(cdv:ae) (A:Around) (outer:List Env) (s:al) (H:Hp) (vs:List V) (Q:VK) (E:XK),Room k (A.deeper (envOfC qual (aN st) s.heap.objs.size f cdv))->sp vs H Q E->
   ∃t,PSs (wO Hn P w K mg base N qual (aN st) f cdv A outer s H E).nox (iU st) t/\t {nx:=λ_ H'=>Q .non H',rt:=Q} (start N vs) H):FnOk P w K mg base Hn (k+1) f fd ps sp:=by
 obtain⟨oc,od,kV,doc,pm,an,cdv,ct,osl,rfl,lk,hcd⟩:=F.ex
 refine Nd lk hcd S len λA outer s H vs Q E hr hsp=> ?_
 obtain⟨t,h,q⟩:=hbody cdv A outer s H vs Q E hr hsp
 exact⟨t,h.nox,q⟩
theorem Fun.binds{x qual:Str}{st:Stmt}{f:Addr}{fd:a8}{ps:List Str}(F:Fun K x qual st f fd)
  (h:∀(kV doc pm:ae) (an:Option Addr) (cdv ct:ae) (us:List ae),us.length=ps.length->bindArgs (PySem.W.fnOf x qual (lj st) (iU st) (aN st) .none kV doc pm an cdv ct) ⟨us,[]⟩=pure (ps.zip us)):Binds K fd ps []:=by
 obtain⟨oc,od,kV,doc,pm,an,cdv,ct,osl,rfl,lk,hcd⟩:=F.ex
 exact .all (h kV doc pm an cdv ct)
theorem DW{x qual:Str}{st:Stmt}{f:Addr}{oc:ae}{od an:Option Addr}{osl:Array (Option ae)}{kV doc pm cdv ct:ae}(l:K.lookup f=some ⟨oc,od,.func (PySem.W.fnOf x qual (lj st) (iU st) (aN st) .none kV doc pm an cdv ct),osl⟩)
  (c:PySem.W.codeIn K cdv qual=true) (k:PySem.W.keepIn K (.ref f)=true):Fun K x qual st f (PySem.W.fnOf x qual (lj st) (iU st) (aN st) .none kV doc pm an cdv ct):=⟨⟨oc,od,kV,doc,pm,an,cdv,ct,osl,rfl,l,c⟩,k⟩
end
section
end
theorem uQ{A B:Prop}(h:B):if false=true then A else B:=by
 rw[if_neg bx]
 exact h
theorem uP{A B:Prop}(h:A):if true=true then A else B:=by
 rw[if_pos rfl]
 exact h
theorem nO{prog:aK}{w:aX}{A:Around}{R:Result->al->Prop}{s:al}{elt target iter:Expr}{ifs:List Expr}{scope:eL}{pos:Pos}{it acc:ae}{env:Env}{N:ae->al->Prop}
  (hN:N=notedBy (aT prog w) A env λe s'=>R (.error e) s') (J:Nat->al->Prop)
  (turn:∀n s,J n s->wpAny (aT prog w) A (pyNext it) (λr s₁=>match r with
   |none=>R (.ok .next) s₁
   |some v=>wpAny (aT prog w) A (jQ target it v) (λ_ s₀=>wpAny (aT prog w) A (assign target env v) (λ_ s₂=>
     wpAny (aT prog w) A (forIn ifs true λc r=>if r=true then do let ok <-isTrue c env (eval c env);pure (gE ok)else pure (gE r)) (λok s₃=>
      if ok=true then wpAny (aT prog w) A (eval elt env) (λx s₄=>
       wpAny (aT prog w) A (call (.builtin "list.append") [acc,x]) (λ_ s₅=>∃m,m<n/\J m s₅) N s₄) N s₃
      else∃m,m<n/\J m s₃) N s₂) N s₀) N s₁) N s)
  (n:Nat) (h:J n s):
  codeAny (aT prog w) A (.compLoop (.ListComp elt [⟨target,iter,ifs,0⟩] scope pos) 0 it acc env) R s:=by
 refine codeAny_loop rfl J (λn s hI=> ?_) n h
 show wpAny _ A ((compTurn (.ListComp elt [⟨target,iter,ifs,0⟩] scope pos) 0 it acc env).onRaise (λx=>do noteFrame x env;theTreesLotGoes x)) _ _ s
 refine wpAny_noted ?_
 rw[compTurn_list]
 subst hN
 refine aa (wpAny_standAt (aa (bu (turn n s hI) (λr s₁ h₁=> ?_) λ_ _ h'=>h')))
 cases r with
 |none=>exact ao h₁
 |some v=>
  refine aa (bu h₁ (λ_ s₀ h₀=> ?_) λ_ _ h'=>h')
  refine aa (bu h₀ (λ_ s₂ h₂=>aa (bu h₂ (λok s₃ h₃=> ?_) λ_ _ h'=>h')) λ_ _ h'=>h')
  cases ok with
  |false=>exact ao ⟨rfl,h₃⟩
  |true=>
   exact aa (aa (bu h₃ (λx s₄ h₄=>aa (bu h₄ (λ_ s₅ h₅=>ao (ao ⟨rfl,h₅⟩)) λ_ _ h'=>h')) λ_ _ h'=>h'))
noncomputable def ly(cells:List (Str×Addr)):List (Str×eA)->List (Str×Addr)->List (Str×Addr)
 |[],acc=>acc
 |(n,k)::r,acc=>ly cells r (if k= .free then(n,(cells.lookup n).getD 0)::acc else acc)
theorem mq{env:Env}:∀(names:List (Str×eA)) (acc:List (Str×Addr)),(∀y∈names,y.2= .free->∃c,env.cells.lookup y.1=some c)->
  (forIn names acc (fun(y:Str×eA) (cs:List (Str×Addr))=>if(y.2== .free)=true then(do let c <-cellOf env y.1;pure (gE ((y.1,c)::cs)))else pure (gE cs)):Sem (List (Str×Addr)))=pure (ly env.cells names acc)
 |[],acc,_=>rfl
 |(n,k)::r,acc,h=>by
  rw[lB]
  have hr:∀y∈r,y.2= .free->∃c,env.cells.lookup y.1=some c:=λy hy=>h y (cX _ hy)
  by_cases hk:k= .free
  ·subst hk
   obtain⟨c,hc⟩:=h (n,.free) hZ rfl
   have e:cellOf env n=pure c:=by unfold cellOf;rw[hc]
   simp only[beq_self_eq_true,if_true,e,pure_bind]
   rw[mq r _ hr]
   show _=pure (ly env.cells r _)
   rw[if_pos rfl,hc]
   rfl
  ·have hb:(k==jJ)=false:=by simpa using hk
   simp only[hb,pK,if_false,pure_bind]
   rw[mq r _ hr]
   show _=pure (ly env.cells r _)
   rw[if_neg hk]
theorem jG{scope:eL}{env:Env}(h:∀y∈scope.names,y.2= .free->∃c,env.cells.lookup y.1=some c):closureFor scope env=pure (ly env.cells scope.names []):=by
 have q:=mq scope.names [] h
 unfold closureFor
 simp only[bind_pure]
 exact q
theorem wR{cells:List (Str×Addr)}:∀(names:List (Str×eA)) (acc:List (Str×Addr)) (y:Str) (c:Addr),(∀z∈names,z.2= .free->∃c,cells.lookup z.1=some c)->(∀c,acc.lookup y=some c->cells.lookup y=some c)->(ly cells names acc).lookup y=some c->cells.lookup y=some c
 |[],acc,y,c,_,ha,h=>ha c h
 |(n,k)::r,acc,y,c,hn,ha,h=>by
  refine wR r _ y c (λz hz=>hn z (cX _ hz)) (λc' hc'=> ?_) h
  by_cases hk:k= .free
  ·rw[if_pos hk]at hc'
   obtain⟨c0,e0⟩:=hn (n,k) hZ hk
   rw[fG]at hc'
   cases hx:y==n with
   |true=>
    have hy:y=n:=by simpa using hx
    subst hy
    rw[hx]at hc'
    have e0':cells.lookup y=some c0:=e0
    simp only[e0',Option.getD_some]at hc'
    rw[e0',hc']
   |false=>rw[hx]at hc';exact ha c' hc'
  ·rw[if_neg hk]at hc'
   exact ha c' hc'
theorem tM{cells:List (Str×Addr)}:∀(names:List (Str×eA)) (acc:List (Str×Addr)) (y:Str),(∃c,acc.lookup y=some c)->∃c,(ly cells names acc).lookup y=some c
 |[],acc,y,h=>h
 |(n,k)::r,acc,y,h=>by
  refine tM r _ y ?_
  by_cases hk:k= .free
  ·rw[if_pos hk,fG]
   cases hx:y==n with
   |true=>exact⟨_,rfl⟩
   |false=>exact h
  ·rw[if_neg hk];exact h
theorem rT{cells:List (Str×Addr)}:∀(names:List (Str×eA)) (acc:List (Str×Addr)) (y:Str),(y,jJ)∈names->∃c,(ly cells names acc).lookup y=some c
 |[],acc,y,h=>by simp at h
 |(n,k)::r,acc,y,h=>by
  rcases aI.mp h with e|e
  ·have e1:n=y:=(Prod.mk.inj e).1.symm
   have e2:k= .free:=(Prod.mk.inj e).2.symm
   subst e1;subst e2
   refine tM r _ n ?_
   rw[if_pos rfl,fG]
   simp
  ·exact rT r _ y e
structure iq(sc:eL)(N:List Str)(scope:eL)(M:List Str)(ix:List (Option Nat))(j:Nat)(x:Str):Prop where
 kind:scope.kind= .function
 names:∀y∈scope.names,y.2= .local->scope.names.lookup y.1=some .local
 nocell:∀y∈scope.names,y.2≠ .cell
 nd:M.Nodup
 tgt:M[j]? =some x
 loc:scope.names.lookup x=some .local
 own:ix[j]? =some none
 len:ix.length=M.length
 free:∀y∈scope.names,y.2= .free->sc.names.lookup y.1=some .cell\/sc.names.lookup y.1=some .free
 capt:∀(k:Nat) (y:Str) (i:Nat),M[k]? =some y->ix[k]? =some (some i)->N[i]? =some y/\(sc.names.lookup y=some .cell\/sc.names.lookup y=some .free)/\scope.names.lookup y=some .free
noncomputable def kT(ix:List (Option Nat))(σ:St):St:=ix.map λo=>match o with
 |some i=>(σ[i]?).getD none
 |none=>none
noncomputable def bY(X:Cx)(M:List Str)(scope:eL)(C:Addr)(s:al)(H:Hp)(fp:List Addr):Cx where
 prog:=X.prog
 w:=X.w
 K:=X.K
 mg:=X.mg
 base:=X.base
 A:=X.A
 N:=M
 s₀:=s
 H₀:=H
 env:=compEnvC scope (ly X.env.cells scope.names []) C X.env
 outer:=X.stack
 stack:=X.stack
 ex:=fp
 fn:=λ_=>false
 calm:=X.calm
 pn:=[]
 xe:=λ_ _=>False
noncomputable def PF(X:Cx)(ifs:List Expr)(t:TT):Prop:=
 ∀(pins:List (Addr×Obj)) (s:al) (σ:St) (H:Hp) (Q:Bool->Hp->Prop),Inv X pins σ H s->t σ H Q->
  wpAny (aT X.prog X.w) X.A (forIn ifs true λc r=>if r=true then do let ok <-isTrue c X.env (eval c X.env);pure (gE ok)else pure (gE r)) (TP X pins σ Q) X.xe s
noncomputable def NY:TT:=λ_ H Q=>Q true H
theorem IT{X:Cx}:PF X [] NY:=λ_ _ _ H _ I h=>wpAny_tests_nil ⟨H,I,h⟩
theorem IS{X:Cx}{c:Expr}{t:TT}(h:PT X c t):PF X [c] t:=λpins s σ H Q I q=>wpAny_tests_one (h pins s σ H Q I q)
noncomputable def xa(env:Env)(p:Str×eA):Str×eA:=if(p.2==jJ&&env.scope.kind== .function&&env.kindOf p.1==some .cell)then(p.1,eA.cell)else(p.1,p.2)
theorem xI(scope:eL)(env:Env):(relabel scope env).names=scope.names.map (xa env):=rfl
theorem E4(env:Env)(p:Str×eA):(xa env p).1=p.1:=by unfold xa;split<;>rfl
theorem lZ{env:Env}:∀(names:List (Str×eA)) (x:Str),(names.map (xa env)).lookup x=((names.lookup x).map λk=>(xa env (x,k)).2)
 |[],x=>rfl
 |(n,k)::r,x=>by
  have ih:=lZ (env:=env) r x
  have e1:=E4 env (n,k)
  rw[aw]
  rw[show xa env (n,k)=((xa env (n,k)).1,(xa env (n,k)).2)from rfl,e1,fG,fG]
  cases hx:x==n with
  |true=>
   have:x=n:=by simpa using hx
   subst this
   rfl
  |false=>exact ih
theorem Cp{env:Env}{x:Str}{k:eA}(h:(xa env (x,k)).2= .cell\/(xa env (x,k)).2= .free)(hk:k≠ .cell):k= .free:=by
 unfold xa at h
 split at h
 ·rename_i hc
  have:=(Bj.mp (Bj.mp hc).1).1
  simpa using this
 ·rcases h with h|h
  ·exact absurd h hk
  ·exact h
theorem v7{env:Env}{x:Str}:(xa env (x,.free)).2= .cell\/(xa env (x,.free)).2= .free:=by
 unfold xa
 split
 ·exact .inl rfl
 ·exact .inr rfl
theorem rh{env:Env}{names:List (Str×eA)}{x:Str}(h:(names.map (xa env)).lookup x=some .cell\/(names.map (xa env)).lookup x=some .free)(hc:∀y∈names,y.2≠ .cell):(x,jJ)∈names:=by
 rw[lZ]at h
 cases q:names.lookup x with
 |none=>rw[q]at h;simp at h
 |some k=>
  rw[q]at h
  have hm:=PySem.mem_of_lookup q
  have hk:k≠ .cell:=hc _ hm
  have e:k= .free:=Cp (env:=env) (x:=x) (by rcases h with h|h;exact .inl (bc h);exact .inr (bc h)) hk
  rw[e]at hm
  exact hm
theorem vh{ix:List (Option Nat)}{j:Nat}(h:ix[j]? =some none)(σ:St):(kT ix σ)[j]? =some none:=by
 unfold kT
 rw[aC,h]
 rfl
noncomputable def EC(J:It)(ix:List (Option Nat))(j:Nat)(σ:St)(tf:TT)(te:TE)(Q:VK)(H1:Hp)(acc:Addr):Prop:=∃W:Nat->Nat->Hp->Prop,(∃m,W 0 m (upd H1 acc (.lst [])))/\∀i m H',W i m H'->
 (J.stop i H'/\Q (.ref acc) H')\/(J.go i H'/\∀x H2,J.yld i H' x H2->tf ((kT ix σ).set j (some x)) H2 λb H3=>
  if b=true then te ((kT ix σ).set j (some x)) H3 λy H4=>∃ys,H4 acc=some (.lst ys)/\ys.length<aQ/\∃m',m'<m/\W (i+1) m' (upd H4 acc (.lst (ys++[y])))
  else∃m',m'<m/\W (i+1) m' H3)
noncomputable def BS(wi:TI)(ix:List (Option Nat))(j:Nat)(tf:TT)(te:TE):TE:=λσ H Q=>wi σ H λJ H1=>∀acc,H1 acc=none->EC J ix j σ tf te Q H1 acc
section
variable{X:Cx}{scope:eL}{M:List Str}{ix:List (Option Nat)}{j:Nat}{x:Str}
theorem ml{pins:List (Addr×Obj)}{σ:St}{H:Hp}{s:al}{fp:List Addr}{h1:Heap}(S:iq X.env.scope X.N scope M ix j x)(I:Inv X pins σ H s)
  (hf:∀b∈fp,pZ X pins H b) (hft:∀b∈fp,b<s.heap.objs.size) (old:∀b o,s.heap.get? b=some o->h1.get? b=some o)
  (hD:h1.get? s.heap.objs.size=some {cls:= .type "list",data:= .seq ([]:List ae).toArray 0}) (hns:h1.Ns (s.heap.objs.size+1) λ_=>none):
  Inv (bY X M scope (s.heap.objs.size+1) s H fp) [] (kT ix σ) (upd H s.heap.objs.size (.lst [])) {s with heap:=h1}:=by
 have frees:∀y∈scope.names,y.2= .free->∃c,X.env.cells.lookup y.1=some c:=λy hy e=>I.ok.has y.1 (S.free y hy e)
 have clin:∀y c,(ly X.env.cells scope.names []).lookup y=some c->X.env.cells.lookup y=some c:=λy c h=>wR scope.names [] y c frees (λc hc=>by simp at hc) h
 have hfr:H s.heap.objs.size=none:=I.hok.fresh (am _)
 have hclt:∀y c,(ly X.env.cells scope.names []).lookup y=some c->c<s.heap.objs.size:=λy c h=>by
  obtain⟨v,q⟩:=I.cell y c (clin y c h)
  exact q.lt
 refine⟨⟨I.ok.mod,S.kind,I.ok.glob,I.ok.blt,gB _,λy z c e1 e2=>I.ok.inj y z c (clin y c e1) (clin z c e2),λy hy=> ?_,λy c e _=>absurd (show false=true from e) (by simp),I.ok.hd,I.ok.frames,.inl rfl,
   λb hb=>⟨aS (dj (hft b hb)),λy c e=>(hf b hb).2.2.2.2.1 y c (clin y c e)⟩,I.bs,aP I.ok.bsz I.sz,λb o e hb=> ?_,λb hb z=> ?_,I.stack,I.stkFree⟩,
  rfl,I.bare,Un.laid old (am _) hfr,⟨λ_=>none,hns,λk y v e1 e2 e3=> ?_⟩,λy c e=> ?_,?_,λy c e=> ?_,λp hp=>absurd (show p∈([]:List (Addr×Obj))from hp) (by simp),?_,?_⟩
 ·exact rT scope.names [] y (rh (env:=X.env) hy S.nocell)
 ·rcases(hf b hb).2.2.2.1 with z|z
  ·exact I.ok.noex b o e z
  ·exact absurd (bz (aF e) (aP I.ok.bsz z)) (dP _)
 ·exact(aI.mp (I.stkSub b z)).elim (hf b hb).2.1 (hf b hb).2.2.1
 · -- a captured name
  have hix:∃i,ix[k]? =some (some i)/\σ[i]? =some (some v):=by
   unfold kT at e2
   rw[aC]at e2
   cases q:ix[k]? with
   |none=>rw[q]at e2;cases e2
   |some o=>
    cases o with
    |none=>rw[q]at e2;cases e2
    |some i=>
     rw[q]at e2
     refine⟨i,rfl,?_⟩
     have e2':some ((σ[i]?).getD none)=some (some v):=e2
     have e3':=bc e2'
     cases q2:σ[i]? with
     |none=>rw[q2]at e3';cases e3'
     |some z=>rw[q2]at e3';exact congrArg some e3'
  obtain⟨i,hi,hv⟩:=hix
  obtain⟨c1,c2,c3⟩:=S.capt k y i e1 hi
  obtain⟨m,hn,hl⟩:=I.loc
  obtain⟨u,r,l⟩:=hl i y v c1 hv (.inr c2)
  refine⟨u,r,?_⟩
  rcases l with⟨l,_⟩|⟨_,c,hc,hcell⟩
  ·exfalso
   have l':X.env.scope.names.lookup y=some .local:=l
   rcases c2 with c2|c2<;>(rw[l']at c2;cases c2)
  ·have hmem:(y,jJ)∈scope.names:=PySem.mem_of_lookup c3
   obtain⟨c',hc'⟩:=rT (cells:=X.env.cells) scope.names [] y hmem
   have ecc:c'=c:=bc ((clin y c' hc').symm.trans hc)
   subst ecc
   have hk:(relabel scope X.env).names.lookup y=some .cell\/(relabel scope X.env).names.lookup y=some .free:=by
    rw[xI,lZ,c3]
    rcases v7 (env:=X.env) (x:=y)with z|z
    ·exact .inl (congrArg some z)
    ·exact .inr (congrArg some z)
   obtain⟨oc,ho,hd⟩:=hcell
   exact .inr ⟨hk,c',hc',oc,old c' oc ho,hd⟩
 ·obtain⟨v,oc,ho,hd⟩:=I.cell y c (clin y c e)
  exact⟨v,oc,old c oc ho,hd⟩
 ·show upd H s.heap.objs.size (.lst []) (s.heap.objs.size+1)=none
  rw[bH (Nat.succ_ne_self _)]
  exact I.hok.fresh (gB _)
 ·show upd H s.heap.objs.size (.lst []) c=none
  rw[bH (aS (hclt y c e))]
  exact I.freeC y c (clin y c e)
 ·exact I.hok.laid old (am _) ⟨bn _,[],0,.nil,hD⟩
 ·show(kT ix σ).length=M.length
  unfold kT
  rw[ai,S.len]
theorem rR{pins:List (Addr×Obj)}{σ σ':St}{H H':Hp}{s s':al}{fp:List Addr}{C:Addr}(I:Inv X pins σ H s)(hC:s.heap.objs.size<=C)(hf:∀b∈fp,pZ X pins H b)
  (I':Inv (bY X M scope C s H fp) [] σ' H' s') {h':Heap} (hb:e8 C s'.heap h'):Inv X pins σ H' {s' with heap:=h'}:=by
 have ne:∀b o,s.heap.get? b=some o->b≠C:=λb o e=>aS (bz (aF e) hC)
 have k:∀b o,b≠C->s'.heap.get? b=some o->h'.get? b=some o:=λb o hn e=>hb.extBut b o hn e
 have u:Un (xc X.stack) fp H H' s.heap s'.heap:=I'.base
 have hHC:H' C=none:=I'.free
 have u2:Un (xc X.stack) fp H H' s.heap h':=by
  refine⟨λb o e n h1 h2=>k b o (ne b o e) (u.keep b o e n h1 h2),λb o e n h1 h2=> ?_,λb o e n h1=>u.free b o e n h1,λb o e h1=> ?_,u.tups,u.frzs,u.tbls⟩
  ·obtain⟨sl,q⟩:=u.slot b o e n h1 h2
   exact⟨sl,k b _ (ne b o e) q⟩
  ·obtain⟨o',q⟩:=u.there b o e h1
   exact⟨o',k b o' (ne b o e) q⟩
 have hok:HOk X.prog X.w H' h':=λb o e=>(I'.hok b o e).stay (λc v hc q=>k c v (λz=>by
  subst z
  rcases hc with z|z
  ·rw[<-z,hHC]at e;cases e
  ·rw[hHC]at z;cases z) q) (λ_ q=>q) λ_ _ q=>q
 exact I.call' (s':={s' with heap:=h'}) I'.os u2 hok I'.bare λb hb=>⟨(hf b hb).2.2.2.1,(hf b hb).2.1,(hf b hb).2.2.2.2.1,(hf b hb).2.2.2.2.2⟩
theorem B4{c:St}{j:Nat}{v:V}(h:c[j]? =some none):∀(i:Nat) (z:V),c[i]? =some (some z)->(c.set j (some v))[i]? =some (some z):=λi z e=>by
 by_cases hij:j=i
 ·subst hij;rw[h]at e;cases e
 ·rw[cY hij];exact e
theorem rS{elt iter:Expr}{px:Pos}{ifs:List Expr}{pos:Pos}{tf:TT}{te:TE}{pins:List (Addr×Obj)}{σ:St}{H:Hp}{s:al}{fp:List Addr}{it:Addr}{tn:Nat->Heap->Prop}{J:It}{h1:Heap}{tk:Nat}{Q:VK}{R:Result->al->Prop}
  (S:iq X.env.scope X.N scope M ix j x) (hc:X.calm=true) (I:Inv X pins σ H s)
  (hF:PF (bY X M scope (s.heap.objs.size+1) s H fp) ifs tf) (hE:PE (bY X M scope (s.heap.objs.size+1) s H fp) elt te)
  (T:sv X.prog X.w X.K (.Name x px) J fp it tn) (st:tn 0 s.heap) (hf:∀b∈fp,pZ X pins H b)
  (I0:Inv (bY X M scope (s.heap.objs.size+1) s H fp) [] (kT ix σ) (upd H s.heap.objs.size (.lst [])) {s with heap:=h1,toks:=tk}) (old:∀b o,s.heap.get? b=some o->h1.get? b=some o)
  (q:EC J ix j σ tf te Q H s.heap.objs.size)
  (hR:∀H' s',Inv (bY X M scope (s.heap.objs.size+1) s H fp) [] (kT ix σ) H' s'->Q (.ref s.heap.objs.size) H'->R (.ok .next) s'):
  codeAny (aT X.prog X.w) X.A (.compLoop (.ListComp elt [⟨.Name x px,iter,ifs,0⟩] scope pos) 0 (.ref it) (.ref s.heap.objs.size) (compEnvC scope (ly X.env.cells scope.names []) (s.heap.objs.size+1) X.env)) R {s with heap:=h1,toks:=tk}:=by
 obtain⟨W,⟨m0,w0⟩,turn⟩:=q
 have hD:s.heap.objs.size∉fp:=λz=>by
  obtain⟨o,e,_⟩:=T.obj 0 s.heap st _ z
  exact absurd (aF e) (dP _)
 have hlt:∀b∈fp,b<s.heap.objs.size:=λb hb=>by
  obtain⟨o,e,_⟩:=T.obj 0 s.heap st b hb
  exact aF e
 have stat:∀{H':Hp},(∀b∈fp,H' b=none)->∀b∈fp,pZ (bY X M scope (s.heap.objs.size+1) s H fp) [] H' b:=λhn b hb=>
  ⟨hn b hb,aS (dj (hlt b hb)),I0.ok.exfs b hb,.inl hb,(I0.ok.exf b hb).2,λp hp=>absurd (show p∈([]:List (Addr×Obj))from hp) (by simp)⟩
 have own:=vh S.own σ
 refine nO rfl (λn s'=>∃i H',Inv (bY X M scope (s.heap.objs.size+1) s H fp) [] (kT ix σ) H' s'/\tn i s'.heap/\(∀b∈fp,H' b=none)/\W i n H') ?_ m0
  ⟨0,_,I0,T.keep 0 _ _ st λb _ o e=>old b o e,λb hb=>by rw[bH (aS (hlt b hb))];exact(hf b hb).1,w0⟩
 rintro n s3 ⟨i,H3,I3,st3,fr3,w3⟩
 rcases turn i n H3 w3 with⟨stop,qn⟩|⟨go,step⟩
 ·refine bu (T.done (bY X M scope (s.heap.objs.size+1) s H fp) rfl rfl rfl hc i [] s3 (kT ix σ) H3 (λ_ _=>False) I3 (stat fr3) st3 stop) (λr s4 hPl=> ?_) (λ_ _ z=>z.elim)
  obtain⟨hr,I4⟩:=hPl
  subst hr
  exact hR H3 s4 I4 qn
 ·refine bu (T.item (bY X M scope (s.heap.objs.size+1) s H fp) rfl rfl rfl hc i [] s3 (kT ix σ) H3 (λ_ _=>False) I3 (stat fr3) st3 go) (λr s4 hPl=> ?_) (λ_ _ z=>z.elim)
  obtain⟨u,hr,h4⟩:=hPl
  subst hr
  refine bu h4 (λ_ s5 hPl=> ?_) (λ_ _ z=>z.elim)
  obtain⟨y,H5,I5,r5,y5,st5,fr5⟩:=hPl
  have I5':=I5.pinned (stat fr5) (T.obj _ _ st5)
  have pg:PG (bY X M scope (s.heap.objs.size+1) s H fp) (.Name x px) (rJ j):=
   iw S.nd S.tgt (.inl (by show(relabel scope X.env).names.lookup x=some .local;exact fD S.loc)) (.inr (by show(relabel scope X.env).names.lookup x=some .local;exact fD S.loc))
  refine bu (pg _ s5 (kT ix σ) H5 y u (λσ2 H2=>σ2=(kT ix σ).set j (some y)/\H2=H5) I5' r5 ⟨rfl,rfl⟩) (λ_ s6 hPl=> ?_) (λ_ _ z=>z.elim)
  obtain⟨σ6,H6,I6,e6,eh6⟩:=hPl
  subst e6;subst eh6
  have again:∀{H7:Hp} {s7:al},Inv (bY X M scope (s.heap.objs.size+1) s H fp) ([]++oN fp s5.heap) ((kT ix σ).set j (some y)) H7 s7->(∃m',m'<n/\W (i+1) m' H7)->
    ∃m,m<n/\∃i H',Inv (bY X M scope (s.heap.objs.size+1) s H fp) [] (kT ix σ) H' s7/\tn i s7.heap/\(∀b∈fp,H' b=none)/\W i m H':=fun{H7 s7} I7 ⟨m',hm,w7⟩=>by
   have Iw:Inv (bY X M scope (s.heap.objs.size+1) s H fp) [] (kT ix σ) H7 s7:=(Inv.unpinned (pins:=[]) I7).weak (by simp) (B4 own)
   refine⟨m',hm,i+1,H7,Iw,T.keep _ _ _ st5 λb hb o e=>(I7.pin (b,o) (bd _ (bd _ (ij hb e)))).1,λb hb=> ?_,w7⟩
   obtain⟨o,e,d⟩:=T.obj _ _ st5 b hb
   exact(I7.pin (b,o) (bd _ (bd _ (ij hb e)))).2.1
  refine bu (hF _ s6 _ _ _ I6 (step y _ y5)) (λb s7 hPl=> ?_) (λ_ _ z=>z.elim)
  obtain⟨H7,I7,q7⟩:=hPl
  cases b with
  |false=>
   simp only[pK,if_false]at q7⊢
   exact again I7 q7
  |true=>
   simp only[if_true]at q7⊢
   refine bu (hE _ s7 _ H7 _ I7 q7) (λv s8 hPl=> ?_) (λ_ _ z=>z.elim)
   obtain⟨z,H8,I8,r8,ys,hy,hz,q8⟩:=hPl
   refine bu (oS (X:=bY X M scope (s.heap.objs.size+1) s H fp) _ s8 _ H8 (.ref s.heap.objs.size) [z] (.ref s.heap.objs.size) [v] (λ_ H'=>H'=upd H8 s.heap.objs.size (.lst (ys++[z]))) I8 rfl (.cons r8 .nil) ⟨s.heap.objs.size,ys,z,rfl,rfl,hy,hz,rfl⟩) (λw s9 hPl=> ?_) (λ_ _ z=>z.elim)
   obtain⟨_,H9,I9,_,e9⟩:=hPl
   subst e9
   exact again I9 q8
theorem Fw{elt iter:Expr}{px:Pos}{ifs:List Expr}{pos:Pos}{wi:TI}{tf:TT}{te:TE}(S:iq X.env.scope X.N scope M ix j x)(hc:X.calm=true)(hi:PI X (.Name x px) iter wi)
  (hb:∀C s H fp,PF (bY X M scope C s H fp) ifs tf/\PE (bY X M scope C s H fp) elt te) (hs:∀x,dY iter X.env x=pure x:=by intro _;rfl):
  PE X (.ListComp elt [⟨.Name x px,iter,ifs,0⟩] scope pos) (BS wi ix j tf te):=by
 intro pins s σ H Q I h
 rw[eval_ListComp]
 refine lq (use:=none) rfl hs (jG λy hy e=>I.ok.has y.1 (S.free y hy e)) S.kind S.names (bu (hi pins s σ H _ I h) (λxv s₁ h₁=>bu h₁ (λit s₂ h₂=> ?_) λ_ _ e=>e) λ_ _ e=>e)
 obtain⟨it,fp,tn,J,H2,rfl,I2,T,st2,f2,q⟩:=h₂
 refine bG (pM S.nocell (by intro y hy;simp at hy) (λh₁ hns₁ hsb₁=> ?_) S.kind)
 dsimp only at hns₁ hsb₁⊢
 have hC:(s₂.heap.push {cls:= .type "list",dict:=none,data:= .seq ([]:List ae).toArray}).objs.size=s₂.heap.objs.size+1:=cU ..
 rw[hC]at hns₁ hsb₁⊢
 have below:∀b,b<s₂.heap.objs.size->b≠s₂.heap.objs.size+1:=λb hb=>aS (dj hb)
 have old:∀b o,s₂.heap.get? b=some o->h₁.get? b=some o:=λb o e=>hsb₁.extBut b o (below b (aF e)) (aj _ (aj _ e))
 have hD:h₁.get? s₂.heap.objs.size=some {cls:= .type "list",data:= .seq ([]:List ae).toArray 0}:=hsb₁.extBut _ _ (aS (fL _)) (aj _ (aJ _ rfl))
 have ns:h₁.Ns (s₂.heap.objs.size+1) λ_=>none:=hns₁
 have hft:∀b∈fp,b<s₂.heap.objs.size:=λb hb=>by
  obtain⟨o,e,_⟩:=T.obj 0 s₂.heap st2 b hb
  exact aF e
 have I0:=(ml (h1:=h₁) S I2 f2 hft old hD ns).tok s₂.toks
 have hfr:H2 s₂.heap.objs.size=none:=I2.hok.fresh (am _)
 have loop:codeAny (aT X.prog X.w) X.A (.compLoop (.ListComp elt [⟨.Name x px,iter,ifs,0⟩] scope pos) 0 (.ref it) (.ref s₂.heap.objs.size) (compEnvC scope (ly X.env.cells scope.names []) (s₂.heap.objs.size+1) X.env))
   (compPost (aT X.prog X.w) X.A X.xe none (EP X pins σ Q) (.ref s₂.heap.objs.size) (s₂.heap.objs.size+1)) {s₂ with heap:=h₁,toks:=s₂.toks}:=by
  refine rS (Q:=Q) S hc I2 (hb _ _ _ _).1 (hb _ _ _ _).2 T st2 f2 I0 old (q _ hfr) λH' s' I' qq=> ?_
  obtain⟨m,hn,_⟩:=I'.loc
  exact⟨m,hn,λh' hb'=>⟨.ref s₂.heap.objs.size,H',rR I2 (gB _) f2 I' hb',rfl,qq⟩⟩
 exact nQ loop (T.self _ 0 _ _ _ (T.keep 0 _ _ st2 λb _ o e=>old b o e) loop)
end
section
variable{X:Cx}
noncomputable def NU(z:Str):It:=⟨λi _=>i<z.cps.size,λi H x H'=>H'=H/\∃c,z.cps[i]? =some c/\x= .str ⟨#[c]⟩,λi _=>z.cps.size<=i⟩
theorem vz{P:aK}{w:aX}{K:PySem.W.Frag}{x:Str}{px:Pos}(it:Addr)(z:Str)(t:Tok)(ty:String)(hty:ty= "str_ascii_iterator" \/ty= "str_iterator"):
  sv P w K (.Name x px) (NU z) [it] it (λi h=>h.IsStrIter it ty z t i/\i<=z.cps.size) where
 mem:=by simp
 obj:=λi h st b hb=>by
  have e:b=it:=by simpa using hb
  subst e
  obtain⟨⟨o,e,c,d⟩,_⟩:=st
  exact⟨o,e,λv z=>by rw[d]at z;cases z⟩
 keep:=λi h h' st k=>by
  obtain⟨⟨o,e,c,d⟩,z⟩:=st
  exact⟨⟨o,k it (by simp) o e,c,d⟩,z⟩
 item:=by
  intro X hP hw hK hc i pins s σ H E I hf st hg
  subst hP hw hK
  obtain⟨f0,f1,f2,f3,f4,f5⟩:=hf it (by simp)
  have hi:i<z.cps.size:=hg
  have fin:∀h':Heap,h'.IsStrIter it ty z t (i+1)->e8 it s.heap h'->∃u,some (jx ⟨#[z.cps[i]]⟩ s.toks)=some u/\
    wpAny (aT X.prog X.w) X.A (jQ (.Name x px) (.ref it) u) (λ_ s2=>∃x H',Inv X pins σ H' s2/\RelV x u/\(NU z).yld i H x H'/\(s2.heap.IsStrIter it ty z t (i+1)/\i+1<=z.cps.size)/\∀b∈[it],H' b=none) E {s with heap:=h',toks:=s.toks+1}:=λh' st' sb=>by
   have I1:Inv X pins σ H {s with heap:=h',toks:=s.toks+1}:=I.turned (λb o hb e=>sb.extBut b o hb e) f0 f1 f3 f4 f5
   exact⟨_,rfl,ao ⟨.str ⟨#[z.cps[i]]⟩,H,I1,⟨_,rfl⟩,⟨rfl,_,by simp[hi],rfl⟩,⟨st',hi⟩,λb hb=>(hf b hb).1⟩⟩
  rcases hty with rfl|rfl
  ·exact wpAny_pyNext_ascii_item st.1 (c:=z.cps[i]) (by simp[hi]) fin
  ·exact wpAny_pyNext_wide_item st.1 (c:=z.cps[i]) (by simp[hi]) fin
 done:=by
  intro X hP hw hK hc i pins s σ H E I hf st hg
  subst hP hw hK
  obtain⟨f0,f1,f2,f3,f4,f5⟩:=hf it (by simp)
  have hi:z.cps.size<=i:=hg
  rcases hty with rfl|rfl
  ·exact wpAny_pyNext_ascii_end (I.ok.hd hc) st.1 (by simpa using hi) λh' eb=>⟨rfl,I.turned (t':=s.toks) (λb o hb e=>eb b o hb e) f0 f1 f3 f4 f5⟩
  ·exact wpAny_pyNext_wide_end (I.ok.hd hc) st.1 (by simpa using hi) λh' eb=>⟨rfl,I.turned (t':=s.toks) (λb o hb e=>eb b o hb e) f0 f1 f3 f4 f5⟩
 self:=λ_ _ _ _ _ st h=>by
  rcases hty with rfl|rfl
  ·exact wpAny_pyIter_striter_ascii st.1 h
  ·exact wpAny_pyIter_striter_wide st.1 h
noncomputable def Oj:V->Option Int->Option Int->Hp->VK->Prop:=λx lo hi H Q=>∃z,x= .str z/\z.length<=aQ/\Q (.str (Txt.slice z lo hi)) H
theorem Iu:KY X Oj:=by
 intro pins s σ H x v vl vu lo hi sl Q I rx hs pl pu h
 obtain⟨z,rfl,hz,q⟩:=h
 obtain⟨t,rfl⟩:=rx
 obtain⟨l,el1,el2⟩:∃l:Option (Int×Tok),vl=partValue l/\l.map (·.1)=lo:=by
  cases pl with
  |none=>exact⟨none,rfl,rfl⟩
  |int i u=>exact⟨some (i,u),rfl,rfl⟩
 obtain⟨u,eu1,eu2⟩:∃u:Option (Int×Tok),vu=partValue u/\u.map (·.1)=hi:=by
  cases pu with
  |none=>exact⟨none,rfl,rfl⟩
  |int i u=>exact⟨some (i,u),rfl,rfl⟩
 subst el1 eu1 el2 eu2
 refine⟨"str",_,F.slot_str_getitem.lookup,typeIs_str _ _ _,?_⟩
 refine wpAny_getItem_str_slice (l:=l) (u:=u) (st:=none) hs rfl ?_
 exact post_val_or_str ⟨aP (Txt.slice_le z _ _) hz,λt' k=>⟨.str (Txt.slice z (l.map (·.1)) (u.map (·.1))),H,I.tok k,⟨_,rfl⟩,q⟩⟩
theorem qM:∀{ys:List Str} {us:List ae},Vals (ys.map V.str) us->StrsAre us ys
 |[],us,h=>by
  cases us with
  |nil=>exact .nil
  |cons _ _=>cases h
 |y::ys,us,h=>by
  cases us with
  |nil=>cases h
  |cons u us=>
   cases h with
   |cons r t=>
    obtain⟨k,rfl⟩:=(show∃k,u=jx y k from r)
    exact .cons y k (qM t)
noncomputable def LD(K:PySem.W.Frag):V->List V->Hp->VK->Prop:=λx vs H Q=>∃z p ys,x= .str z/\vs=[.ref p]/\SqL K H p (ys.map V.str)/\(ys.map (·.length)).sum+ys.length*z.length<=16777216/\Q (.str (g9 z ys)) H
theorem FX:Ez X "str.join" (LD X.K):=by
 intro pins s σ H x xs v us Q I rx rs h
 obtain⟨z,p,ys,rfl,rfl,hq,hz,q⟩:=h
 obtain⟨t,rfl⟩:=rx
 obtain⟨u,rfl,ru⟩:=rs.one
 cases ru
 obtain⟨its,r,pl,_⟩:=I.list hq
 exact join_list pl.isList (by simpa using qM r) hz λt' k=>⟨.str (g9 z ys),H,I.tok k,⟨_,rfl⟩,q⟩
noncomputable def LG(K:PySem.W.Frag):R2:=λx y H Q=>∃l b xs zs,x= .ref l/\y= .ref b/\SqL K H l xs/\SqL K H b zs/\xs.length+zs.length<=aQ/\∀p,H p=none->Q (.ref p) (upd H p (.lst (xs++zs)))
theorem zx:jl X (dO .Add) (LG X.K):=by
 intro pins s σ H x y v u Q I rx ry h
 obtain⟨l,b,xs,zs,rfl,rfl,hH,hB,hz,q⟩:=h
 cases rx
 cases ry
 obtain⟨its,r,pl,_⟩:=I.list hH
 obtain⟨its2,r2,pl2,_⟩:=I.list hB
 have l1:=r.length
 have l2:=r2.length
 obtain⟨⟨cls,dd,data,sl⟩,n,ho,hc,hd0,hd⟩:=pl
 obtain⟨⟨cls2,dd2,data2,Bf⟩,n2,ho2,hc2,hd02,hd2⟩:=pl2
 simp only at hc hd hc2 hd2
 subst hc hd hc2 hd2
 refine concat_meets ⟨_,ho,rfl⟩ ⟨_,ho2,rfl⟩ noFill_list_add seq_list_add PySem.F.slot_list_add PySem.F.entry_list_add (PySem.F.args_list_add_2 _ _)
  (list_addW l b its.toArray its2.toArray n n2 dd dd2 sl Bf (by rw[aA,aA];ac_nf)) ⟨ho,ho2,?_⟩
 have ea:its.toArray++its2.toArray=(its++its2).toArray:=by simp
 rw[ea]
 exact⟨.ref _,_,I.lnew (t':=s.toks) (r.append r2) (by rw[aL];ac_nf),rfl,q _ I.fresh⟩
noncomputable def Ia(i j:Int):Prop:=0<j/\j<=10^30
theorem C5:jl X (dO .FloorDiv) (rI Ia λi j=> .int (i/j)):=NF λi j _ _ _ _ _ hc q=>by
 have h0:j≠0:=by have:=hc.1;ac_nf
 refine floordiv_int h0 ?_ (.inl (PyProof.noPylong_of_log2 ?_))
 ·rw[Int.fdiv_eq_ediv_of_nonneg _ (Int.le_of_lt hc.1)];exact q
 ·have h1:j.natAbs≠0:=by ac_nf
  have h2:j.natAbs<2^100:=by
   have h3:=hc.2
   have h4:=hc.1
   have e:(10:Int)^30<2^100:=by decide
   have h5:((j.natAbs:Nat):Int)=j:=by ac_nf
   ac_nf
  have:=(Nat.log2_lt h1).mpr h2
  ac_nf
end
section
variable{P:aK}{w:aX}{H:Hp}{h h':Heap}{a:Addr}{o:HO}
theorem ObjOk.stands(x:ObjOk P w H h a o):∃u,h.get? a=some u:=by
 cases o with
 |lst xs=>obtain⟨_,_,_,_,e⟩:=x;exact⟨_,e⟩
 |tup xs=>obtain⟨_,_,_,p⟩:=x;obtain⟨u,e,_⟩:=p;exact⟨u,e⟩
 |dK kvs=>obtain⟨_,_,_,_,u,_,_,e,_⟩:=x;exact⟨u,e⟩
 |dT kvs=>obtain⟨_,_,_,_,u,_,_,e,_⟩:=x;exact⟨u,e⟩
 |set S n=>obtain⟨u,_,_,_,e,_⟩:=x;exact⟨u,e⟩
 |ins C dx fs=>obtain⟨_,_,_,e,_⟩:=x;exact⟨_,e⟩
 |own y=>exact x
 |xd fs=>obtain⟨_,⟨u,_,_,e,_⟩,_⟩:=x;exact⟨u,e⟩
 |rng lo hi=>obtain⟨_,_,_,e⟩:=x;exact⟨_,e⟩
 |frz ob u=>obtain⟨e,_⟩:=x;exact⟨ob,e⟩
 |tbl ps=>exact⟨_,x⟩
 |met f y=>exact⟨_,x⟩
 |ext φ=>exact x.2.1
theorem HOk.none_of(x:HOk P w H h)(e:h.get? a=none):H a=none:=by
 cases q:H a with
 |none=>rfl
 |some u=>
  obtain⟨o,z⟩:=(x a u q).stands
  rw[e]at z;cases z
theorem HOk.laidN(x:HOk P w H h)(k:∀b u,h.get? b=some u->h'.get? b=some u)(hn:H a=none)(new:ObjOk P w (upd H a o) h' a o):HOk P w (upd H a o) h':=λb u e=>by
 by_cases hb:b=a
 ·subst hb;rw[cG]at e;cases e;exact new
 ·rw[bH hb]at e
  exact(x b u e).stay (λc v _ q=>k c v q) (λc q=>by rw[bH (cM q hn)];exact q) λc xs q=>by rw[bH (cM q hn)];exact q
theorem Un.laidN{fs ex:List Addr}(k:∀b u,h.get? b=some u->h'.get? b=some u)(hp:h.get? a=none)(hn:H a=none):Un fs ex H (upd H a o) h h' where
 keep:=λb u q _ _ _=>k b u q
 slot:=λb u q _ _ _=>⟨u.slots,k b u q⟩
 free:=λb u q n _=>by rw[bH (λz=>by subst z;rw[hp]at q;cases q)];exact n
 there:=λb u q _=>⟨u,k b u q⟩
 tups:=λb xs q=>by rw[bH (cM q hn)];exact q
 frzs:=λb u xs q=>by rw[bH (cM q hn)];exact q
 tbls:=λb ps q=>⟨#[],by rw[bH (cM q hn),q];simp⟩
end
section
variable{X:Cx}
noncomputable def KU(e C:Addr)(h:Heap):Prop:=∃ob,h.get? e=some ob/\ob.cls= .ref C
noncomputable def Nf(e C:Addr):HO:= .ext (KU e C)
theorem qw{M:Model}{e C:Addr}{h:Heap}(p:KU e C h):PySem.W.Looks M h (typeOf (.ref e)) (.ref C):=by
 obtain⟨ob,h1,h2⟩:=p
 exact h2▸(PySem.W.Looks.ld h1).andThen .now
open Builtin Builtin.ObjectAttr Builtin.Getset_descriptor in
theorem Hh{K:PySem.W.Frag}{prog:aK}{w:aX}{A:Around}{R:Result->al->Prop}{s:al}{e C:Addr}{tp:ae}(XK:K.In s.heap)(p:KU e C s.heap)(hm:PySem.W.mroIn K C (.type "object")=some true)
  (z:R (.ok (.ret (.ref C))) s):codeAny (aT prog w) A (.call (.builtin "getset_descriptor.__get__") ⟨[.builtin "object.__class__",.ref e,tp],[]⟩) R s:=by
 obtain⟨h0,g0,d0,t0,o0⟩:=s
 have T0:=qw (M:=aT prog w) p
 have T1:=PySem.W.looks_mroIn (M:=aT prog w) XK hm
 refine codeAny_call_builtin PySem.W.KF.slot_gs.plain PySem.W.KF.entry_gs (PySem.W.KF.slot_gs.check _ _ _ _ _ _ _ _ PySem.W.KF.type_class (PySem.W.KF.args_gs _ _ _) ?_)
 unfold cw.«getset_descriptor.__get__»
 unfold descrGet
 rw[PySem.W.dga_obj]
 refine aa (ao ?_)
 unfold descrGetter;unfold descrCheckInstance
 unfold descrNameAndClass;unfold isInstance
 simp only[PySem.W.KF.owner_class]
 repeat lk
 refine⟨Code.quiet_builtin _ (by decide+kernel),codeAny_builtin PySem.W.KF.entry_class ?_⟩
 unfold cw.«object.__class__»;unfold shownTypeOf
 repeat lk
 exact z
theorem A3{K:PySem.W.Frag}{prog:aK}{w:aX}{A:Around}{E:ae->al->Prop}{Q:Option ae->al->Prop}{s:al}{e C:Addr}
  (pg:PySem.W.findIn K (.ref C) "__getattribute__" =some (some (.builtin "BaseException.__getattribute__"))) (pt:PySem.W.findIn K (.ref C) "__getattr__" =some none)
  (hf:∀M:Model,PySem.W.Looks M s.heap (cw.ObjectAttr.find (.ref e) (.ref C) "__class__") (.bind (.builtin "getset_descriptor.__get__") (.builtin "object.__class__")))
  (hm:PySem.W.mroIn K C (.type "object")=some true) (hb:PySem.W.mroIn K C (.type "BaseException")=some true)
  (XK:K.In s.heap) (p:KU e C s.heap) (k:Q (some (.ref C)) {s with toks:=s.toks+1}):wpAny (aT prog w) A (getAttr? (.ref e) "__class__") Q E s:=by
 obtain⟨h,g,d,t,os⟩:=s
 have L0:=qw (M:=aT prog w) p
 have L1:=PySem.W.looks_findIn (M:=aT prog w) XK pg
 have L2:=PySem.W.looks_findIn (M:=aT prog w) XK pt
 have L3:=hf (aT prog w)
 have L4:=PySem.W.looks_mroIn (M:=aT prog w) XK hb
 have hx2:(kh "BaseException.__getattribute__" ==kh "object.__getattribute__")=false:=by decide+kernel
 have f3:=F.excAttr_ValueError.ga.bind (.ref e)
 unfold getAttr? getAttrBy? getAttrBy
 refine aa (wpAny_mkText (aa (lr (cJ (aa (L0.at (aa (L1.at ?_))))))))
 show wpAny _ _ (if(onTheHeap (.ref C)&&kh "BaseException.__getattribute__" ==kh "object.__getattribute__")=true then _ else _) _ _ _
 rw[hx2,mF,if_neg bx]
 unfold getAttrByItsOwn
 refine aa ?_
 show wpAny _ _ (typeLookup (.ref C) "__getattr__") _ _ _
 refine L2.at ?_
 refine aa (lr (cJ ?_))
 show wpAny _ _ (boundAndCalled _ _ _) _ _ _
 unfold boundAndCalled
 rw[f3]
 refine aa (ao ?_)
 refine wpAny_call (codeAny_call_builtin F.excAttr_ValueError.ga.plain F.entry_bexc_ga ?_)
 have hk:builtinKind "BaseException.__getattribute__" =some .slot:=by decide+kernel
 have hsplit:splitId "BaseException.__getattribute__" =some ("BaseException", "__getattribute__"):=by decide+kernel
 have ha:=F.args_bexc_ga (.ref e) (.str "__class__" t)
 simp only[checkBuiltinCall,hk,hsplit]
 refine aa ?_
 unfold isInstance
 refine aa (L0.at (L4.at ?_))
 rw[if_neg (by decide)]
 refine wpAny_of_eq ha ?_
 show wpAny _ _ (cw.«object.__getattribute__» ⟨[.ref e,.str "__class__" t],[]⟩) _ _ _
 unfold cw.«object.__getattribute__»
 refine aa (wpAny_of_eq (a:=(aH e,[jx "__class__" t])) rfl ?_)
 refine aa (ao ?_)
 refine aa (L0.at (aa (L3.at ?_)))
 show wpAny _ _ (holding [kh "object.__class__"] (call (.builtin "getset_descriptor.__get__") [.builtin "object.__class__",.ref e,.ref C])>>=ret) _ _ _
 refine aa (cJ (wpAny_call (Hh XK p hm ?_)))
 exact ao (PySem.W.handed_on rfl (ao k))
structure Bc(K:PySem.W.Frag)(C:Addr):Prop where
 pg:PySem.W.findIn K (.ref C) "__getattribute__" =some (some (.builtin "BaseException.__getattribute__"))
 pt:PySem.W.findIn K (.ref C) "__getattr__" =some none
 hb:PySem.W.mroIn K C (.type "BaseException")=some true
 ci:(PySem.W.clsIn K C).isSome=true
 ha:PySem.W.findIn K (.ref C) "__class__" =some (some (.builtin "object.__class__"))
 hn:PySem.W.specialIn K (.builtin "object.__class__") "__get__" =some (some (.builtin "getset_descriptor.__get__"))
 htk:PySem.W.takesIn K (.builtin "object.__class__")=some true
 hm:PySem.W.mroIn K C (.type "object")=some true
theorem wu{K:PySem.W.Frag}{e C:Addr}(Z:Bc K C):PySem.W.KitX K (.ref e) (.ref C) (KU e C) where
 ty:=λ_ _ _ p=>qw p
 it:=λ_ _ XK _=>by
  obtain⟨cd,hc⟩:=jZ.mp Z.ci
  unfold PySem.W.clsIn at hc
  split at hc
  ·rename_i ho
   intro A' Q' E' s' k q
   unfold isType loadHead
   exact aa (wpAny_loadPart (k _ _ (XK _ _ ho)) (ao q))
  ·cases hc
 ne:=λh tp dd its n sl XK htp=>by
  obtain⟨cd,hc⟩:=jZ.mp Z.ci
  refine Bool.eq_false_iff.mpr λq=> ?_
  have ee:C=tp:=aH.inj (beq_iff_eq.mp q)
  subst ee
  unfold PySem.W.clsIn at hc
  split at hc
  ·rename_i ho
   have z:=(XK _ _ ho).symm.trans htp
   cases z
  ·cases hc
 ca:=fun{prog w A E Q s} XK p k=>A3 Z.pg Z.pt (λM=>(PySem.W.looks_findIn XK Z.ha).andThen ((PySem.W.looks_specialIn XK Z.hn).andThen ((show PySem.W.Looks M s.heap (cw.ObjectAttr.dataDescriptor? (some (.builtin "object.__class__")) (some (.builtin "getset_descriptor.__get__"))) (some (_,_))from(PySem.W.looks_takesIn XK Z.htk).andThen .now).andThen (PySem.W.Looks.tag .now)))) Z.hm Z.hb XK p k
noncomputable def Ld:V->Option ae
 | .ref a=>some (.ref a)
 | .ty n=>some (.type n)
 |_=>none
theorem nU:hV X (.builtin "isinstance") (λxs H Q=>∃e C c cv b,xs=[.ref e,c]/\H e=some (Nf e C)/\Bc X.K C/\Ld c=some cv/\PySem.W.kitOne X.K (.ref C) cv=some b/\Q (.bl b) H):=by
 intro pins s σ H xs us Q I rs h
 obtain⟨e,C,c,cv,b,rfl,he,Z,hv,hk,q⟩:=h
 obtain⟨u,v,rfl,ru,rv⟩:=rs.two
 cases ru
 have ev:v=cv:=by
  cases c<;>first
   |(cases hv;exact rv)
   |(exact absurd hv (by simp[Ld]))
 subst ev
 have p:KU e C s.heap:=(I.hok e _ he).1
 exact PySem.W.kia_one (wu Z) I.kIn p hk (λz=>nomatch z) λtk=>⟨.bl b,H,I.tok tk,rfl,q⟩
end
noncomputable def dE(sc:eL)(N:List Str)(scope:eL)(M:List Str)(ix:List (Option Nat))(j:Nat)(x:Str):Bool:=
 scope.kind== .function
 &&scope.names.all (λy=>if y.2== .local then scope.names.lookup y.1==some .local else true)
 &&scope.names.all (λy=>y.2 != .cell)
 &&decide M.Nodup
 &&M[j]? ==some x
 &&scope.names.lookup x==some .local
 &&ix[j]? ==some none
 &&ix.length==M.length
 &&scope.names.all (λy=>if y.2== .free then(sc.names.lookup y.1==some .cell||sc.names.lookup y.1==some .free)else true)
 &&(bE M.length).all (λk=>match M[k]?,ix[k]? with
  |some y,some (some i)=>N[i]? ==some y&&(sc.names.lookup y==some .cell||sc.names.lookup y==some .free)&&scope.names.lookup y==some .free
  |_,_=>true)
theorem Ef{sc:eL}{N:List Str}{scope:eL}{M:List Str}{ix:List (Option Nat)}{j:Nat}{x:Str}(h:dE sc N scope M ix j x=true):iq sc N scope M ix j x:=by
 unfold dE at h
 simp only[bC]at h
 obtain⟨⟨⟨⟨⟨⟨⟨⟨⟨h1,h2⟩,h3⟩,h4⟩,h5⟩,h6⟩,h7⟩,h8⟩,h9⟩,h10⟩:=h
 refine⟨beq_iff_eq.mp h1,λy hy e=> ?_,λy hy e=> ?_,of_decide_eq_true h4,beq_iff_eq.mp h5,beq_iff_eq.mp h6,beq_iff_eq.mp h7,beq_iff_eq.mp h8,λy hy e=> ?_,λk y i e1 e2=> ?_⟩
 ·have q:=aU.mp h2 y hy
  rw[e]at q
  exact beq_iff_eq.mp q
 ·have q:=aU.mp h3 y hy
  rw[e]at q
  cases q
 ·have q:=aU.mp h9 y hy
  rw[e]at q
  rcases Bool.or_eq_true_iff.mp q with z|z
  ·exact .inl (beq_iff_eq.mp z)
  ·exact .inr (beq_iff_eq.mp z)
 ·have hk:k<M.length:=(aq.mp e1).1
  have q:=aU.mp h10 k (cS.mpr hk)
  rw[e1,e2]at q
  simp only[bC,Bool.or_eq_true]at q
  obtain⟨⟨q1,q2⟩,q3⟩:=q
  refine⟨beq_iff_eq.mp q1,?_,beq_iff_eq.mp q3⟩
  rcases q2 with z|z
  ·exact .inl (beq_iff_eq.mp z)
  ·exact .inr (beq_iff_eq.mp z)
section
end
section
variable{X:Cx}{scope:eL}{M:List Str}{ix:List (Option Nat)}{j:Nat}{x:Str}
theorem Fd{elt iter:Expr}{px py pos spos:Pos}{ifs:List Expr}{wi:TI}{tf:TT}{te:TE}{i:Nat}{y:Str}(hN:X.N.Nodup)(hi:X.N[i]? =some y)(hy:X.env.scope.names.lookup y=some .local)
  (S:iq X.env.scope X.N scope M ix j x) (hc:X.calm=true) (hit:PI X (.Name x px) iter wi)
  (hb:∀C s H fp,PF (bY X M scope C s H fp) ifs tf/\PE (bY X M scope C s H fp) elt te)
  (hsw:jh (.ListComp elt [⟨.Name x px,iter,ifs,0⟩] scope pos) (some (.Name y py)) spos.line X.env=pure true:=by rfl) (hs:∀x,dY iter X.env x=pure x:=by intro _;rfl):
  PS X (.Assign [.Name y py] (.ListComp elt [⟨.Name x px,iter,ifs,0⟩] scope pos) spos) (Im (BS wi ix j tf te) (rJ i)):=by
 intro pins s σ H D I h
 rw[exec_Assign_Name_used _ _ _ _ hsw]
 refine aa (wpAny_standAt (aa ?_))
 show wpAny _ X.A (do let _ <-comprehension (.ListComp elt [⟨.Name x px,iter,ifs,0⟩] scope pos) scope X.env _ (newList []) false (eval iter X.env) (some (assign (.Name y py) X.env))) _ _ s
 refine aa (bu (lq (use:=some (assign (.Name y py) X.env)) (Q:=λ_ s'=>SP X pins D .next s') rfl hs (jG λy hy e=>I.ok.has y.1 (S.free y hy e)) S.kind S.names
  (bu (hit pins s σ H _ I h) (λxv s₁ h₁=>bu h₁ (λit s₂ h₂=> ?_) λ_ _ e=>e) λ_ _ e=>e)) (λ_ s' hq=>ao (ao hq)) λ_ _ e=>e)
 obtain⟨it,fp,tn,J,H2,rfl,I2,T,st2,f2,q⟩:=h₂
 refine bG (pM S.nocell (by intro y hy;simp at hy) (λh₁ hns₁ hsb₁=> ?_) S.kind)
 dsimp only at hns₁ hsb₁⊢
 have hC:(s₂.heap.push {cls:= .type "list",dict:=none,data:= .seq ([]:List ae).toArray}).objs.size=s₂.heap.objs.size+1:=cU ..
 rw[hC]at hns₁ hsb₁⊢
 have below:∀b,b<s₂.heap.objs.size->b≠s₂.heap.objs.size+1:=λb hb=>aS (dj hb)
 have old:∀b o,s₂.heap.get? b=some o->h₁.get? b=some o:=λb o e=>hsb₁.extBut b o (below b (aF e)) (aj _ (aj _ e))
 have hD:h₁.get? s₂.heap.objs.size=some {cls:= .type "list",data:= .seq ([]:List ae).toArray 0}:=hsb₁.extBut _ _ (aS (fL _)) (aj _ (aJ _ rfl))
 have hft:∀b∈fp,b<s₂.heap.objs.size:=λb hb=>by
  obtain⟨o,e,_⟩:=T.obj 0 s₂.heap st2 b hb
  exact aF e
 have I0:=(ml (h1:=h₁) S I2 f2 hft old hD hns₁).tok s₂.toks
 have hfr:H2 s₂.heap.objs.size=none:=I2.hok.fresh (am _)
 have loop:codeAny (aT X.prog X.w) X.A (.compLoop (.ListComp elt [⟨.Name x px,iter,ifs,0⟩] scope pos) 0 (.ref it) (.ref s₂.heap.objs.size) (compEnvC scope (ly X.env.cells scope.names []) (s₂.heap.objs.size+1) X.env))
   (compPost (aT X.prog X.w) X.A X.xe (some (assign (.Name y py) X.env)) (λ_ s'=>SP X pins D .next s') (.ref s₂.heap.objs.size) (s₂.heap.objs.size+1)) {s₂ with heap:=h₁,toks:=s₂.toks}:=by
  refine rS (Q:=λv H'=>rJ i v σ H' D.nx) S hc I2 (hb _ _ _ _).1 (hb _ _ _ _).2 T st2 f2 I0 old (q _ hfr) λH' s' I' qq=> ?_
  show wpAny _ X.A (assign (.Name y py) X.env (.ref s₂.heap.objs.size)) _ _ s'
  have J1:Inv X pins σ H' s':=rR (h':=s'.heap) I2 (gB _) f2 I' (.refl ..)
  obtain⟨m,hn,_⟩:=I'.loc
  obtain⟨oC,es,ep,hoC,hd,hrest⟩:=id hn
  have nL:s₂.heap.objs.size+1≠X.env.locals:=iM (dj I2.lt)
  have nF:s₂.heap.objs.size+1∉X.fs:=I2.nofs (gB _)
  have hHC:H' (s₂.heap.objs.size+1)=none:=I'.free
  have J2:Inv X (pins++[(s₂.heap.objs.size+1,oC)]) σ H' s':=J1.pins_of λp hp=>(aZ.mp hp).elim (λz=>J1.pin p (bd _ z)) λz=>by
   have e:p=(s₂.heap.objs.size+1,oC):=au.mp z
   subst e
   exact⟨hoC,hHC,nL,nF,λv z=>by rw[hd]at z;cases z⟩
  refine wpAny_assign_Name (qN (v:= .ref s₂.heap.objs.size) J2 hN hi (.inl hy) rfl (λs'' J3=> ?_) (.inr hy))
  have hoC2:s''.heap.get? (s₂.heap.objs.size+1)=some oC:=(J3.pin (s₂.heap.objs.size+1,oC) (bd _ (bd _ (au.mpr rfl)))).1
  refine⟨m,⟨oC,es,ep,hoC2,hd,hrest⟩,λh' hb'=> ?_⟩
  have J4:Inv X pins (σ.set i (some (.ref s₂.heap.objs.size))) H' s'':=J3.unpinned
  refine⟨_,H',J4.turned (t':=s''.toks) (it:=s₂.heap.objs.size+1) (λb o hne e=>hb'.extBut b o hne e) hHC nL (.inr (aP I2.sz (gB _))) (λz c e1 e2=> ?_) (λp hp e2=> ?_),qq⟩
  ·obtain⟨v,qc⟩:=I2.cell z c e1
   have:=qc.lt
   rw[e2]at this
   exact absurd (Nat.lt_of_succ_lt this) (dP _)
  ·have:=aF (I2.pin p hp).1
   rw[e2]at this
   exact absurd (Nat.lt_of_succ_lt this) (dP _)
 exact nQ loop (T.self _ 0 _ _ _ (T.keep 0 _ _ st2 λb _ o e=>old b o e) loop)
end
end L2
namespace HT
open PySem PyProof.Rows
section
variable{prog:aK}{w:aX}{A:Around}{E:ae->al->Prop}{s:al}
theorem yt(n:Nat):dX none none (-1) (n:Int)=((n:Int)-1,-1):=rfl
theorem xJ(n:Nat):bX ((n:Int)-1) (-1) (-1)=n:=by
 unfold bX
 rw[if_neg (by decide)]
 by_cases h:((n:Int)-1> -1)
 ·rw[if_pos h,show(-(-1:Int))=1 from rfl,Int.ediv_one]
  ac_nf
 ·rw[if_neg h]
  ac_nf
theorem oG{sl:Addr}{t:Tok}{n:Nat}{Q:Int×Int×Nat->al->Prop}(hs:s.heap.IsSliceOf sl .none .none (.int (-1) t))(h:Q ((n:Int)-1,-1,n) s):
  wpAny (aT prog w) A (fS (.ref sl) (pure (n:Int))) Q E s:=by
 obtain⟨os,hos,hcs,hds⟩:=id hs
 unfold fS pJ
 refine aa (aa (bS hos hds (x:= .none) rfl (aa (bS hos hds (x:= .none) rfl (aa (bS hos hds (x:= .int (-1) t) rfl (ao ?_)))))))
 refine aa (i7 (.int (-1) t) ?_)
 show wpAny _ _ (if((-1:Int)==0)=true then _ else _) _ _ s
 rw[if_neg (by decide)]
 refine aa (i7 .none (aa (i7 .none (aa (ao ?_)))))
 show wpAny _ _ (match dX none none (-1) (n:Int)with|(lo,hi)=>pure (lo,(-1:Int),bX lo hi (-1))) _ _ s
 rw[yt n]
 show wpAny _ _ (pure ((n:Int)-1,(-1:Int),bX ((n:Int)-1) (-1) (-1))) _ _ s
 rw[xJ]
 exact ao h
theorem pick_rev(xs:Array ae):((bE xs.size).filterMap fun(m:Nat)=>xs[(((xs.size:Nat):Int)-1+(m:Int)*(-1)).toNat]?).toArray=xs.toList.reverse.toArray:=by
 congr 1
 have e:∀k,k<=xs.size->((bE k).filterMap fun(m:Nat)=>xs[(((xs.size:Nat):Int)-1+(m:Int)*(-1)).toNat]?)=xs.toList.reverse.take k:=by
  intro k
  induction k with
  |zero=>intro _;rfl
  |succ k ih=>
   intro hk
   have hlt:xs.size-1-k<xs.size:=by ac_nf
   have e1:(((xs.size:Nat):Int)-1+(k:Int)*(-1)).toNat=xs.size-1-k:=by ac_nf
   rw[List.range_succ,List.filterMap_append,ih (by ac_nf),bt]
   congr 1
   have hl:k<xs.toList.reverse.length:=by simp;ac_nf
   have g:xs.toList.reverse[k]? =some xs[xs.size-1-k]:=by
    rw[List.getElem?_reverse (by simpa using(show k<xs.size by ac_nf))]
    simp[hlt]
   rw[g]
   have gg:xs[(((xs.size:Nat):Int)-1+(k:Int)*(-1)).toNat]? =some xs[xs.size-1-k]:=by rw[e1];simp[hlt]
   rw[fF,gg]
   rfl
 have:=e xs.size (am _)
 rw[this,iy (by simp)]
theorem getItem_tuple_rev{t sl:Addr}{items:Array ae}{k:Tok}{Q:ae->al->Prop}(ht:IsTup s.heap t items)(hs:s.heap.IsSliceOf sl .none .none (.int (-1) k))
  (h:Q (.ref s.heap.objs.size) {s with heap:=s.heap.push {cls:= .type "tuple",data:= .seq items.toList.reverse.toArray}})
  (hsz:items.size<=aQ):wpAny (aT prog w) A (iS (.ref t) (.ref sl)) Q E s:=by
 have hsize:sizeOk (.seq items.toList.reverse.toArray):=by
  show items.toList.reverse.toArray.size<=aQ
  rw[aA,bK,br]
  exact hsz
 obtain⟨os,hos,hcs,hds⟩:=id hs
 have hTs:s.TypeIs (.ref sl) "slice" :=⟨os,hos,hcs⟩
 unfold iS
 try with_reducible refine cJ ?_
 first|refine aa (ao ?_)|skip
 refine aa (ud ht.typeIs (by decide) ?_)
 refine aa (cH (name:=aD "__getitem__") ht.typeIs bw
  (cZ bw ht.typeIs rL ?_ (su _ _)))
 show wpAny _ _ (iP (.ref t)>>=_) _ _ s
 refine aa (tupleItemsOf_ ht ?_)
 refine aa (gX hTs ?_)
 rw[if_pos (by decide)]
 refine aa (oG hs ?_)
 show wpAny _ _ (if((((items.size:Nat):Int)-1)==0&&(-1:Int)==1&&items.size==items.size)=true then _ else _) _ _ s
 rw[if_neg (by intro q;rw[bC,bC]at q;exact absurd q.1.2 (by decide)),pick_rev]
 first
  |exact aa (m:=cg _) (bG (ao ⟨_,rfl,ao h⟩) hsize)
  |exact aa (m:=cg _) (bG (aa (ao (ao ⟨_,rfl,ao h⟩))) hsize)
  |exact aa (aa (m:=cg _) (bG (ao (ao ⟨_,rfl,ao h⟩)) hsize))
  |exact aa (aa (m:=cg _) (bG (ao ⟨_,rfl,ao h⟩) hsize))
end
end HT
namespace L2
open PySem PySem.Spec PyProof.Rows
section
end
end L2
namespace PySem
open Sem (wp)
open Builtin Builtin.List Builtin.Tuple
namespace AutoSeq1
set_option maxRecDepth 8000 in
theorem extend_tup(l:Addr)(items:Array ae)(n:Nat)(b:Addr)(items2:Array ae)(n2:Nat)(dd:Option Addr)(sl:Array (Option ae))(c0:¬(!items.isEmpty&&dB (items.size+items2.size))=true)(c1:items.size<=aQ)(c2:items.size+items2.size<=aQ+1):
  Meets (cw.«list.extend» ⟨[.ref l,.ref b],[]⟩) (λ_ R s=>s.heap.get? l=some {cls:= .type "list",dict:=none,data:= .seq items n,slots:= #[]}/\s.heap.get? b=some ⟨.type "tuple",dd,.seq items2 n2,sl⟩/\R (.ok (.ret bA)) {s with heap:=s.heap.update l (c9 λx=>x++items2)}):=
 .of_wp λprog w A R s h=>by
  obtain⟨hp,g,d,tk,os⟩:=s
  obtain⟨hl,hb,h⟩:=h
  have f1:=idx_int
  have f2:=sub_tuple_tuple
  have f3:=sub_list_list
  have f4:=sub_tuple_list
  have f5:=sub_list_tuple
  have big:(items++items2).size<=aQ+1:=by rw[Array.size_append];exact c2
  wp_walk using(iu hl rfl (hz:=c1) (_hz':=big)),jL hl,jL hb
  exact⟨_,rfl,h⟩
end AutoSeq1
end PySem
namespace L2
open PySem PySem.Spec PyProof.Rows
section
variable{X:Cx}
noncomputable def Ct(K:PySem.W.Frag):V->List V->Hp->VK->Prop:=λx vs H Q=>∃l b xs zs,x= .ref l/\vs=[.ref b]/\H l=some (.lst xs)/\SqT K H b zs/\xs.length+zs.length<=aQ/\Q .non (upd H l (.lst (xs++zs)))
theorem xV:NR X "list.extend" (Ct X.K):=by
 intro pins s σ H x vs v us Q I rx rv h
 obtain⟨l,b,xs,zs,rfl,rfl,hH,hB,hz,q⟩:=h
 cases rx
 obtain⟨u,rfl,ru⟩:=rv.one
 cases ru
 obtain⟨z,its,n,r,hl,e⟩:=I.lstM hH
 obtain⟨its2,r2,tp,hz2⟩:=I.tuple hB
 have hl2:=r2.length
 obtain⟨⟨cls,dd,data,sl⟩,ho,hc,n2,hd⟩:=tp
 simp only at hc hd
 subst hc hd
 have hsz:its.toArray.size+its2.toArray.size<=aQ:=by rw[aA,aA];ac_nf
 have hlong:¬(!its.toArray.isEmpty&&dB (its.toArray.size+its2.toArray.size))=true:=by
  rw[rb hsz,mF]
  exact bx
 refine nR F.slot_list_extend ⟨_,e,rfl⟩ F.entry_list_extend (F.args_list_extend_2 _ _) (AutoSeq1.extend_tup l its.toArray n b its2.toArray n2 dd sl hlong (by rw[aA];ac_nf) (by ac_nf)) ⟨e,ho,?_⟩
 refine⟨.non,_,I.lset (t':=s.toks) (its':=its++its2) hH e (by simp) (r.append r2) ?_,rfl,q⟩
 rw[aL]
 ac_nf
end
section
variable{κ:Type}[DecidableEq κ]
noncomputable def pO(kvs:List (κ×V))(k:κ):Option V:=(kvs.find? λkv=>decide (kv.1=k)).map (·.2)
noncomputable def kr(kvs:List (κ×V))(k:κ)(v:V):List (κ×V):=
 if(kvs.any λkv=>decide (kv.1=k))=true then kvs.map (λkv=>if kv.1=k then(kv.1,v)else kv)else kvs++[(k,v)]
theorem mL{p:κ×V}{r:List (κ×V)}{k:κ}(e:p.1=k):pO (p::r) k=some p.2:=by simp[pO,eU,e]
theorem mM{p:κ×V}{r:List (κ×V)}{k:κ}(e:¬p.1=k):pO (p::r) k=pO r k:=by simp[pO,eU,e]
theorem vy(k:κ):∀kvs:List (κ×V),(kvs.any λkv=>decide (kv.1=k))=(pO kvs k).isSome
 |[]=>rfl
 |p::r=>by
  rw[cT]
  by_cases e:p.1=k
  ·simp only[mL e,decide_eq_true e,Bool.true_or,Option.isSome_some]
  ·rw[mM e,decide_eq_false e,Bool.false_or];exact vy k r
theorem kJ(kvs:List (κ×V))(k:κ)(v:V):(kr kvs k v).length<=kvs.length+1:=by
 unfold kr
 split
 ·rw[ai];ac_nf
 ·rw[aL,aM,List.length_nil];ac_nf
theorem RelO.isSome_eq{o:Option V}{u:Option ae}(r:RelO o u):o.isSome=u.isSome:=by
 cases o with
 |none=>cases u with
  |none=>rfl
  |some _=>exact(show False from r).elim
 |some _=>cases u with
  |none=>exact(show False from r).elim
  |some _=>rfl
theorem RelO.getD{o:Option V}{u:Option ae}{d:V}{d':ae}(r:RelO o u)(rd:RelV d d'):RelV (o.getD d) (u.getD d'):=by
 cases o with
 |none=>cases u with
  |none=>exact rd
  |some _=>exact(show False from r).elim
 |some _=>cases u with
  |none=>exact(show False from r).elim
  |some _=>exact r
theorem KV.val{kvs:List (κ×V)}{vs:List (κ×ae)}(r:KV kvs vs)(k:κ):RelO (pO kvs k) (valueAt vs k):=by
 unfold KV at r
 induction r with
 |nil=>exact cF
 | @cons p q ps qs h t ih=>
  obtain⟨h1,h2⟩:=h
  by_cases e:p.1=k
  ·have e':q.1=k:=h1.symm.trans e
   have b:valueAt (q::qs) k=some q.2:=by simp[valueAt,eU,e']
   rw[mL e,b];exact h2
  ·have e':¬q.1=k:=λz=>e (h1.trans z)
   have b:valueAt (q::qs) k=valueAt qs k:=by simp[valueAt,eU,e']
   rw[mM e,b];exact ih
theorem KV.any{kvs:List (κ×V)}{vs:List (κ×ae)}(r:KV kvs vs)(k:κ):(kvs.any λkv=>decide (kv.1=k))=vs.any λkv=>decide (kv.1=k):=by
 unfold KV at r
 induction r with
 |nil=>rfl
 |cons h t ih=>rw[cT,cT,ih,h.1]
theorem KV.repl{kvs:List (κ×V)}{vs:List (κ×ae)}(r:KV kvs vs)(k:κ){y:V}{u:ae}(ry:RelV y u):
  KV (kvs.map λkv=>if kv.1=k then(kv.1,y)else kv) (vs.map λkv=>if kv.1=k then(kv.1,u)else kv):=by
 unfold KV at r⊢
 induction r with
 |nil=>exact .nil
 | @cons p q ps qs h t ih=>
  rw[aw,aw]
  refine .cons ?_ ih
  obtain⟨h1,h2⟩:=h
  by_cases e:p.1=k
  ·rw[if_pos e,if_pos (h1.symm.trans e)];exact⟨h1,ry⟩
  ·rw[if_neg e,if_neg (λz=>e (h1.trans z))];exact⟨h1,h2⟩
theorem KV.put{kvs:List (κ×V)}{vs:List (κ×ae)}(r:KV kvs vs)(k:κ){y:V}{u:ae}(ry:RelV y u):KV (kr kvs k y) (stored vs k u):=by
 unfold kr stored
 rw[r.any k]
 by_cases e:(vs.any λkv=>decide (kv.1=k))=true
 ·rw[if_pos e,if_pos e];exact r.repl k ry
 ·rw[if_neg e,if_neg e];exact Paired.snoc r ⟨rfl,ry⟩
theorem KV.keys{kvs:List (κ×V)}{vs:List (κ×ae)}(r:KV kvs vs):kvs.map (·.1)=vs.map (·.1):=by
 unfold KV at r
 induction r with
 |nil=>rfl
 |cons h t ih=>rw[aw,aw,ih,h.1]
theorem KV.length{kvs:List (κ×V)}{vs:List (κ×ae)}(r:KV kvs vs):kvs.length=vs.length:=Paired.length r
end
theorem ww{P:aK}{w:aX}{k:Key}{u:ae}(r:RelV (kV k) u):(mixKind P w).is k u=true:=by
 cases k with
 |inl i=>obtain⟨t,e⟩:=(show∃t,u=ed i t from r);subst e;exact wn P w i t
 |inr x=>obtain⟨t,e⟩:=(show∃t,u=jx x t from r);subst e;exact wm P w x t
theorem tF{P:aK}{w:aX}:∀{ks:List Key} {us:List ae},Vals (ks.map kV) us->ItemsAre (mixKind P w) ks us
 |[],_,r=>by rw[iz]at r;cases r;exact .nil
 |k::ks,_,r=>by
  rw[aw]at r
  cases r with
  |cons h t=>exact .cons (ww h) (tF t)
noncomputable abbrev KT(H:Hp):List (List Key×V)->List (List Key×Addr×ae)->Prop:=Paired λp q=>p.1=q.1/\H q.2.1=some (.tup (p.1.map kV))/\RelV p.2 q.2.2
theorem KT.val{H:Hp}{kvs:List (List Key×V)}{xs:List (List Key×Addr×ae)}(r:KT H kvs xs)(k:List Key):RelO (pO kvs k) ((atKey xs k).map (·.2)):=by
 induction r with
 |nil=>exact cF
 | @cons p q ps qs h t ih=>
  obtain⟨h1,_,h2⟩:=h
  by_cases e:p.1=k
  ·have e':q.1=k:=h1.symm.trans e
   have b:atKey (q::qs) k=some q.2:=by simp[atKey,eU,e']
   rw[mL e,b];exact h2
  ·have e':¬q.1=k:=λz=>e (h1.trans z)
   have b:atKey (q::qs) k=atKey qs k:=by simp[atKey,eU,e']
   rw[mM e,b];exact ih
theorem KT.repl{H:Hp}{kvs:List (List Key×V)}{xs:List (List Key×Addr×ae)}(r:KT H kvs xs)(k:List Key){y:V}{u:ae}(ry:RelV y u):
  KT H (kvs.map λkv=>if kv.1=k then(kv.1,y)else kv) (xs.map (putAt k u)):=by
 induction r with
 |nil=>exact .nil
 | @cons p q ps qs h t ih=>
  rw[aw,aw]
  refine .cons ?_ ih
  obtain⟨h1,h2,h3⟩:=h
  unfold putAt
  by_cases e:p.1=k
  ·rw[if_pos e,if_pos (h1.symm.trans e)];exact⟨h1,h2,ry⟩
  ·rw[if_neg e,if_neg (λz=>e (h1.trans z))];exact⟨h1,h2,h3⟩
theorem KT.put{H:Hp}{kvs:List (List Key×V)}{xs:List (List Key×Addr×ae)}(r:KT H kvs xs)(k:List Key){b:Addr}{y:V}{u:ae}(hb:H b=some (.tup (k.map kV)))(ry:RelV y u):
  KT H (kr kvs k y) (storedH xs k b u):=by
 have e:(kvs.any λkv=>decide (kv.1=k))=(atKey xs k).isSome:=by
  rw[vy,(r.val k).isSome_eq,Option.isSome_map]
 unfold kr storedH
 rw[e]
 by_cases q:(atKey xs k).isSome=true
 ·rw[if_pos q,if_pos q];exact r.repl k ry
 ·rw[if_neg q,if_neg q];exact Paired.snoc r ⟨rfl,hb,ry⟩
theorem KT.keeps{H H':Hp}{kvs:List (List Key×V)}{xs:List (List Key×Addr×ae)}(r:KT H kvs xs)(ht:∀b ys,H b=some (.tup ys)->H' b=some (.tup ys)):KT H' kvs xs:=
 Paired.mapP r λ_ _ z=>⟨z.1,ht _ _ z.2.1,z.2.2⟩
section
variable{P:aK}{w:aX}{H:Hp}{h:Heap}{a:Addr}
theorem HF{u:HO}(ok:HOk P w H h)(e:Rd H a u):ObjOk P w H h a u:=e.ok ok
theorem pF{kvs:List (Key×V)}(ok:HOk P w H h)(e:Rd H a (.dK kvs)):kvs.length<=aQ/\(a==eS)=false/\∃vs,KV kvs vs/\h.DictOf (mixKind P w) a vs:=
 show ObjOk P w H h a (.dK kvs)from HF ok e
theorem Eb{kvs:List (Key×V)}(ok:HOk P w H h)(e:H a=some (.dK kvs)):kvs.length<=aQ/\(a==eS)=false/\∃vs,KV kvs vs/\h.DictOf (mixKind P w) a vs:=pF ok (.inl e)
theorem uK{ks:List Key}(ok:HOk P w H h)(e:H a=some (.tup (ks.map kV))):(tupleKind (mixKind P w)).is h ks a:=by
 obtain⟨_,its,r,o,h1,h2,n,h3⟩:=(show ObjOk P w H h a (.tup (ks.map kV))from ok a _ e)
 exact⟨o,its.toArray,n,h1,h2,h3,by simpa using tF r⟩
theorem wH{kvs:List (List Key×V)}(ok:HOk P w H h)(e:Rd H a (.dT kvs)):kvs.length<=aQ/\(a==eS)=false/\
  ∃xs,KT H kvs xs/\h.DictOfH (tupleKind (mixKind P w)) a xs:=by
 obtain⟨z,y,xs,r,o,es,ep,h1,h2,h3,h4,h5⟩:=(show ObjOk P w H h a (.dT kvs)from HF ok e)
 refine⟨z,y,xs,r,o,es,ep,h1,h2,h3,h4,λx hx=> ?_,h5⟩
 have all:∀{l:List (List Key×V)} {m:List (List Key×Addr×ae)},KT H l m->∀x∈m,(tupleKind (mixKind P w)).is h x.1 x.2.1:=by
  intro l m q
  induction q with
  |nil=>intro x hx;exact nomatch hx
  | @cons p q ps qs hq t ih=>
   intro x hx
   rcases aI.mp hx with e|hx
   ·subst e
    exact uK ok (by rw[<-hq.1];exact hq.2.1)
   ·exact ih x hx
 exact all r x hx
theorem No{kvs:List (List Key×V)}(ok:HOk P w H h)(e:H a=some (.dT kvs)):kvs.length<=aQ/\(a==eS)=false/\
  ∃xs,KT H kvs xs/\h.DictOfH (tupleKind (mixKind P w)) a xs:=wH ok (.inl e)
end
noncomputable def EB(H:Hp)(a:Addr)(y:V)(r:Option V):Prop:=
 (∃kvs k,Rd H a (.dK kvs)/\y=kV k/\r=pO kvs k)\/∃kvs k b,Rd H a (.dT kvs)/\y= .ref b/\H b=some (.tup (k.map kV))/\r=pO kvs k
noncomputable def DPut(H:Hp)(a:Addr)(y v:V)(H':Hp):Prop:=
 (∃kvs k,H a=some (.dK kvs)/\y=kV k/\kvs.length<aQ/\H'=upd H a (.dK (kr kvs k v)))\/
 ∃kvs k b,H a=some (.dT kvs)/\y= .ref b/\H b=some (.tup (k.map kV))/\kvs.length<aQ/\H'=upd H a (.dT (kr kvs k v))
theorem DPut.k{H:Hp}{a:Addr}{kvs:List (Key×V)}{k:Key}{v:V}(e:H a=some (.dK kvs))(hl:kvs.length<aQ):DPut H a (kV k) v (upd H a (.dK (kr kvs k v))):= .inl ⟨kvs,k,e,rfl,hl,rfl⟩
section
variable{X:Cx}{pins:List (Addr×Obj)}{σ:St}{H:Hp}{s:al}{a:Addr}{y v:V}{u r:ae}{o:Option V}{A:Around}{E:ae->al->Prop}
theorem Inv.big(I:Inv X pins σ H s):eS<s.heap.objs.size:=by
 have h:cf<s.heap.objs.size:=(I.mod.glob.keeps I.bk).lt
 exact Nat.lt_trans (by decide) h
theorem A5{Q:ae->al->Prop}(hu:A.units+1<im)(I:Inv X pins σ H s)(g:EB H a y (some v))(ry:RelV y u)(h:∀w' s',Inv X pins σ H s'->RelV v w'->Q w' s'):
  wpAny (aT X.prog X.w) A (iS (.ref a) u) Q E s:=by
 rcases g with⟨kvs,k,e,ey,l⟩|⟨kvs,k,b,e,ey,eb,l⟩
 ·subst ey
  obtain⟨z,hd,vs,rel,dd⟩:=pF I.hok e
  obtain⟨w',hw,rw'⟩:=RelO.some_of (v:=v) (o:=valueAt vs k) (by rw[l];exact rel.val k)
  exact wpAny_getItem_of (ww ry) dd.mapOf hw (h w' _ (I.tok _) rw')
 ·subst ey
  cases (show u=aH b from ry)
  obtain⟨z,hd,xs,rel,dd⟩:=wH I.hok e
  obtain⟨w',hw,rw'⟩:=RelO.some_of (v:=v) (o:=(atKey xs k).map (·.2)) (by rw[l];exact rel.val k)
  obtain⟨p,hp,hp2⟩:=Option.map_eq_some_iff.mp hw
  refine wpAny_getItem_heap (sd hu) (uK I.hok eb) dd hp ?_
  rw[hp2]
  exact h w' _ (I.tok _) rw'
theorem nN{h':Heap}{t':Nat}{ob:HO}(I:Inv X pins σ H s)(mu:Nz (H a))(hs:e8 a s.heap h')(he:∃q,h'.get? a=some q)(new:ObjOk X.prog X.w (upd H a ob) h' a ob):
  Inv X pins σ (upd H a ob) {s with heap:=h',toks:=t'}:=
 I.write (x:=a) (e:=a) mu (.inl rfl) (λb q hb z=>(hs.2 b hb).trans z) he new
theorem vb{P:aK}{w:aX}{H':Hp}{h':Heap}{kvs:List (Key×V)}{vs:List (Key×ae)}(z:kvs.length<=aQ)(hd:(a==eS)=false)(rel:KV kvs vs)(dd:h'.DictOf (mixKind P w) a vs):
  ObjOk P w H' h' a (.dK kvs):=⟨z,hd,vs,rel,dd⟩
theorem A4{H':Hp}{Q:Unit->al->Prop}(hu:A.units+1<im)(I:Inv X pins σ H s)(g:DPut H a y v H')(ry:RelV y u)(rv:RelV v r)(h:∀s',Inv X pins σ H' s'->Q () s'):
  wpAny (aT X.prog X.w) A (setItem (.ref a) u r) Q E s:=by
 rcases g with⟨kvs,k,e,ey,l,eH⟩|⟨kvs,k,b,e,ey,eb,l,eH⟩
 ·subst ey eH
  obtain⟨z,hd,vs,rel,dd⟩:=Eb I.hok e
  have hz:vs.length<=aQ:=by rw[<-rel.length];exact z
  have hl:(kr kvs k v).length<=aQ:=by have:=kJ kvs k v;ac_nf
  refine wpAny_setItem_pairs (hsz:=hz) (ww ry) dd λh' dd' hs=>h _ ?_
  have he:∃q,h'.get? a=some q:=let⟨q,_,_,hq,_⟩:=dd';⟨q,hq⟩
  exact nN I (by rw[e];exact cF) hs he (vb hl hd (rel.put k rv) dd')
 ·subst ey eH
  cases (show u=aH b from ry)
  obtain⟨z,hd,xs,rel,dd⟩:=No I.hok e
  have hz:xs.length<=aQ:=by rw[<-Paired.length rel];exact z
  have hl:(kr kvs k v).length<=aQ:=by have:=kJ kvs k v;ac_nf
  refine wpAny_setItem_heap (hsz:=hz) (sd hu) (uK I.hok eb) dd λh' dd' hs=>h _ ?_
  obtain⟨q,es,ep,hq,h2,h3,h4,_,h5⟩:=dd'
  refine nN I (by rw[e];exact cF) hs ⟨q,hq⟩ ⟨hl,hd,_,(rel.put k eb rv).keeps λc ys ec=> ?_,q,es,ep,hq,h2,h3,h4,h5⟩
  rw[bH (L6 ec e (λz=>nomatch z))]
  exact ec
end
section
end
noncomputable def K0(i:Expr):Prop:=∀ov iv,subscripted i false ov iv=operate [ov,iv] (iS ov iv)
theorem EQ{prog:aK}{w:aX}{A:Around}{E:ae->al->Prop}{s:al}{env:Env}{value slice:Expr}{pos:Pos}{T id:String}{Q:ae->al->Prop}
  (hl:typeLookup (.type T) "__getitem__" =pure (some (.builtin id))) (hs:K0 slice)
  (h:wpAny (aT prog w) A (eval value env) (λo s₁=>wpAny (aT prog w) A (eval slice env) (λi s₂=>s₂.TypeIs o T/\wpAny (aT prog w) A (iS o i) Q E s₂) E s₁) E s):
  wpAny (aT prog w) A (eval (.Subscript value slice pos) env) Q E s:=by
 refine Subscript_ (bu h (λo s₁ h₁=>bu h₁ (λi s₂ h₂=> ?_) λ_ _ x=>x) λ_ _ x=>x)
 obtain⟨hT,h₂⟩:=h₂
 unfold subscriptTail
 refine aa ?_
 rw[getitemInPython_of_ne hT.not_modules]
 refine aa (wpAny_specialOf hT hl ?_)
 have fin:wpAny (aT prog w) A (subscripted slice false o i) (λr s₃=>wpAny (aT prog w) A (letTemporaryGo value o r>>=λ_=>pure r) Q E s₃) E s₂:=by
  rw[hs o i]
  exact wpAny_operating (bu h₂ (λr s₃ h₃=>aa (wpAny_letTemporaryGo (ao h₃))) λ_ _ x=>x)
 first
  |exact ao (aa fin)
  |exact aa (ao (aa fin))
  |exact aa fin
theorem wM{X:Cx}{pins:List (Addr×Obj)}{σ:St}{H:Hp}{s:al}{a:Addr}{y:V}{o:Option V}(I:Inv X pins σ H s)(g:EB H a y o):s.TypeIs (.ref a) "dict" :=by
 rcases g with⟨kvs,k,e,_,_⟩|⟨kvs,k,b,e,_,_,_⟩
 ·obtain⟨_,_,vs,_,dd⟩:=pF I.hok e
  exact dd.typeIs
 ·obtain⟨_,_,xs,_,dd⟩:=wH I.hok e
  exact dd.typeIs
noncomputable def Lq(td ty:TE):TE:=λσ H Q=>td σ H λx H1=>ty σ H1 λy H2=>∃a v,x= .ref a/\EB H2 a y (some v)/\Q v H2
section
variable{X:Cx}{o i:Expr}{pos:Pos}{td ty:TE}
theorem Fv(hu:X.A.units+1<im)(ho:PE X o td)(hi:PE X i ty)(hs:K0 i):PE X (.Subscript o i pos) (Lq td ty):=by
 intro pins s σ H Q I h
 refine EQ PySem.F.slot_dict_getitem.lookup hs (eR (ho pins s σ H _ I h) λu s1 ⟨x,H1,I1,rx,q1⟩=>eR (hi pins s1 σ H1 _ I1 q1) λiv s2 ⟨y,H2,I2,ry,a,v,ex,g,q2⟩=> ?_)
 subst ex
 obtain rfl:u=aH a:=rx
 exact⟨wM I2 g,A5 hu I2 g ry λw' s3 I3 rw'=>⟨v,H2,I3,rw',q2⟩⟩
end
theorem wL{P:aK}{w:aX}{H:Hp}(h:Heap)(hb:eS<h.objs.size):ObjOk P w H (h.push {cls:= .type "dict",data:= .dict #[]}) h.objs.size (.dK []):=
 ⟨bn _,beq_eq_false_iff_ne.mpr (aG (aS hb)),[],.nil,Heap.DictOf.new h⟩
noncomputable def Ik:TE:=λ_ H Q=>∀p,H p=none->Q (.ref p) (upd H p (.dK []))
section
variable{X:Cx}{pos:Pos}
theorem CU:PE X (.Dict [] [] pos) Ik:=λpins s σ H Q I h=>
 wpAny_Dict_empty ⟨.ref s.heap.objs.size,_,I.laid (a:=s.heap.objs.size) (o:= .dK []) (t':=s.toks) (λ_ _ q=>aj _ q) (am _) (wL s.heap I.big),rfl,h _ (I.hok.fresh (am _))⟩
end
noncomputable def xy:List (TE×TE)->St->Hp->(List (V×V)->Hp->Prop)->Prop
 |[],_,H,Q=>Q [] H
 |(tk,tv)::r,σ,H,Q=>tk σ H λx H1=>tv σ H1 λy H2=>xy r σ H2 λps H3=>Q ((x,y)::ps) H3
noncomputable abbrev VV:List (V×V)->List (ae×ae)->Prop:=Paired λp q=>RelV p.1 q.1/\RelV p.2 q.2
noncomputable def NO(X:Cx)(pos:Pos)(keys:List (Option Expr))(values:List Expr)(bf:List (TE×TE)):Prop:=
 ∀(pins:List (Addr×Obj)) (s:al) (σ:St) (H:Hp) (Q:List (V×V)->Hp->Prop),Inv X pins σ H s->xy bf σ H Q->
  wpAny (aT X.prog X.w) X.A (evalPairs (pairTrees keys values X.env pos)) (λvs s'=>∃ps H',Inv X pins σ H' s'/\VV ps vs/\Q ps H') X.xe s
theorem Ff{X:Cx}{pos:Pos}:NO X pos [] [] []:=λpins s σ H Q I h=>pairTrees_nil_walk ⟨[],H,I,.nil,h⟩
theorem Cw{X:Cx}{pos:Pos}{k v:Expr}{ks:List (Option Expr)}{vs:List Expr}{tk tv:TE}{bf:List (TE×TE)}(hk:PE X k tk)(hv:PE X v tv)(hr:NO X pos ks vs bf):
  NO X pos (some k::ks) (v::vs) ((tk,tv)::bf):=λpins s σ H Q I h=>
 pairTrees_cons_walk (eR (hk pins s σ H _ I h) λu s1 ⟨x,H1,I1,rx,q1⟩=>eR (hv pins s1 σ H1 _ I1 q1) λw2 s2 ⟨y,H2,I2,ry,q2⟩=>
  eR (hr pins s2 σ H2 _ I2 q2) λws s3 ⟨ps,H3,I3,rel,q3⟩=>⟨(x,y)::ps,H3,I3,.cons ⟨rx,ry⟩ rel,q3⟩)
noncomputable def j5(kvs more:List (Key×V)):List (Key×V):=more.foldl (λacc kv=>kr acc kv.1 kv.2) kvs
theorem KV.merge:∀{more:List (Key×V)} {rs:List (Key×ae)} {kvs:List (Key×V)} {vs:List (Key×ae)},KV more rs->KV kvs vs->KV (j5 kvs more) (merged vs rs):=by
 intro more rs kvs vs r
 unfold KV at r
 induction r generalizing kvs vs with
 |nil=>intro q;exact q
 | @cons p q ps qs h t ih=>
  intro r0
  have e:KV (kr kvs p.1 p.2) (stored vs q.1 q.2):=by
   have:=r0.put p.1 h.2
   rw[<-h.1];exact this
  exact ih e
theorem jF:∀(more kvs:List (Key×V)),(j5 kvs more).length<=kvs.length+more.length
 |[],kvs=>by show kvs.length<=kvs.length+0;ac_nf
 |p::r,kvs=>by
  have h1:=jF r (kr kvs p.1 p.2)
  have h2:=kJ kvs p.1 p.2
  show(j5 (kr kvs p.1 p.2) r).length<=_
  rw[aM];ac_nf
theorem rV{P:aK}{w:aX}:∀{kvs:List (Key×V)} {ws:List (ae×ae)},VV (kvs.map λkv=>(kV kv.1,kv.2)) ws->∃rs,Carries (mixKind P w) ws rs/\KV kvs rs
 |[],_,r=>by rw[iz]at r;cases r;exact⟨[],cF,.nil⟩
 |p::kvs,_,r=>by
  rw[aw]at r
  cases r with
  | @cons a b as bs h t=>
   obtain⟨rs,c,q⟩:=rV (P:=P) (w:=w) t
   obtain⟨b1,b2⟩:=b
   exact⟨(p.1,b2)::rs,⟨ww h.1,rfl,c⟩,.cons ⟨rfl,h.2⟩ q⟩
noncomputable def Lo(bf:List (TE×TE)):TE:=λσ H Q=>∀p,H p=none->xy bf σ (upd H p (.dK [])) λps H2=>H2 p=some (.dK [])/\∃kvs:List (Key×V),ps=kvs.map (λkv=>(kV kv.1,kv.2))/\kvs.length<=15/\Q (.ref p) (upd H2 p (.dK (j5 [] kvs)))
theorem Fu{X:Cx}{pos:Pos}{keys:List (Option Expr)}{values:List Expr}{bf:List (TE×TE)}(h:NO X pos keys values bf)(hall:keys.all (·.isSome)=true)(hl:keys.length=values.length)(h0:keys≠[])
  (h15:keys.length<=15):PE X (.Dict keys values pos) (Lo bf):=by
 intro pins s σ H Q I q
 have hn:=I.hok.fresh (am s.heap.objs.size)
 have I1:=I.laid (a:=s.heap.objs.size) (o:= .dK []) (h':=s.heap.push {cls:= .type "dict",data:= .dict #[]}) (t':=s.toks) (λ_ _ q=>aj _ q) (am _) (wL s.heap I.big)
 refine wpAny_Dict_walk (knd:=mixKind X.prog X.w) hall hl h0 h15 (eR (h pins _ σ _ _ I1 (q _ hn)) λws s2 hPl=> ?_)
 obtain⟨ps,H2,I2,rel,e,kvs,ep,lk,q2⟩:=hPl
 subst ep
 obtain⟨rs,c,rk⟩:=rV (P:=X.prog) (w:=X.w) rel
 obtain⟨z,hd,vs0,r0,dd⟩:=Eb I2.hok e
 cases r0
 refine⟨rs,c,dd,λh' dd' hs=>⟨.ref s.heap.objs.size,_,?_,rfl,q2⟩⟩
 have hz:(j5 [] kvs).length<=aQ:=by
  have h1:=jF kvs []
  rw[List.length_nil]at h1
  rw[jz];ac_nf
 have he:∃q,h'.get? s.heap.objs.size=some q:=let⟨q,_,_,hq,_⟩:=dd';⟨q,hq⟩
 exact nN I2 (by rw[e];exact cF) hs he (vb hz hd (rk.merge .nil) dd')
structure M1(X:Cx)(o:Expr)(m:Str)(apos:Pos)(e:Expr)(cpos:Pos):Prop where
 base:cz o m X.env (eval o X.env)=eval o X.env
 few:((ce cpos (aB [e] X.env)).all (λx=> !x.1)&&(io cpos (eK [] X.env)).all (λx=>x.1.isSome)
  &&decide (([e]:List Expr).length+([]:List gD).length+(if([]:List gD).isEmpty then 0 else 1)<30))=true
 line:(apos.endLine==cpos.line)=true
 trees:ce cpos (aB [e] X.env)=[(false,eval e X.env)]
structure M2(X:Cx)(o:Expr)(m:Str)(apos:Pos)(e f:Expr)(cpos:Pos):Prop where
 base:cz o m X.env (eval o X.env)=eval o X.env
 few:((ce cpos (aB [e,f] X.env)).all (λx=> !x.1)&&(io cpos (eK [] X.env)).all (λx=>x.1.isSome)
  &&decide (([e,f]:List Expr).length+([]:List gD).length+(if([]:List gD).isEmpty then 0 else 1)<30))=true
 line:(apos.endLine==cpos.line)=true
 trees:ce cpos (aB [e,f] X.env)=[(false,eval e X.env),(false,eval f X.env)]
noncomputable def OW(H:Hp)(a:Addr):Prop:=(∃kvs,Rd H a (.dK kvs))\/∃kvs,Rd H a (.dT kvs)
theorem DP{X:Cx}{pins:List (Addr×Obj)}{σ:St}{H:Hp}{s:al}{a:Addr}(I:Inv X pins σ H s)(d:OW H a):
  s.TypeIs (.ref a) "dict" /\(∀b,aH a= .ref b->∃ob,s.heap.get? b=some ob/\ob.dict=none)/\(a==eS)=false:=by
 rcases d with⟨kvs,e⟩|⟨kvs,e⟩
 ·obtain⟨_,hd,vs,_,dd⟩:=pF I.hok e
  refine⟨dd.typeIs,λb q=> ?_,hd⟩
  cases q
  obtain⟨ob,_,_,h1,h2,_⟩:=dd
  exact⟨ob,h1,h2.2.1⟩
 ·obtain⟨_,hd,xs,_,dd⟩:=wH I.hok e
  refine⟨dd.typeIs,λb q=> ?_,hd⟩
  cases q
  obtain⟨ob,_,_,h1,h2,_⟩:=dd
  exact⟨ob,h1,h2.2.1⟩
section
variable{X:Cx}{pins:List (Addr×Obj)}{σ:St}{H:Hp}{s:al}{a:Addr}{y d:V}{u r:ae}{o:Option V}{A:Around}{E:ae->al->Prop}
theorem KD{Q:ae->al->Prop}(hu:A.units+1<im)(I:Inv X pins σ H s)(g:EB H a y o)(ry:RelV y u)(rd:RelV d r)(h:∀w' s',Inv X pins σ H s'->RelV (o.getD d) w'->Q w' s'):
  wpAny (aT X.prog X.w) A (call (.builtin "dict.get") [.ref a,u,r]) Q E s:=by
 rcases g with⟨kvs,k,e,ey,l⟩|⟨kvs,k,b,e,ey,eb,l⟩
 ·subst ey
  obtain⟨z,hd,vs,rel,dd⟩:=pF I.hok e
  refine call_meetsIn PySem.F.slot_dict_get dd.typeIs PySem.F.entry_dict_get (PySem.F.args_dict_get_3 _ _ _) (meets_dict_get_default (mixKind X.prog X.w) a (ww ry) hd r) ⟨_,dd.mapOf,h _ _ (I.tok _) ?_⟩
  rw[l]
  exact(rel.val k).getD rd
 ·subst ey
  cases (show u=aH b from ry)
  obtain⟨z,hd,xs,rel,dd⟩:=wH I.hok e
  refine call_meetsIn PySem.F.slot_dict_get dd.typeIs PySem.F.entry_dict_get (PySem.F.args_dict_get_3 _ _ _) (meetsH_dict_get_default (tupleKind (mixKind X.prog X.w)) a b hd r) ⟨sd hu,k,xs,uK I.hok eb,dd,h _ _ (I.tok _) ?_⟩
  rw[l]
  exact(rel.val k).getD rd
end
noncomputable def Il(td ty tx:TE):TE:=λσ H Q=>td σ H λx H1=>∃a,x= .ref a/\OW H1 a/\ty σ H1 λy H2=>tx σ H2 λz H3=>∃o,EB H3 a y o/\Q (o.getD z) H3
section
variable{X:Cx}{o e f:Expr}{apos cpos:Pos}{td ty tx:TE}
theorem CV(hu:X.A.units+1<im)(ho:PE X o td)(he:PE X e ty)(hf:PE X f tx)(m:M2 X o "get" apos e f cpos):PE X (.Call (.Attribute o "get" apos) [e,f] [] cpos) (Il td ty tx):=by
 intro pins s σ H Q I h
 refine wpAny_Call_method m.base m.few m.line PySem.F.plainAttrs_dict PySem.F.slot_dict_get PySem.F.type_dict_get (eR (ho pins s σ H _ I h) λu s1 hPl=> ?_)
 obtain⟨x,H1,I1,rx,a,ex,d,q1⟩:=hPl
 subst ex
 obtain rfl:u=aH a:=rx
 obtain⟨t1,t2,_⟩:=DP I1 d
 refine⟨t1,t2,?_⟩
 rw[m.trees]
 refine ir rfl (mz (jI (eR (he pins s1 σ H1 _ I1 q1) λiv s2 ⟨y,H2,I2,ry,q2⟩=>
  jI (eR (hf pins s2 σ H2 _ I2 q2) λfv s3 ⟨z,H3,I3,rz,ov,g,q3⟩=>p0 ?_))))
 exact KD hu I3 g ry rz λw' s4 I4 rw'=>⟨_,H3,I4,rw',q3⟩
end
section
end
section
end
end L2
namespace L2
open PySem
section
end
section
variable{κ:Type}[DecidableEq κ]
end
end L2
namespace L3
open PySem L2
inductive PV where
 |non|bl (b:Bool)|int (i:Int)|str (x:Str)|tup (xs:List PV)|ref (a:Addr)|ty (n:String)|ro (xs:List PV)
inductive MO where
 |lst (xs:List PV)|rl (xs:List PV)|dK (kvs:List (Key×PV))|rng (lo hi:Int)|ins (C dx:Addr) (fs:List (Str×PV))|exc (C:Addr)|rd (kvs:List (Key×PV))
noncomputable abbrev Gp:=Addr->Option MO
noncomputable def up(G:Gp)(a:Addr)(o:MO):Gp:=λb=>if b=a then some o else G b
theorem af{G:Gp}{a:Addr}{o:MO}:up G a o a=some o:=by unfold up;rw[if_pos rfl]
theorem aE{G:Gp}{a b:Addr}{o:MO}(h:b≠a):up G a o b=G b:=by unfold up;rw[if_neg h]
theorem fZ{G:Gp}{a:Addr}{o u:MO}:up (up G a o) a u=up G a u:=by
 funext b;unfold up;split<;>rfl
theorem EM{G:Gp}{a:Addr}{o:MO}(h:G a=some o):up G a o=G:=by
 funext b;unfold up;split
 ·rename_i e;rw[e,h]
 ·rfl
noncomputable def FzL(K:PySem.W.Frag)(H:Hp)(a:Addr)(xs:List V):Prop:=
 (∃o,H a=some (.frz o (.lst xs)))\/∃(o:Obj) (its:Array ae) (n:Nat),K.lookup a=some o/\o.cls= .type "list" /\o.dict=none/\o.data= .seq its n/\its.size<=aQ/\Vals xs its.toList
theorem FzL.sq{K:PySem.W.Frag}{H:Hp}{a:Addr}{xs:List V}(h:FzL K H a xs):SqL K H a xs:=by
 rcases h with⟨o,h⟩|h
 ·exact .inl (.inr ⟨o,h⟩)
 ·exact .inr h
mutual
noncomputable def Dv(K:PySem.W.Frag)(H:Hp):PV->V->Prop
 | .non,v=>v= .non
 | .bl b,v=>v= .bl b
 | .int i,v=>v= .int i
 | .str x,v=>v= .str x
 | .tup ps,v=>∃a vs,v= .ref a/\SqT K H a vs/\Dvs K H ps vs
 | .ref a,v=>v= .ref a
 | .ty n,v=>v= .ty n
 | .ro ps,v=>∃a vs,v= .ref a/\FzL K H a vs/\Dvs K H ps vs
noncomputable def Dvs(K:PySem.W.Frag)(H:Hp):List PV->List V->Prop
 |[],vs=>vs=[]
 |p::ps,vs=>∃v r,vs=v::r/\Dv K H p v/\Dvs K H ps r
end
noncomputable def Keep(K:PySem.W.Frag)(H H':Hp):Prop:=(∀a xs,SqT K H a xs->SqT K H' a xs)/\∀a o u,H a=some (.frz o u)->H' a=some (.frz o u)
section
variable{K:PySem.W.Frag}{H H' H1 H2:Hp}
theorem Keep.refl:Keep K H H:=⟨λ_ _ h=>h,λ_ _ _ h=>h⟩
theorem Keep.trans(a:Keep K H H1)(b:Keep K H1 H2):Keep K H H2:=⟨λc xs h=>b.1 c xs (a.1 c xs h),λc o u h=>b.2 c o u (a.2 c o u h)⟩
theorem nz{p:Addr}{o:HO}(h:∀xs,¬Rd H p (.tup xs))(hf:∀o u,H p≠some (.frz o u)):Keep K H (upd H p o):=⟨λa xs q=>by
 rcases q with q|q
 ·have ne:a≠p:=λz=>by subst z;exact h xs q
  refine .inl ?_
  rcases q with q|⟨o',q⟩
  ·exact .inl (by rw[bH ne];exact q)
  ·exact .inr ⟨o',by rw[bH ne];exact q⟩
 ·exact .inr q,λa o' u q=>by
 have ne:a≠p:=λz=>by subst z;exact hf o' u q
 rw[bH ne];exact q⟩
theorem FzL.keep{a:Addr}{xs:List V}(k:Keep K H H')(h:FzL K H a xs):FzL K H' a xs:=by
 rcases h with⟨o,h⟩|h
 ·exact .inl ⟨o,k.2 _ _ _ h⟩
 ·exact .inr h
theorem bQ{p:Addr}{o:HO}(h:H p=none):Keep K H (upd H p o):=nz (λxs q=>by
 rcases q with q|⟨o',q⟩<;>(rw[h]at q;cases q)) λo u q=>by rw[h]at q;cases q
theorem gu{p:Addr}{o:HO}{ys:List V}(h:H p=some (.lst ys)):Keep K H (upd H p o):=nz (λxs q=>by
 rcases q with q|⟨o',q⟩<;>(rw[h]at q;cases q)) λo u q=>by rw[h]at q;cases q
theorem lc{p:Addr}{o:HO}{ys:List (Key×V)}(h:H p=some (.dK ys)):Keep K H (upd H p o):=nz (λxs q=>by
 rcases q with q|⟨o',q⟩<;>(rw[h]at q;cases q)) λo u q=>by rw[h]at q;cases q
mutual
theorem Dv.keep(k:Keep K H H'):∀(p:PV) {v:V},Dv K H p v->Dv K H' p v
 | .non,_,h=>h
 | .bl _,_,h=>h
 | .int _,_,h=>h
 | .str _,_,h=>h
 | .tup ps,_,h=>by
  obtain⟨a,vs,e,q,r⟩:=h
  exact⟨a,vs,e,k.1 a vs q,Dvs.keep k ps r⟩
 | .ref _,_,h=>h
 | .ty _,_,h=>h
 | .ro ps,_,h=>by
  obtain⟨a,vs,e,q,r⟩:=h
  exact⟨a,vs,e,q.keep k,Dvs.keep k ps r⟩
theorem Dvs.keep(k:Keep K H H'):∀(ps:List PV) {vs:List V},Dvs K H ps vs->Dvs K H' ps vs
 |[],_,h=>h
 |p::ps,_,h=>by
  obtain⟨v,r,e,q,z⟩:=h
  exact⟨v,r,e,Dv.keep k p q,Dvs.keep k ps z⟩
end
theorem Dvs.length:∀{ps:List PV} {vs:List V},Dvs K H ps vs->vs.length=ps.length
 |[],_,h=>by rw[show _=[]from h];rfl
 |p::ps,_,h=>by
  obtain⟨v,r,rfl,_,z⟩:=h
  rw[aM,aM,Dvs.length z]
theorem Dvs.get:∀{ps:List PV} {vs:List V} {i:Nat} {v:V},Dvs K H ps vs->vs[i]? =some v->∃p,ps[i]? =some p/\Dv K H p v
 |[],_,i,v,h,e=>by rw[show _=[]from h]at e;simp at e
 |p::ps,_,0,v,h,e=>by
  obtain⟨v',r,rfl,q,z⟩:=h
  have:v'=v:=by simpa using e
  subst this
  exact⟨p,rfl,q⟩
 |p::ps,_,i+1,v,h,e=>by
  obtain⟨v',r,rfl,q,z⟩:=h
  obtain⟨p',e1,q1⟩:=Dvs.get (i:=i) z (by simpa using e)
  exact⟨p',by simpa using e1,q1⟩
theorem Dvs.at:∀{ps:List PV} {vs:List V} {i:Nat} {p:PV},Dvs K H ps vs->ps[i]? =some p->∃v,vs[i]? =some v/\Dv K H p v:=fun{ps vs i p} h e=>by
 have hl:=h.length
 have hi:i<vs.length:=by rw[hl];exact(aq.mp e).1
 obtain⟨p',e',q⟩:=h.get (ak hi)
 rw[e]at e';cases e'
 exact⟨_,ak hi,q⟩
theorem Dvs.append:∀{ps qs:List PV} {vs us:List V},Dvs K H ps vs->Dvs K H qs us->Dvs K H (ps++qs) (vs++us)
 |[],_,_,_,h,g=>by rw[show _=[]from h];exact g
 |p::ps,_,_,_,h,g=>by
  obtain⟨v,r,rfl,q,z⟩:=h
  exact⟨v,r++_,rfl,q,Dvs.append z g⟩
theorem Dvs.nil:Dvs K H [] []:=rfl
theorem Dvs.cons{p:PV}{ps:List PV}{v:V}{vs:List V}(a:Dv K H p v)(b:Dvs K H ps vs):Dvs K H (p::ps) (v::vs):=⟨v,vs,rfl,a,b⟩
theorem Dvs.take:∀{ps:List PV} {vs:List V} (n:Nat),Dvs K H ps vs->Dvs K H (ps.take n) (vs.take n)
 |_,_,0,_=>rfl
 |[],_,n+1,h=>by rw[show _=[]from h];rfl
 |p::ps,_,n+1,h=>by
  obtain⟨v,r,rfl,q,z⟩:=h
  exact⟨v,_,rfl,q,Dvs.take n z⟩
theorem Dvs.drop:∀{ps:List PV} {vs:List V} (n:Nat),Dvs K H ps vs->Dvs K H (ps.drop n) (vs.drop n)
 |_,_,0,h=>h
 |[],_,n+1,h=>by rw[show _=[]from h];rfl
 |p::ps,_,n+1,h=>by
  obtain⟨v,r,rfl,q,z⟩:=h
  exact Dvs.drop n z
theorem Dvs.reverse:∀{ps:List PV} {vs:List V},Dvs K H ps vs->Dvs K H ps.reverse vs.reverse
 |[],_,h=>by rw[show _=[]from h];rfl
 |p::ps,_,h=>by
  obtain⟨v,r,rfl,q,z⟩:=h
  rw[eY,eY]
  exact(Dvs.reverse z).append (.cons q .nil)
theorem Dvs.set{p:PV}{v:V}(a:Dv K H p v):∀{ps:List PV} {vs:List V} (i:Nat),Dvs K H ps vs->Dvs K H (ps.set i p) (vs.set i v)
 |[],_,_,h=>by rw[show _=[]from h];rfl
 |q::ps,_,0,h=>by
  obtain⟨v',r,rfl,_,z⟩:=h
  exact⟨v,r,rfl,a,z⟩
 |q::ps,_,i+1,h=>by
  obtain⟨v',r,rfl,b,z⟩:=h
  exact⟨v',_,rfl,b,Dvs.set a i z⟩
end
noncomputable def DKv(K:PySem.W.Frag)(H:Hp):List (Key×PV)->List (Key×V)->Prop
 |[],vs=>vs=[]
 |(k,p)::ps,vs=>∃v r,vs=(k,v)::r/\Dv K H p v/\DKv K H ps r
noncomputable def DFv(K:PySem.W.Frag)(H:Hp):List (Str×PV)->List (Str×V)->Prop
 |[],vs=>vs=[]
 |(k,p)::ps,vs=>∃v r,vs=(k,v)::r/\Dv K H p v/\DFv K H ps r
noncomputable def RepO(K:PySem.W.Frag)(H:Hp)(a:Addr):MO->Prop
 | .lst ps=>∃vs,H a=some (.lst vs)/\Dvs K H ps vs
 | .rl ps=>∃vs,Rd H a (.lst vs)/\Dvs K H ps vs
 | .dK kvs=>∃vs,H a=some (.dK vs)/\DKv K H kvs vs
 | .rng lo hi=>H a=some (.rng lo hi)
 | .ins C dx fs=>∃vs,H a=some (.ins C dx vs)/\DFv K H fs vs
 | .exc C=>H a=some (Nf a C)
 | .rd kvs=>∃vs,Rd H a (.dK vs)/\DKv K H kvs vs
noncomputable def Rep(K:PySem.W.Frag)(H:Hp)(G:Gp):Prop:=∀a o,G a=some o->RepO K H a o
section
variable{K:PySem.W.Frag}{H H':Hp}{G G':Gp}{p:Addr}
theorem DKv.keep(k:Keep K H H'):∀(ps:List (Key×PV)) {vs:List (Key×V)},DKv K H ps vs->DKv K H' ps vs
 |[],_,h=>h
 |(x,p)::ps,_,h=>by
  obtain⟨v,r,e,q,z⟩:=h
  exact⟨v,r,e,Dv.keep k p q,DKv.keep k ps z⟩
theorem DFv.keep(k:Keep K H H'):∀(ps:List (Str×PV)) {vs:List (Str×V)},DFv K H ps vs->DFv K H' ps vs
 |[],_,h=>h
 |(x,p)::ps,_,h=>by
  obtain⟨v,r,e,q,z⟩:=h
  exact⟨v,r,e,Dv.keep k p q,DFv.keep k ps z⟩
theorem RepO.some{o:MO}(h:RepO K H p o):∃u,H p=some u:=by
 cases o with
 |lst ps=>obtain⟨vs,e,_⟩:=h;exact⟨_,e⟩
 |rl ps=>
  obtain⟨vs,e,_⟩:=h
  rcases e with e|⟨o,e⟩
  ·exact⟨_,e⟩
  ·exact⟨_,e⟩
 |dK ps=>obtain⟨vs,e,_⟩:=h;exact⟨_,e⟩
 |rng lo hi=>exact⟨_,h⟩
 |ins C dx fs=>obtain⟨vs,e,_⟩:=h;exact⟨_,e⟩
 |exc C=>exact⟨_,h⟩
 |rd ps=>
  obtain⟨vs,e,_⟩:=h
  rcases e with e|⟨o,e⟩
  ·exact⟨_,e⟩
  ·exact⟨_,e⟩
theorem Rep.none(r:Rep K H G)(h:H p=none):G p=none:=by
 cases e:G p with
 |none=>rfl
 |some o=>
  obtain⟨u,z⟩:=(r p o e).some
  rw[h]at z;cases z
theorem RepO.upd{a:Addr}{o:MO}{ho:HO}(k:Keep K H (upd H p ho))(ne:a≠p)(h:RepO K H a o):RepO K (L2.upd H p ho) a o:=by
 cases o with
 |lst ps=>obtain⟨vs,e,d⟩:=h;exact⟨vs,by rw[bH ne];exact e,d.keep k⟩
 |rl ps=>
  obtain⟨vs,e,d⟩:=h
  refine⟨vs,?_,d.keep k⟩
  rcases e with e|⟨o,e⟩
  ·exact .inl (by rw[bH ne];exact e)
  ·exact .inr ⟨o,by rw[bH ne];exact e⟩
 |dK ps=>obtain⟨vs,e,d⟩:=h;exact⟨vs,by rw[bH ne];exact e,d.keep k⟩
 |rng lo hi=>show L2.upd H p ho a=_;rw[bH ne];exact h
 |ins C dx fs=>obtain⟨vs,e,d⟩:=h;exact⟨vs,by rw[bH ne];exact e,DFv.keep k _ d⟩
 |exc C=>show L2.upd H p ho a=_;rw[bH ne];exact h
 |rd ps=>
  obtain⟨vs,e,d⟩:=h
  refine⟨vs,?_,d.keep k⟩
  rcases e with e|⟨o,e⟩
  ·exact .inl (by rw[bH ne];exact e)
  ·exact .inr ⟨o,by rw[bH ne];exact e⟩
theorem Rep.upd{ho:HO}(r:Rep K H G)(k:Keep K H (upd H p ho))(hG:∀a o,G' a=some o->a≠p->G a=some o)(hp:∀o,G' p=some o->RepO K (L2.upd H p ho) p o):Rep K (L2.upd H p ho) G':=λa o e=>by
 by_cases hb:a=p
 ·subst hb;exact hp o e
 ·exact(r a o (hG a o e hb)).upd k hb
theorem Rep.tup{vs:List V}(r:Rep K H G)(h:H p=Option.none):Rep K (L2.upd H p (.tup vs)) G:=r.upd (bQ h) (λ_ _ e _=>e) λo e=>by rw[r.none h]at e;cases e
theorem Rep.new{vs:List V}{ps:List PV}(r:Rep K H G)(h:H p=Option.none)(d:Dvs K H ps vs):Rep K (L2.upd H p (.lst vs)) (up G p (.lst ps)):=by
 refine r.upd (bQ h) (λa o e ne=>by rw[aE ne]at e;exact e) λo e=> ?_
 rw[af]at e;cases e
 exact⟨vs,cG,d.keep (bQ h)⟩
theorem Rep.put{vs vs0:List V}{ps:List PV}(r:Rep K H G)(h:H p=jW (.lst vs0))(d:Dvs K H ps vs):Rep K (L2.upd H p (.lst vs)) (up G p (.lst ps)):=by
 refine r.upd (gu h) (λa o e ne=>by rw[aE ne]at e;exact e) λo e=> ?_
 rw[af]at e;cases e
 exact⟨vs,cG,d.keep (gu h)⟩
theorem Rep.sub(r:Rep K H G)(h:∀a o,G' a=jW o->G a=jW o):Rep K H G':=λa o e=>r a o (h a o e)
theorem Rep.lst{ps:List PV}{a:Addr}(r:Rep K H G)(h:G a=jW (.lst ps)):∃vs,H a=jW (.lst vs)/\Dvs K H ps vs:=r a _ h
end
noncomputable abbrev je:=List (Option PV)
noncomputable abbrev K2:=PV->Gp->Prop
noncomputable abbrev E2:=je->Gp->K2->Prop
noncomputable abbrev T2:=je->Gp->(Bool->Gp->Prop)->Prop
noncomputable abbrev A2:=je->Gp->(List PV->Gp->Prop)->Prop
structure D2 where
 nx:je->Gp->Prop
 rt:K2
 bk:je->Gp->Prop:=λ_ _=>False
 ct:je->Gp->Prop:=λ_ _=>False
noncomputable abbrev S2:=D2->je->Gp->Prop
@[reducible] noncomputable def gt:je->Nat->Option PV
 |[],_=>none
 |x::_,0=>x
 |_::r,n+1=>gt r n
@[reducible] noncomputable def st:je->Nat->Option PV->je
 |[],_,_=>[]
 |_::r,0,v=>v::r
 |x::r,n+1,v=>x::st r n v
theorem DT:∀(τ:je) (i:Nat),gt τ i=(τ[i]?).getD none
 |[],i=>by simp[gt]
 |x::_,0=>by simp[gt]
 |_::r,n+1=>by simp[gt,DT r n]
theorem GO{τ:je}{i:Nat}{p:PV}(h:gt τ i=some p):τ[i]? =some (some p):=by
 rw[DT]at h
 cases e:τ[i]? with
 |none=>rw[e]at h;cases h
 |some z=>rw[e]at h;exact congrArg some h
theorem BV:∀(τ:je) (i:Nat) (v:Option PV),st τ i v=τ.set i v
 |[],_,_=>rfl
 |_::_,0,_=>rfl
 |x::r,n+1,v=>by simp[st,BV r n v]
noncomputable def RSt(K:PySem.W.Frag)(H:Hp)(σ:St)(τ:je):Prop:=τ.length=σ.length/\∀(i:Nat) p,τ[i]? =some (some p)->∃v,σ[i]? =some (some v)/\Dv K H p v
theorem RSt.keep{K:PySem.W.Frag}{H H':Hp}{σ:St}{τ:je}(r:RSt K H σ τ)(k:Keep K H H'):RSt K H' σ τ:=⟨r.1,λi p e=>let⟨v,a,b⟩:=r.2 i p e;⟨v,a,b.keep k⟩⟩
theorem RSt.set0{K:PySem.W.Frag}{H:Hp}{σ:St}{τ:je}{p:PV}{v:V}(r:RSt K H σ τ)(d:Dv K H p v)(i:Nat):RSt K H (σ.set i (some v)) (τ.set i (some p)):=by
 refine⟨by simp[r.1],λj q e=> ?_⟩
 by_cases hj:i=j
 ·subst hj
  have hi:i<τ.length:=by
   have:=(aq.mp e).1
   simpa using this
  rw[dZ hi]at e
  cases e
  exact⟨v,by rw[dZ (by rw[<-r.1];exact hi)],d⟩
 ·rw[cY hj]at e⊢
  exact r.2 j q e
theorem RSt.set{K:PySem.W.Frag}{H:Hp}{σ:St}{τ:je}{p:PV}{v:V}(r:RSt K H σ τ)(d:Dv K H p v)(i:Nat):RSt K H (σ.set i (some v)) (st τ i (some p)):=by
 rw[BV];exact r.set0 d i
noncomputable def Cl(K:PySem.W.Frag)(H:Hp)(Q2:K2)(Q:VK):Prop:=∀p G v H',Q2 p G->Dv K H' p v->Rep K H' G->Keep K H H'->Q v H'
noncomputable def ClT(K:PySem.W.Frag)(H:Hp)(Q2:Bool->Gp->Prop)(Q:Bool->Hp->Prop):Prop:=∀b G H',Q2 b G->Rep K H' G->Keep K H H'->Q b H'
noncomputable def ClS(K:PySem.W.Frag)(H:Hp)(Q2:je->Gp->Prop)(Q:St->Hp->Prop):Prop:=∀τ G σ H',Q2 τ G->RSt K H' σ τ->Rep K H' G->Keep K H H'->Q σ H'
theorem Cl.keep{K:PySem.W.Frag}{H H':Hp}{Q2:K2}{Q:VK}(c:Cl K H Q2 Q)(k:Keep K H H'):Cl K H' Q2 Q:=λp G v H2 q d r k2=>c p G v H2 q d r (k.trans k2)
theorem ClT.keep{K:PySem.W.Frag}{H H':Hp}{Q2:Bool->Gp->Prop}{Q:Bool->Hp->Prop}(c:ClT K H Q2 Q)(k:Keep K H H'):ClT K H' Q2 Q:=λp G H2 q r k2=>c p G H2 q r (k.trans k2)
theorem ClS.keep{K:PySem.W.Frag}{H H':Hp}{Q2:je->Gp->Prop}{Q:St->Hp->Prop}(c:ClS K H Q2 Q)(k:Keep K H H'):ClS K H' Q2 Q:=λp G v H2 q d r k2=>c p G v H2 q d r (k.trans k2)
noncomputable def pS(K:PySem.W.Frag)(t:E2):TE:=λσ H Q=>∃τ G Q2,RSt K H σ τ/\Rep K H G/\t τ G Q2/\Cl K H Q2 Q
noncomputable def wq(K:PySem.W.Frag)(t:T2):TT:=λσ H Q=>∃τ G Q2,RSt K H σ τ/\Rep K H G/\t τ G Q2/\ClT K H Q2 Q
noncomputable def Gb(K:PySem.W.Frag)(t:A2):TA:=λσ H Q=>∃τ G Q2,RSt K H σ τ/\Rep K H G/\t τ G Q2/\∀ps G' vs H',Q2 ps G'->Dvs K H' ps vs->Rep K H' G'->Keep K H H'->Q vs H'
structure ClD(K:PySem.W.Frag)(H:Hp)(D2:D2)(D:yD):Prop where
 nx:ClS K H D2.nx D.nx
 rt:Cl K H D2.rt D.rt
 bk:ClS K H D2.bk D.bk
 ct:ClS K H D2.ct D.ct
theorem ClD.keep{K:PySem.W.Frag}{H H':Hp}{Q2:L3.D2}{Q:yD}(c:ClD K H Q2 Q)(k:Keep K H H'):ClD K H' Q2 Q:=⟨c.nx.keep k,c.rt.keep k,c.bk.keep k,c.ct.keep k⟩
noncomputable def F0(K:PySem.W.Frag)(t:S2):TS:=λD σ H=>∃τ G D2,RSt K H σ τ/\Rep K H G/\t D2 τ G/\ClD K H D2 D
structure JE(X:Cx)(e:Expr)(t:E2):Prop where
 h:PE X e (pS X.K t)
structure JT(X:Cx)(e:Expr)(t:T2):Prop where
 h:PT X e (wq X.K t)
structure JW(X:Cx)(e:Expr)(t:T2):Prop where
 h:PW X e (wq X.K t)
structure JA(X:Cx)(es:List Expr)(t:A2):Prop where
 h:PA X es (Gb X.K t)
structure JS(X:Cx)(st:Stmt)(t:S2):Prop where
 h:PS X st (F0 X.K t)
structure JB(X:Cx)(st:List Stmt)(t:S2):Prop where
 h:PSs X st (F0 X.K t)
section
variable{X:Cx}{e:Expr}
theorem JE.of{t:E2}{u:TE}(h:PE X e u)(w:∀σ H Q,pS X.K t σ H Q->u σ H Q):JE X e t:=⟨λpins s σ H Q I q=>h pins s σ H Q I (w σ H Q q)⟩
theorem JT.of{t:T2}{u:TT}(h:PT X e u)(w:∀σ H Q,wq X.K t σ H Q->u σ H Q):JT X e t:=⟨λpins s σ H Q I q=>h pins s σ H Q I (w σ H Q q)⟩
theorem JW.of{t:T2}{u:TT}(h:PW X e u)(w:∀σ H Q,wq X.K t σ H Q->u σ H Q):JW X e t:=⟨λwh pins s σ H Q I q=>h wh pins s σ H Q I (w σ H Q q)⟩
theorem JA.of{es:List Expr}{t:A2}{u:TA}(h:PA X es u)(w:∀σ H Q,Gb X.K t σ H Q->u σ H Q):JA X es t:=⟨λpos pins s σ H Q I q=>h pos pins s σ H Q I (w σ H Q q)⟩
theorem JS.of{st:Stmt}{t:S2}{u:TS}(h:PS X st u)(w:∀D σ H,F0 X.K t D σ H->u D σ H):JS X st t:=⟨λpins s σ H D I q=>h pins s σ H D I (w D σ H q)⟩
theorem JB.of{st:List Stmt}{t:S2}{u:TS}(h:PSs X st u)(w:∀D σ H,F0 X.K t D σ H->u D σ H):JB X st t:=⟨λpins s σ H D I q=>h pins s σ H D I (w D σ H q)⟩
end
noncomputable def pN(b:Bool)(A B:Prop):Prop:=match b with
 |true=>A
 |false=>B
theorem ia{c:Bool}{A B:Prop}(e:c=true)(h:A):pN c A B:=by subst e;exact h
theorem lw{c:Bool}{A B:Prop}(e:c=false)(h:B):pN c A B:=by subst e;exact h
theorem sr{c:Bool}{A B:Prop}(h:c=true->A)(h2:c=false->B):pN c A B:=by cases c with|true=>exact h rfl|false=>exact h2 rfl
noncomputable abbrev eV(i:Nat):E2:=λτ G Q=>match gt τ i with
 |some p=>Q p G
 |none=>False
noncomputable abbrev eC(p:PV):E2:=λ_ G Q=>Q p G
noncomputable abbrev cV:A2:=λ_ G Q=>Q [] G
noncomputable abbrev aV(t:E2)(u:A2):A2:=λτ G Q=>t τ G λp G1=>u τ G1 λps G2=>Q (p::ps) G2
noncomputable abbrev jT(t:A2):E2:=λτ G Q=>t τ G λps G1=>ps.length<=1000/\Q (.tup ps) G1
noncomputable abbrev D9(t:A2):E2:=λτ G Q=>t τ G λps G1=>ps.length<=1000/\∀p,G1 p=none->Q (.ref p) (up G1 p (.lst ps))
noncomputable abbrev B2:=PV->PV->Gp->K2->Prop
noncomputable def ik(K:PySem.W.Frag)(r:B2):R2:=λx y H Q=>∃p q G Q2,Dv K H p x/\Dv K H q y/\Rep K H G/\r p q G Q2/\Cl K H Q2 Q
noncomputable abbrev iT(r:B2)(ta tb:E2):E2:=λτ G Q=>ta τ G λx G1=>tb τ G1 λy G2=>r x y G2 Q
noncomputable abbrev U2:=PV->Gp->K2->Prop
noncomputable def Mb(K:PySem.W.Frag)(r:U2):V->Hp->VK->Prop:=λx H Q=>∃p G Q2,Dv K H p x/\Rep K H G/\r p G Q2/\Cl K H Q2 Q
noncomputable abbrev eUn(r:U2)(ta:E2):E2:=λτ G Q=>ta τ G λx G1=>r x G1 Q
noncomputable abbrev C2:=List PV->Gp->K2->Prop
noncomputable def pT(K:PySem.W.Frag)(r:C2):List V->Hp->VK->Prop:=λxs H Q=>∃ps G Q2,Dvs K H ps xs/\Rep K H G/\r ps G Q2/\Cl K H Q2 Q
noncomputable abbrev tJ(r:C2)(t:A2):E2:=λτ G Q=>t τ G λps G1=>r ps G1 Q
noncomputable abbrev M2:=PV->List PV->Gp->K2->Prop
noncomputable def x6(K:PySem.W.Frag)(r:M2):V->List V->Hp->VK->Prop:=λx xs H Q=>∃p ps G Q2,Dv K H p x/\Dvs K H ps xs/\Rep K H G/\r p ps G Q2/\Cl K H Q2 Q
noncomputable abbrev yV(t:E2):T2:=λτ G Q=>t τ G λx G1=>match x with
 | .bl b=>Q b G1
 |_=>False
noncomputable abbrev tNo(t:T2):T2:=λτ G Q=>t τ G λb G1=>Q (!b) G1
noncomputable abbrev Li(t u:T2):T2:=λτ G Q=>t τ G λb G1=>pN b (Q true G1) (u τ G1 Q)
noncomputable abbrev Hu(t u:T2):T2:=λτ G Q=>t τ G λb G1=>pN b (u τ G1 Q) (Q false G1)
noncomputable abbrev eNo(t:E2):E2:=λτ G Q=>t τ G λx G1=>match x with
 | .bl b=>Q (.bl (!b)) G1
 |_=>False
noncomputable abbrev OL(t u:E2):E2:=λτ G Q=>t τ G λx G1=>match x with
 | .bl b=>pN b (Q (.bl true) G1) (u τ G1 Q)
 |_=>False
noncomputable abbrev Nn(t u:E2):E2:=λτ G Q=>t τ G λx G1=>match x with
 | .bl b=>pN b (u τ G1 Q) (Q (.bl false) G1)
 |_=>False
noncomputable abbrev OM(c:T2)(t u:E2):E2:=λτ G Q=>c τ G λb G1=>pN b (t τ G1 Q) (u τ G1 Q)
section
variable{X:Cx}{a b c e:Expr}{es:List Expr}{ta tb:E2}{t:A2}{tA tB:T2}{pos p:Pos}{x:Str}
theorem jv(i:Nat)(hN:X.N[i]? =some x:=by rfl)(hv:OP X.env.scope x:=by first|exact Or.inl rfl|exact Or.inr (Or.inl rfl)|exact Or.inr (Or.inr rfl))(hd:(x==("__debug__" :Str))=false:=by decide)
  (hcd:(x==("__classdict__" :Str))=false:=by decide):JE X (.Name x pos) (eV i):= .of (IU hN hv hd hcd) λσ H Q ⟨τ,G,Q2,rs,rp,h,cl⟩=>by
 unfold eV at h
 split at h
 ·rename_i p e
  obtain⟨v,ev,d⟩:=rs.2 i p (GO e)
  exact⟨v,ev,cl _ _ _ _ h d rp .refl⟩
 ·exact h.elim
theorem JE.const{p:PV}{v:V}(h:PE X e (tC v))(d:∀H,Dv X.K H p v):JE X e (eC p):= .of h λσ H Q hPl=>by obtain⟨τ,G,Q2,rs,rp,q,cl⟩:=hPl;exact cl _ _ _ _ q (d H) rp .refl
theorem MH{i:Int}{j:Nat}:JE X (.Constant (.int i) j pos) (eC (.int i)):= .const CK λ_=>rfl
theorem OE{v:Bool}{j:Nat}:JE X (.Constant (.bool v) j pos) (eC (.bl v)):= .const LN λ_=>rfl
theorem Mw{j:Nat}:JE X (.Constant .none j pos) (eC .non):= .const IZ λ_=>rfl
theorem Ms{z:Str}{j:Nat}:JE X (.Constant (.str z) j pos) (eC (.str z)):= .const IW λ_=>rfl
theorem Ki{v:V}{q:PV}{u:ae}(hm:X.mg x=some u)(r:RelV v u)(d:∀H,Dv X.K H q v)(hg:Gl X x:=by rfl)(hd:(x==("__debug__" :Str))=false:=by decide):JE X (.Name x pos) (eC q):= .const (Fs hg hm r hd) d
theorem Mq{T:String}(hm:X.mg x=none)(hv:cu x=some (.type T))(hg:Gl X x:=by rfl)(hn:x≠ "__name__" :=by decide)(hd:(x==("__debug__" :Str))=false:=by decide):JE X (.Name x pos) (eC (.ty T)):=
 .const (Fz (v:= .ty T) hg hm hv rfl hn hd) λ_=>rfl
theorem Ke:JA X [] cV:= .of Je λσ H Q hPl=>by obtain⟨τ,G,Q2,rs,rp,q,cl⟩:=hPl;exact cl _ _ _ _ q .nil rp .refl
theorem GB(ha:JE X e ta)(hr:JA X es t)(hs:aB (e::es) X.env=(false,eval e X.env)::aB es X.env:=by rfl):JA X (e::es) (aV ta t):= .of (FA ha.h hr.h hs) λσ H Q hPl=>by
 obtain⟨τ,G,Q2,rs,rp,q,cl⟩:=hPl
 refine⟨τ,G,_,rs,rp,q,λp G1 v H1 q1 d1 r1 k1=> ?_⟩
 exact⟨τ,G1,_,rs.keep k1,r1,q1,λps G2 vs H2 q2 d2 r2 k2=>cl _ _ _ _ q2 (.cons (d1.keep k2) d2) r2 (k1.trans k2)⟩
theorem Mr{x1:Nat}(h:JA X es t):JE X (.Tuple es x1 pos) (jT t):= .of (IV h.h) λσ H Q hPl=>by
 obtain⟨τ,G,Q2,rs,rp,q,cl⟩:=hPl
 refine⟨τ,G,_,rs,rp,q,λps G1 vs H1 q1 d1 r1 k1=> ?_⟩
 obtain⟨hl,q1⟩:=q1
 refine⟨by rw[d1.length];exact aP hl (by decide),λa ha=> ?_⟩
 have kn:Keep X.K H1 (upd H1 a (.tup vs)):=bQ ha
 exact cl _ _ _ _ q1 ⟨a,vs,rfl,.of cG,d1.keep kn⟩ (r1.tup ha) (k1.trans kn)
theorem Mz(h:JA X es t):JE X (.List es pos) (D9 t):= .of (Ja h.h) λσ H Q hPl=>by
 obtain⟨τ,G,Q2,rs,rp,q,cl⟩:=hPl
 refine⟨τ,G,_,rs,rp,q,λps G1 vs H1 q1 d1 r1 k1=> ?_⟩
 obtain⟨hl,q1⟩:=q1
 refine⟨by rw[d1.length];exact aP hl (by decide),λa ha=> ?_⟩
 have kn:Keep X.K H1 (upd H1 a (.lst vs)):=bQ ha
 exact cl _ _ _ _ (q1 a (r1.none ha)) rfl (r1.new ha d1) (k1.trans kn)
theorem uH{r:B2}{σ:St}{H:Hp}{Q:VK}(q:pS X.K (iT r ta tb) σ H Q):Lj (ik X.K r) (pS X.K ta) (pS X.K tb) σ H Q:=by
 obtain⟨τ,G,Q2,rs,rp,q,cl⟩:=q
 refine⟨τ,G,_,rs,rp,q,λp G1 v H1 q1 d1 r1 k1=>⟨τ,G1,_,rs.keep k1,r1,q1,λp2 G2 v2 H2 q2 d2 r2 k2=> ?_⟩⟩
 exact⟨p,p2,G2,Q2,d1.keep k2,d2,r2,q2,cl.keep (k1.trans k2)⟩
theorem ya{op:Operator}{r:B2}(ho:jl X (dO op) (ik X.K r))(ha:JE X a ta)(hb:JE X b tb):JE X (.BinOp a op b pos) (iT r ta tb):= .of (LL ho ha.h hb.h) λσ H Q q=>uH q
theorem zK{op:CmpOp}{r:B2}(ho:jl X (cL op) (ik X.K r))(ha:JE X a ta)(hb:JE X b tb)(hm:gq op b=false):JE X (.Compare a [op] [b] pos) (iT r ta tb):= .of (Fx ho ha.h hb.h hm) λσ H Q q=>uH q
theorem zC{u:TE}(w:∀σ H Q,pS X.K ta σ H Q->u σ H Q){σ:St}{H:Hp}{Q:Bool->Hp->Prop}(q:wq X.K (yV ta) σ H Q):Ho u σ H Q:=by
 obtain⟨τ,G,Q2,rs,rp,q,cl⟩:=q
 refine w _ _ _ ⟨τ,G,_,rs,rp,q,λp G1 v H1 q1 d1 r1 k1=> ?_⟩
 cases p with
 |bl b=>
  obtain rfl:v= .bl b:=d1
  exact⟨b,rfl,cl _ _ _ q1 r1 k1⟩
 |_=>exact bZ q1
theorem md{op:CmpOp}{r:B2}(ho:jl X (cL op) (ik X.K r))(ha:JE X a ta)(hb:JE X b tb)(hm:gq op b=false):JT X (.Compare a [op] [b] pos) (yV (iT r ta tb)):= .of (E8 ho ha.h hb.h hm) λσ H Q q=>zC (λ_ _ _ z=>uH z) q
theorem JM(h:JE X e ta)(he:∀whole,isTrue e X.env whole=(do let v <-whole;standAt e.pos;holding [v] (truthy v)):=by intro _;rfl):JT X e (yV ta):= .of (II h.h he) λσ H Q q=>zC (λ_ _ _ z=>z) q
theorem JN(ha:JT X a tA):JT X (.UnaryOp .Not a pos) (tNo tA):= .of (IJ ha.h) λσ H Q hPl=>by obtain⟨τ,G,Q2,rs,rp,q,cl⟩:=hPl;exact⟨τ,G,_,rs,rp,q,λb G1 H1 q1 r1 k1=>cl _ _ _ q1 r1 k1⟩
theorem JK(ha:JT X a tA):JW X (.BoolOp .Or [a] pos) tA:=⟨IG ha.h⟩
theorem Gf(ha:JT X a tA):JW X (.BoolOp .And [a] pos) tA:=⟨E7 ha.h⟩
theorem Me{rest:List Expr}(ha:JT X a tA)(hb:JW X (.BoolOp .Or (b::rest) pos) tB):JW X (.BoolOp .Or (a::b::rest) pos) (Li tA tB):= .of (LH ha.h hb.h) λσ H Q hPl=>by
 obtain⟨τ,G,Q2,rs,rp,q,cl⟩:=hPl
 refine⟨τ,G,_,rs,rp,q,λb G1 H1 q1 r1 k1=> ?_⟩
 cases b with
 |true=>exact uP (cl _ _ _ q1 r1 k1)
 |false=>exact uQ ⟨τ,G1,Q2,rs.keep k1,r1,q1,cl.keep k1⟩
theorem JL{rest:List Expr}(ha:JT X a tA)(hb:JW X (.BoolOp .And (b::rest) pos) tB):JW X (.BoolOp .And (a::b::rest) pos) (Hu tA tB):= .of (IH ha.h hb.h) λσ H Q hPl=>by
 obtain⟨τ,G,Q2,rs,rp,q,cl⟩:=hPl
 refine⟨τ,G,_,rs,rp,q,λb G1 H1 q1 r1 k1=> ?_⟩
 cases b with
 |true=>exact uP ⟨τ,G1,Q2,rs.keep k1,r1,q1,cl.keep k1⟩
 |false=>exact uQ (cl _ _ _ q1 r1 k1)
theorem JW.jt(h:JW X e tA):JT X e tA:=⟨h.h.pt⟩
theorem Mv(ha:JE X a ta):JE X (.UnaryOp .Not a pos) (eNo ta):= .of (IY ha.h) λσ H Q hPl=>by
 obtain⟨τ,G,Q2,rs,rp,q,cl⟩:=hPl
 refine⟨τ,G,_,rs,rp,q,λp G1 v H1 q1 d1 r1 k1=> ?_⟩
 cases p with
 |bl b=>
  obtain rfl:v= .bl b:=d1
  exact⟨b,rfl,cl _ _ _ _ q1 rfl r1 k1⟩
 |_=>exact bZ q1
theorem Mu{op:BoolOp}(h:JE X a ta):JE X (.BoolOp op [a] pos) ta:=⟨IX h.h⟩
theorem MK{rest:List Expr}(ha:JE X a ta)(hb:JE X (.BoolOp .And (b::rest) pos) tb):JE X (.BoolOp .And (a::b::rest) pos) (Nn ta tb):= .of (Jd ha.h hb.h) λσ H Q hPl=>by
 obtain⟨τ,G,Q2,rs,rp,q,cl⟩:=hPl
 refine⟨τ,G,_,rs,rp,q,λp G1 v H1 q1 d1 r1 k1=> ?_⟩
 cases p with
 |bl b=>
  obtain rfl:v= .bl b:=d1
  refine⟨b,rfl,?_⟩
  cases b with
  |true=>exact uP ⟨τ,G1,Q2,rs.keep k1,r1,q1,cl.keep k1⟩
  |false=>exact uQ (cl _ _ _ _ q1 rfl r1 k1)
 |_=>exact bZ q1
theorem OC{rest:List Expr}(ha:JE X a ta)(hb:JE X (.BoolOp .Or (b::rest) pos) tb):JE X (.BoolOp .Or (a::b::rest) pos) (OL ta tb):= .of (LK ha.h hb.h) λσ H Q hPl=>by
 obtain⟨τ,G,Q2,rs,rp,q,cl⟩:=hPl
 refine⟨τ,G,_,rs,rp,q,λp G1 v H1 q1 d1 r1 k1=> ?_⟩
 cases p with
 |bl b=>
  obtain rfl:v= .bl b:=d1
  refine⟨b,rfl,?_⟩
  cases b with
  |true=>exact uP (cl _ _ _ _ q1 rfl r1 k1)
  |false=>exact uQ ⟨τ,G1,Q2,rs.keep k1,r1,q1,cl.keep k1⟩
 |_=>exact bZ q1
theorem MI(hc:JT X c tA)(ha:JE X a ta)(hb:JE X b tb):JE X (.IfExp c a b pos) (OM tA ta tb):= .of (CQ hc.h ha.h hb.h) λσ H Q hPl=>by
 obtain⟨τ,G,Q2,rs,rp,q,cl⟩:=hPl
 refine⟨τ,G,_,rs,rp,q,λb G1 H1 q1 r1 k1=> ?_⟩
 cases b with
 |true=>exact uP ⟨τ,G1,Q2,rs.keep k1,r1,q1,cl.keep k1⟩
 |false=>exact uQ ⟨τ,G1,Q2,rs.keep k1,r1,q1,cl.keep k1⟩
theorem OB{op:UnaryOp}{r:U2}(ho:Ny X (unaryOp op) (Mb X.K r))(ha:JE X a ta):JE X (.UnaryOp op a pos) (eUn r ta):= .of (HH ho ha.h) λσ H Q hPl=>by
 obtain⟨τ,G,Q2,rs,rp,q,cl⟩:=hPl
 exact⟨τ,G,_,rs,rp,q,λp G1 v H1 q1 d1 r1 k1=>⟨p,G1,Q2,d1,r1,q1,cl.keep k1⟩⟩
theorem OD{r:B2}(hr:K8 X (ik X.K r))(ha:JE X a ta)(hb:JE X b tb)(hs:vv b):JE X (.Subscript a b pos) (iT r ta tb):= .of (LM hr ha.h hb.h hs) λσ H Q q=>uH q
theorem Dy{r:C2}{σ:St}{H:Hp}{Q:VK}(q:pS X.K (tJ r t) σ H Q):Ob (pT X.K r) (Gb X.K t) σ H Q:=by
 obtain⟨τ,G,Q2,rs,rp,q,cl⟩:=q
 exact⟨τ,G,_,rs,rp,q,λps G1 vs H1 q1 d1 r1 k1=>⟨ps,G1,Q2,d1,r1,q1,cl.keep k1⟩⟩
theorem lf{id:String}{r:C2}(hc:hV X (.builtin id) (pT X.K r))(hm:X.mg x=none)(hv:cu x=some (.builtin id))(ha:JA X (e::es) t)(hg:Gl X x:=by rfl)(hn:x≠ "__name__" :=by decide)(hdb:(x==("__debug__" :Str))=false:=by decide)
  (he:aB (e::es) X.env=(false,eval e X.env)::aB es X.env:=by rfl) (hpl:(ce pos (aB es X.env)).any (·.1)=false:=by rfl):JE X (.Call (.Name x p) (e::es) [] pos) (tJ r t):= .of (CZ hc hg hm hv ha.h hn hdb he hpl) λσ H Q q=>Dy q
theorem rB{T:String}{r:C2}(hc:hV X (.type T) (pT X.K r))(hm:X.mg x=none)(hv:cu x=some (.type T))(ha:JA X (e::es) t)(hg:Gl X x:=by rfl)(hn:x≠ "__name__" :=by decide)(hdb:(x==("__debug__" :Str))=false:=by decide)
  (he:aB (e::es) X.env=(false,eval e X.env)::aB es X.env:=by rfl) (hpl:(ce pos (aB es X.env)).any (·.1)=false:=by rfl):JE X (.Call (.Name x p) (e::es) [] pos) (tJ r t):= .of (Au hc hg hm hv ha.h hn hdb he hpl) λσ H Q q=>Dy q
end
noncomputable abbrev vY:S2:=λD τ G=>D.nx τ G
noncomputable abbrev oH(t u:S2):S2:=λD τ G=>t {D with nx:=u D} τ G
noncomputable abbrev pP(t:E2):S2:=λD τ G=>t τ G D.rt
noncomputable abbrev qV(t:E2):S2:=λD τ G=>t τ G λ_ G1=>D.nx τ G1
noncomputable abbrev NE(c:T2)(t u:S2):S2:=λD τ G=>c τ G λb G1=>pN b (t D τ G1) (u D τ G1)
noncomputable abbrev Ey:=PV->je->Gp->(je->Gp->Prop)->Prop
noncomputable def Mc(K:PySem.W.Frag)(g:Ey):TG:=λv σ H Q=>∃p τ G Q2,Dv K H p v/\RSt K H σ τ/\Rep K H G/\g p τ G Q2/\ClS K H Q2 Q
structure JG(X:Cx)(tg:Expr)(g:Ey):Prop where
 h:PG X tg (Mc X.K g)
theorem JG.of{X:Cx}{tg:Expr}{g:Ey}{u:TG}(h:PG X tg u)(w:∀v σ H Q,Mc X.K g v σ H Q->u v σ H Q):JG X tg g:=⟨λpins s σ H v z Q I r q=>h pins s σ H v z Q I r (w v σ H Q q)⟩
noncomputable abbrev gN(i:Nat):Ey:=λp τ G Q=>Q (st τ i (some p)) G
noncomputable abbrev NL(i j:Nat):Ey:=λp τ G Q=>match p with
 | .tup [x,y]=>Q (st (st τ i (some x)) j (some y)) G
 |_=>False
noncomputable abbrev oI(t:E2)(g:Ey):S2:=λD τ G=>t τ G λp G1=>g p τ G1 D.nx
section
variable{X:Cx}{a b c e tg:Expr}{ta:E2}{tA:T2}{pos p:Pos}{x:Str}{st:Stmt}{rest sa sb:List Stmt}{u v:S2}{g:Ey}
theorem Gr{i:Nat}(hN:X.N.Nodup)(hi:X.N[i]? =some x)(hx:xh X.env.scope x)(hf:X.fn x=true\/X.env.scope.names.lookup x=some .local:=by first|exact .inl rfl|exact .inr rfl|assumption):JG X (.Name x pos) (gN i):=
 .of (iw hN hi hx hf) λv σ H Q hPl=>by obtain⟨p,τ,G,Q2,d,rs,rp,q,cl⟩:=hPl;exact cl _ _ _ _ q (rs.set d i) rp .refl
theorem DH{i j:Nat}{y:Str}{p1 p2:Pos}{k:Nat}(hc:X.calm=true)(hN:X.N.Nodup)(hi:X.N[i]? =some x)(hx:xh X.env.scope x)(hj:X.N[j]? =some y)(hy:xh X.env.scope y)
  (hf:X.fn x=true\/X.env.scope.names.lookup x=some .local:=by first|exact .inl rfl|exact .inr rfl|assumption) (hf2:X.fn y=true\/X.env.scope.names.lookup y=some .local:=by first|exact .inl rfl|exact .inr rfl|assumption):
  JG X (.Tuple [.Name x p1,.Name y p2] k pos) (NL i j):=
 .of (xL (n:=2) hc (iF (iw hN hi hx hf) (iF (iw hN hj hy hf2) uD)) (by rfl) (by rfl)) λv σ H Q hPl=>by
  obtain⟨p,τ,G,Q2,d,rs,rp,q,cl⟩:=hPl
  unfold NL at q
  split at q
  ·rename_i p1 p2
   obtain⟨a,vs,rfl,sq,dv⟩:=d
   obtain⟨v1,r1,rfl,d1,dv⟩:=dv
   obtain⟨v2,r2,rfl,d2,dv⟩:=dv
   obtain rfl:r2=[]:=dv
   exact⟨a,[v1,v2],rfl,sq,rfl,v1,[v2],rfl,v2,[],rfl,rfl,cl _ _ _ _ q ((rs.set d1 i).set d2 j) rp .refl⟩
  ·exact q.elim
theorem oY(he:JE X e ta)(hg:JG X tg g)(hs:swapsWithSole [tg] e pos.line X.env=pure false:=by rfl)(hw:swappedStores [tg] e X.env=pure none:=by rfl)
  (h1:(ky [tg] X.env).map (·.2)=[assign tg X.env]:=by rfl):JS X (.Assign [tg] e pos) (oI ta g):= .of (IP he.h hg.h hs hw h1) λD σ H ⟨τ,G,D2,rs,rp,q,cl⟩=>by
 exact⟨τ,G,_,rs,rp,q,λp G1 v H1 q1 d1 r1 k1=>⟨p,τ,G1,D2.nx,d1,rs.keep k1,r1,q1,cl.nx.keep k1⟩⟩
theorem JQ{i:Nat}{pos':Pos}(he:JE X e ta)(hN:X.N.Nodup)(hi:X.N[i]? =some x)(hx:xh X.env.scope x)(hs:jh e (some (.Name x pos')) pos.line X.env=pure false:=by rfl)
  (hf:X.fn x=true\/X.env.scope.names.lookup x=some .local:=by first|exact .inl rfl|exact .inr rfl|assumption):JS X (.Assign [.Name x pos'] e pos) (oI ta (gN i)):= .of (IK hN hi hx he.h hs hf) λD σ H ⟨τ,G,D2,rs,rp,q,cl⟩=>by
 exact⟨τ,G,_,rs,rp,q,λp G1 v H1 q1 d1 r1 k1=>cl.nx _ _ _ _ q1 ((rs.keep k1).set d1 i) r1 k1⟩
theorem Gh(he:JE X e ta)(hs:jh e none pos.line X.env=pure false:=by rfl):JS X (.Expr e pos) (qV ta):= .of (Fc he.h hs) λD σ H hPl=>by
 obtain⟨τ,G,D2,rs,rp,q,cl⟩:=hPl
 exact⟨τ,G,_,rs,rp,q,λp G1 v H1 q1 d1 r1 k1=>cl.nx _ _ _ _ q1 (rs.keep k1) r1 k1⟩
theorem JR(he:JE X e ta):JS X (.Return (some e) pos) (pP ta):= .of (IL he.h) λD σ H hPl=>by obtain⟨τ,G,D2,rs,rp,q,cl⟩:=hPl;exact⟨τ,G,_,rs,rp,q,cl.rt⟩
theorem Ml(hc:JT X c tA)(ha:JB X sa u)(hb:JB X sb v):JS X (.If c sa sb pos) (NE tA u v):= .of (LI hc.h ha.h hb.h) λD σ H hPl=>by
 obtain⟨τ,G,D2,rs,rp,q,cl⟩:=hPl
 refine⟨τ,G,_,rs,rp,q,λb G1 H1 q1 r1 k1=> ?_⟩
 cases b with
 |true=>exact uP ⟨τ,G1,D2,rs.keep k1,r1,q1,cl.keep k1⟩
 |false=>exact uQ ⟨τ,G1,D2,rs.keep k1,r1,q1,cl.keep k1⟩
theorem Gg:JS X (.Pass pos) vY:= .of Fb λD σ H hPl=>by obtain⟨τ,G,D2,rs,rp,q,cl⟩:=hPl;exact cl.nx _ _ _ _ q rs rp .refl
theorem Ka:JB X [] vY:= .of Fa λD σ H hPl=>by obtain⟨τ,G,D2,rs,rp,q,cl⟩:=hPl;exact cl.nx _ _ _ _ q rs rp .refl
theorem J9(h:JS X st u):JB X [st] u:=⟨E9 h.h⟩
theorem Gz{s2:Stmt}(h:JS X st u)(h2:JB X (s2::rest) v):JB X (st::s2::rest) (oH u v):= .of (Cu h.h h2.h) λD σ H hPl=>by
 obtain⟨τ,G,D2,rs,rp,q,cl⟩:=hPl
 refine⟨τ,G,{D2 with nx:=v D2},rs,rp,q,⟨λτ1 G1 σ1 H1 q1 rs1 r1 k1=> ?_,cl.rt,cl.bk,cl.ct⟩⟩
 exact⟨τ1,G1,D2,rs1,r1,q1,cl.keep k1⟩
end
noncomputable abbrev yy:=PV->PV->PV->Gp->(Gp->Prop)->Prop
noncomputable def uI(K:PySem.W.Frag)(r:yy):yx:=λo i v H Q=>∃po pi pv G Q2,Dv K H po o/\Dv K H pi i/\Dv K H pv v/\Rep K H G/\r po pi pv G Q2/\∀G' H',Q2 G'->Rep K H' G'->Keep K H H'->Q H'
noncomputable def EW:yy:=λo i v G Q=>match o,i with
 | .ref a,.int k=>match G a with
  |some (.lst ps)=>match AV ps.length k with
   |some j=>Q (up G a (.lst (ps.set j v)))
   |none=>False
  |_=>False
 |_,_=>False
noncomputable abbrev Na(to ti:E2)(r:yy):Ey:=λp τ G Q=>to τ G λo G1=>ti τ G1 λi G2=>r o i p G2 λG3=>Q τ G3
theorem PSet.of{X:Cx}{t u:yx}(h:PSet X u)(w:∀o i v H Q,t o i v H Q->u o i v H Q):PSet X t:=λpins s σ H o i v ov iv z Q I r1 r2 r3 q=>h pins s σ H o i v ov iv z Q I r1 r2 r3 (w _ _ _ _ _ q)
theorem Hw{X:Cx}:PSet X (uI X.K EW):=PSet.of B5 λo i v H Q hPl=>by
 obtain⟨po,pi,pv,G,Q2,d1,d2,d3,rp,q,cl⟩:=hPl
 unfold EW at q
 split at q
 ·rename_i a k
  split at q
  ·rename_i ps e
   split at q
   ·rename_i j ej
    obtain rfl:o= .ref a:=d1
    obtain rfl:i= .int k:=d2
    obtain⟨vs,hv,dv⟩:=rp.lst e
    refine⟨a,vs,k,j,rfl,rfl,hv,by rw[dv.length];exact ej,cl _ _ q (rp.put hv (dv.set d3 j)) (gu hv)⟩
   ·exact q.elim
  ·exact q.elim
 ·exact q.elim
noncomputable abbrev Nx(to ti te:E2)(rg r:B2)(rs:yy):S2:=λD τ G=>to τ G λo G1=>ti τ G1 λi G2=>rg o i G2 λx G3=>te τ G3 λy G4=>r x y G4 λz G5=>rs o i z G5 λG6=>D.nx τ G6
section
variable{X:Cx}{o i e:Expr}{to ti te:E2}{pos:Pos}
theorem rA{r:yy}(ho:JE X o to)(hi:JE X i ti)(hs:PSet X (uI X.K r))
  (ha:∀v,assign (.Subscript o i pos) X.env v=(do
   let ov <-holding [v] (eval o X.env)
   let iv <-holding [v,ov] (eval i X.env)
   standAt pos
   holding [v,ov,iv] (setItem ov iv v)
   release [v,ov,iv] []):=by intro _;rfl):JG X (.Subscript o i pos) (Na to ti r):= .of (IR ho.h hi.h hs ha) λv σ H Q ⟨p,τ,G,Q2,d,rs,rp,q,cl⟩=>by
 refine⟨τ,G,_,rs,rp,q,λp1 G1 v1 H1 q1 d1 r1 k1=>⟨τ,G1,_,rs.keep k1,r1,q1,λp2 G2 v2 H2 q2 d2 r2 k2=> ?_⟩⟩
 exact⟨p1,p2,p,G2,_,d1.keep k2,d2,d.keep (k1.trans k2),r2,q2,λG3 H3 q3 r3 k3=>cl _ _ _ _ q3 (rs.keep ((k1.trans k2).trans k3)) r3 ((k1.trans k2).trans k3)⟩
theorem Gj{op:Operator}{rg r:B2}{rst:yy}{tpos:Pos}(hg:KZ X (ik X.K rg))(hp:NP X op (ik X.K r))(hs:PSet X (uI X.K rst))(ho:JE X o to)(hi:JE X i ti)(he:JE X e te)
  (ha:∀ov iv new,augStore i ov iv new=(do holding [new,ov,iv] (setItem ov iv new);release [new,ov,iv] [];pure .next):=by intros;rfl):JS X (.AugAssign (.Subscript o i tpos) op e pos) (Nx to ti te rg r rst):= .of (Fe ho.h hi.h hg he.h hp hs ha) λD σ H ⟨τ,G,D2,rs,rp,q,cl⟩=>by
 refine⟨τ,G,_,rs,rp,q,λp1 G1 v1 H1 q1 d1 r1 k1=>⟨τ,G1,_,rs.keep k1,r1,q1,λp2 G2 v2 H2 q2 d2 r2 k2=>⟨p1,p2,G2,_,d1.keep k2,d2,r2,q2,λp3 G3 v3 H3 q3 d3 r3 k3=>
  ⟨τ,G3,_,rs.keep ((k1.trans k2).trans k3),r3,q3,λp4 G4 v4 H4 q4 d4 r4 k4=>⟨p3,p4,G4,_,d3.keep k4,d4,r4,q4,λp5 G5 v5 H5 q5 d5 r5 k5=>⟨p1,p2,p5,G5,_,d1.keep (((k2.trans k3).trans k4).trans k5),d2.keep ((k3.trans k4).trans k5),d5,r5,q5,λG6 H6 q6 r6 k6=> ?_⟩⟩⟩⟩⟩⟩
 have kk:Keep X.K H H6:=((((k1.trans k2).trans k3).trans k4).trans k5).trans k6
 exact cl.nx _ _ _ _ q6 (rs.keep kk) r6 kk
end
noncomputable abbrev hX:=List PV->Gp->K2->Prop
noncomputable def Hv(K:PySem.W.Frag)(sp:hX):Sp:=λvs H Q _=>∃ps G Q2,Dvs K H ps vs/\Rep K H G/\sp ps G Q2/\Cl K H Q2 Q
@[reducible] noncomputable def i5:List Str->List PV->je
 |[],_=>[]
 |_::N,p::ps=>some p::i5 N ps
 |_::N,[]=>none::i5 N []
theorem qO:∀N:List Str,i5 N []=bJ N.length none
 |[]=>rfl
 |_::N=>by simp[i5,qO N,dz]
theorem sP:∀(N:List Str) (ps:List PV),ps.length<=N.length->i5 N ps=ps.map some++bJ (N.length-ps.length) none
 |[],[],_=>rfl
 |[],_::_,h=>by simp at h
 |_::N,p::ps,h=>by
  simp only[i5,aw,aM,iQ]
  rw[sP N ps (by simpa using h)]
  simp
 |n::N,[],_=>by rw[qO];simp
theorem sO{K:PySem.W.Frag}{H:Hp}{N:List Str}{ps:List PV}{vs:List V}(d:Dvs K H ps vs)(hN:ps.length<=N.length):RSt K H (L2.start N vs) (i5 N ps):=by
 have hl:=d.length
 rw[sP N ps hN]
 refine⟨by unfold L2.start;simp[hl],λi p e=> ?_⟩
 unfold L2.start
 by_cases hi:i<ps.length
 ·rw[bT (by simpa using hi),aC]at e
  rw[bT (by simpa [hl]using hi),aC]
  cases q:ps[i]? with
  |none=>rw[q]at e;cases e
  |some p'=>
   rw[q]at e
   have:p'=p:=by simpa using e
   subst this
   obtain⟨v,ev,dv⟩:=d.at q
   exact⟨v,by rw[ev];rfl,dv⟩
 ·rw[bO (by simpa using Nat.le_of_not_lt hi),kA]at e
  split at e<;>cases e
noncomputable def GE(G0 G:Gp):Prop:=∀a o,G0 a=some o->G a=some o
theorem GE.refl{G:Gp}:GE G G:=λ_ _ h=>h
theorem GE.trans{G0 G1 G2:Gp}(a:GE G0 G1)(b:GE G1 G2):GE G0 G2:=λc o h=>b c o (a c o h)
theorem GE.new{G0 G:Gp}{a:Addr}{o:MO}(h:GE G0 G)(n:G a=none):GE G0 (up G a o):=λb u q=>by
 have:b≠a:=λz=>by subst z;rw[h _ _ q]at n;cases n
 rw[aE this];exact h b u q
noncomputable abbrev iL(P:aK)(w:aX)(K:PySem.W.Frag)(mg:Str->Option ae)(base:Heap)(k:Nat)(f:Addr)(fd:a8)(ps:List Str)(sp:hX):Prop:=FnOk P w K mg base Hn k f fd ps (Hv K sp)
structure cq(P:aK)(w:aX)(K:PySem.W.Frag)(mg:Str->Option ae)(base:Heap)(k:Nat)(x:Str)(f:Addr)(fd:a8)(ps:List Str)(sp:hX):Prop where
 ok:iL P w K mg base k f fd ps sp
 b:Binds K fd ps []
 kp:PySem.W.keepIn K (.ref f)=true
 m:mg x=some (.ref f)
section
variable{P:aK}{w:aX}{K:PySem.W.Frag}{mg:Str->Option ae}{base:Heap}
theorem jX{x qual:Str}{st:Stmt}{f:Addr}{fd:a8}{N ps:List Str}{k:Nat}{sp:hX}(F:Fun K x qual st f fd)(S:bv N ps (aN st))(len:∀vs G Q,sp vs G Q->vs.length=ps.length)
  (hbody:∀(cdv:ae) (A:Around) (outer:List Env) (s:al) (H:Hp) (E:XK) (as:List PV) (G:Gp) (Q:K2),Room k (A.deeper (PyProof.Rows.envOfC qual (aN st) s.heap.objs.size f cdv))->sp as G Q->
   ∃t,JB (wO Hn P w K mg base N qual (aN st) f cdv A outer s H E).nox (iU st) t/\t {nx:=λ_ G'=>∃G0,GE G0 G'/\Q .non G0,rt:=λp G'=>∃G0,GE G0 G'/\Q p G0} (i5 N as) G):iL P w K mg base (k+1) f fd ps sp:=by
 refine F.ok S (λvs H Q E h=> ?_) (λcdv A outer s H vs Q E hr h=> ?_)
 ·obtain⟨as,G,Q2,d,_,h,_⟩:=h
  rw[d.length];exact len _ _ _ h
 obtain⟨as,G,Q2,d,rp,h,cl⟩:=h
 obtain⟨t,j,q⟩:=hbody cdv A outer s H E as G Q2 hr h
 refine⟨_,j.h,i5 N as,G,_,sO d (by rw[len _ _ _ h,<-S.pre,bo];ac_nf),rp,q,⟨λτ G' σ H' ⟨G0,e0,q1⟩ _ r1 k1=>cl _ _ _ _ q1 rfl (r1.sub e0) k1,λp G' v H' ⟨G0,e0,q1⟩ d1 r1 k1=>cl _ _ _ _ q1 d1 (r1.sub e0) k1,λ_ _ _ _ q1=>q1.elim,λ_ _ _ _ q1=>q1.elim⟩⟩
end
noncomputable abbrev gS(sp:hX)(t:A2):E2:=λτ G Q=>t τ G λps G1=>sp ps G1 Q
section
variable{X:Cx}{e:Expr}{es:List Expr}{t:A2}{pos p:Pos}{x:Str}
theorem Dz{sp:hX}{σ:L2.St}{H:Hp}{Q:VK}(q:pS X.K (gS sp t) σ H Q):Ht (Hv X.K sp) [] E0 (Gb X.K t) σ H Q:=by
 obtain⟨τ,G,Q2,rs,rp,q,cl⟩:=q
 refine⟨τ,G,_,rs,rp,q,λps G1 vs H1 q1 d1 r1 k1=> ?_⟩
 show Hv X.K sp (vs++[]) H1 Q E0
 rw[cr]
 exact⟨ps,G1,Q2,d1,r1,q1,cl.keep k1⟩
theorem MJ{k k':Nat}{f:Addr}{fd:a8}{ps:List Str}{sp:hX}(C:cq X.prog X.w X.K X.mg X.base k x f fd ps sp)(hr:Room k' X.A)(hk:k<=k')(ha:JA X (e::es) t)(hg:Gl X x:=by rfl)
  (hdb:(x==("__debug__" :Str))=false:=by decide) (he:aB (e::es) X.env=(false,eval e X.env)::aB es X.env:=by rfl) (hpl:(ce pos (aB es X.env)).any (·.1)=false:=by rfl):
  JE X (.Call (.Name x p) (e::es) [] pos) (gS sp t):= .of (Fy (C.ok.mono hk) hr hg C.m C.kp C.b .nil zw ha.h hdb he hpl) λσ H Q q=>Dz q
end
noncomputable abbrev IA(c:T2)(tb:S2):S2:=λD τ G=>∃W:Nat->je->Gp->Prop,(∃m,W m τ G)/\∀m τ G,W m τ G->
 c τ G λb G1=>pN b (tb {D with nx:=λτ' G'=>∃m',m'<m/\W m' τ' G',ct:=λτ' G'=>∃m',m'<m/\W m' τ' G',bk:=D.nx} τ G1) (D.nx τ G1)
section
variable{X:Cx}{c:Expr}{body:List Stmt}{tc:T2}{tb:S2}{pos:Pos}
theorem wx(hp:PassesOwn (aT X.prog X.w) X.A X.env X.xe)(hc:JT X c tc)(hb:JB X body tb):JS X (.While c body [] pos) (IA tc tb):= .of (Cv hp hc.h hb.h) λD σ H ⟨τ,G,D2,rs,rp,⟨W,⟨m0,w0⟩,turn⟩,cl⟩=>by
 refine⟨λm σ' H'=>∃τ' G',W m τ' G'/\RSt X.K H' σ' τ'/\Rep X.K H' G'/\Keep X.K H H',⟨m0,τ,G,w0,rs,rp,.refl⟩,?_⟩
 rintro m σ1 H1 ⟨τ1,G1,w1,rs1,rp1,k1⟩
 refine⟨τ1,G1,_,rs1,rp1,turn m τ1 G1 w1,λb G2 H2 q2 r2 k2=> ?_⟩
 cases b with
 |false=>exact uQ (cl.nx _ _ _ _ q2 (rs1.keep k2) r2 (k1.trans k2))
 |true=>
  refine uP ⟨λσ' H'=>∃τ' G',(∃m',m'<m/\W m' τ' G')/\RSt X.K H' σ' τ'/\Rep X.K H' G'/\Keep X.K H H',λσ' H' ⟨τ',G',⟨m',hm,w'⟩,a,b,c⟩=>⟨m',hm,τ',G',w',a,b,c⟩,?_⟩
  have kk:=k1.trans k2
  exact⟨τ1,G2,_,rs1.keep k2,r2,q2,⟨λτ' G' σ' H' q' a b c=>⟨τ',G',q',a,b,kk.trans c⟩,cl.rt.keep kk,cl.nx.keep kk,λτ' G' σ' H' q' a b c=>⟨τ',G',q',a,b,kk.trans c⟩⟩⟩
end
noncomputable abbrev sw:=je->Gp->(List PV->(Gp->Prop)->Gp->Prop)->Prop
noncomputable def w6(K:PySem.W.Frag)(H1:Hp)(J:It)(items:List PV)(c:Gp->Prop):Prop:=∀(i:Nat) H G,Keep K H1 H->Rep K H G->c G->
 (i<items.length->J.go i H)/\(i=items.length->J.stop i H)/\∀x H',i<items.length->J.yld i H x H'->∃p,items[i]? =some p/\Keep K H H'/\Rep K H' G/\Dv K H' p x
noncomputable def Ga(K:PySem.W.Frag)(t:sw):TI:=λσ H R=>∃τ G R2,RSt K H σ τ/\Rep K H G/\t τ G R2/\∀items c G' J H',R2 items c G'->Rep K H' G'->Keep K H H'->w6 K H' J items c->R J H'
structure JI(X:Cx)(tg iter:Expr)(t:sw):Prop where
 h:PI X tg iter (Ga X.K t)
theorem JI.of{X:Cx}{tg iter:Expr}{t:sw}{u:TI}(h:PI X tg iter u)(w:∀σ H R,Ga X.K t σ H R->u σ H R):JI X tg iter t:=⟨λpins s σ H R I q=>h pins s σ H R I (w σ H R q)⟩
noncomputable abbrev Cm(ti:sw)(g:Ey)(tb:S2):S2:=λD τ G=>ti τ G λitems c G1=>∃W:Nat->je->Gp->Prop,W 0 τ G1/\(∀i τ G,i<=items.length->W i τ G->c G)/\
 (∀i x τ G,items[i]? =some x->W i τ G->g x τ G λτ' G'=>tb {D with nx:=W (i+1),ct:=W (i+1),bk:=D.nx} τ' G')/\∀τ G,W items.length τ G->D.nx τ G
section
variable{X:Cx}{tg iter:Expr}{body:List Stmt}{ti:sw}{g:Ey}{tb:S2}{pos:Pos}
theorem DE(hp:PassesOwn (aT X.prog X.w) X.A X.env X.xe)(hc:X.calm=true)(hi:JI X tg iter ti)(hg:JG X tg g)(hb:JB X body tb)
  (hs:∀x,dY iter X.env x=pure x:=by intro _;rfl):JS X (.For tg iter body [] pos) (Cm ti g tb):= .of (IM hp hc hi.h hg.h hb.h hs) λD σ H ⟨τ,G,D2,rs,rp,q,cl⟩=>by
 refine⟨τ,G,_,rs,rp,q,λitems c G1 J H1 q1 r1 k1 ok=> ?_⟩
 obtain⟨W,w0,hcW,turn,done⟩:=q1
 refine⟨λi m σ' H'=>m=items.length-i/\i<=items.length/\∃τ' G',W i τ' G'/\RSt X.K H' σ' τ'/\Rep X.K H' G'/\Keep X.K H1 H',⟨_,rfl,bn _,τ,G1,w0,rs.keep k1,r1,.refl⟩,?_⟩
 rintro i m σ2 H2 ⟨rfl,hi,τ2,G2,w2,rs2,rp2,k2⟩
 obtain⟨o1,o2,o3⟩:=ok i H2 G2 k2 rp2 (hcW i τ2 G2 hi w2)
 by_cases hlt:i<items.length
 ·refine .inr ⟨o1 hlt,λσ' H'=>i+1<=items.length/\∃τ' G',W (i+1) τ' G'/\RSt X.K H' σ' τ'/\Rep X.K H' G'/\Keep X.K H1 H',λσ' H' ⟨hl,z⟩=>⟨items.length-(i+1),by ac_nf,rfl,hl,z⟩,λx H3 y=> ?_⟩
  obtain⟨p,ep,k3,r3,d3⟩:=o3 x H3 hlt y
  have k13:=k2.trans k3
  refine⟨p,τ2,G2,_,d3,rs2.keep k3,r3,turn i p τ2 G2 ep w2,λτ4 G4 σ4 H4 q4 rs4 r4 k4=> ?_⟩
  have k14:=k13.trans k4
  have k04:=k1.trans k14
  exact⟨τ4,G4,_,rs4,r4,q4,⟨λτ' G' σ' H' q' a b c=>⟨hlt,τ',G',q',a,b,k14.trans c⟩,cl.rt.keep k04,cl.nx.keep k04,λτ' G' σ' H' q' a b c=>⟨hlt,τ',G',q',a,b,k14.trans c⟩⟩⟩
 ·have e:i=items.length:=by ac_nf
  subst e
  exact .inl ⟨o2 rfl,cl.nx _ _ _ _ (done τ2 G2 w2) rs2 rp2 (k1.trans k2)⟩
end
mutual
noncomputable def mh:PV->PV->Bool
 | .non,.non=>true
 | .bl a,.bl b=>a==b
 | .bl a,.int b=>(if a then 1 else 0)==b
 | .int a,.bl b=>a==(if b then 1 else 0)
 | .int a,.int b=>a==b
 | .str a,.str b=>a==b
 | .tup xs,.tup ys=>kO xs ys
 |_,_=>false
noncomputable def kO:List PV->List PV->Bool
 |[],[]=>true
 |x::xs,y::ys=>mh x y&&kO xs ys
 |_,_=>false
end
mutual
noncomputable def dQ:Nat->PV->Bool
 |_,.non=>true
 |_,.bl _=>true
 |_,.int _=>true
 |_,.str _=>true
 |n+1,.tup xs=>dI n xs
 |_,_=>false
noncomputable def dI:Nat->List PV->Bool
 |_,[]=>true
 |n,x::xs=>dQ n x&&dI n xs
end
section
variable{X:Cx}{pins:List (Addr×Obj)}{σ:L2.St}{H:Hp}{s:al}{K:PySem.W.Frag}
mutual
theorem vX(I:Inv X pins σ H s):∀(n m:Nat) (p q:PV) {v:V},Dv X.K H p v->Dv X.K H q v->dQ n p=true->dQ m q=true->mh p q=true
 |n,m,.non,q,v,h1,h2,f1,f2=>by
  obtain rfl:v= .non:=h1
  cases q with
  |non=>rfl
  |tup qs=>obtain⟨a,vs,e,_⟩:=h2;cases e
  |ro qs=>cases m<;>cases f2
  |_=>first|cases (show _=_ from h2)|(cases m<;>cases f2)
 |n,m,.bl b,q,v,h1,h2,f1,f2=>by
  obtain rfl:v= .bl b:=h1
  cases q with
  |bl c=>cases (show V.bl b=V.bl c from h2);unfold mh;simp
  |tup qs=>obtain⟨a,vs,e,_⟩:=h2;cases e
  |ro qs=>cases m<;>cases f2
  |_=>first|cases (show _=_ from h2)|(cases m<;>cases f2)
 |n,m,.int b,q,v,h1,h2,f1,f2=>by
  obtain rfl:v= .int b:=h1
  cases q with
  |int c=>cases (show V.int b=V.int c from h2);unfold mh;simp
  |tup qs=>obtain⟨a,vs,e,_⟩:=h2;cases e
  |ro qs=>cases m<;>cases f2
  |_=>first|cases (show _=_ from h2)|(cases m<;>cases f2)
 |n,m,.str b,q,v,h1,h2,f1,f2=>by
  obtain rfl:v= .str b:=h1
  cases q with
  |str c=>cases (show V.str b=V.str c from h2);unfold mh;simp
  |tup qs=>obtain⟨a,vs,e,_⟩:=h2;cases e
  |ro qs=>cases m<;>cases f2
  |_=>first|cases (show _=_ from h2)|(cases m<;>cases f2)
 |n,m,.tup ps,q,v,h1,h2,f1,f2=>by
  obtain⟨a,vs,rfl,sq,d⟩:=h1
  cases q with
  |tup qs=>
   obtain⟨b,us,e,sq2,d2⟩:=h2
   cases e
   obtain rfl:=I.tuple_inj sq sq2
   cases n with
   |zero=>cases f1
   |succ n=>
    cases m with
    |zero=>cases f2
    |succ m=>
     unfold mh
     exact sU I n m ps qs d d2 f1 f2
  |ref b=>cases m<;>cases f2
  |ty b=>cases m<;>cases f2
  |ro b=>cases m<;>cases f2
  |_=>cases (show _=_ from h2)
 |n,m,.ref a,q,v,h1,h2,f1,f2=>by cases n<;>cases f1
 |n,m,.ty a,q,v,h1,h2,f1,f2=>by cases n<;>cases f1
 |n,m,.ro a,q,v,h1,h2,f1,f2=>by cases n<;>cases f1
theorem sU(I:Inv X pins σ H s):∀(n m:Nat) (ps qs:List PV) {vs:List V},Dvs X.K H ps vs->Dvs X.K H qs vs->dI n ps=true->dI m qs=true->kO ps qs=true
 |n,m,[],qs,vs,h1,h2,f1,f2=>by
  obtain rfl:vs=[]:=h1
  cases qs with
  |nil=>rfl
  |cons q qs=>obtain⟨_,_,e,_⟩:=h2;cases e
 |n,m,p::ps,qs,vs,h1,h2,f1,f2=>by
  obtain⟨v,r,rfl,d,d'⟩:=h1
  cases qs with
  |nil=>cases (show _=_ from h2)
  |cons q qs=>
   obtain⟨_,_,e,d2,d2'⟩:=h2
   cases e
   unfold dI at f1 f2
   rw[bC]at f1 f2
   unfold kO
   rw[vX I n m p q d d2 f1.1 f2.1,sU I n m ps qs d' d2' f1.2 f2.2]
   rfl
end
noncomputable def wN(ps qs:List PV)(j:Nat):Bool:=match ps[j]?,qs[j]? with
 |some p,some q=>mh p q
 |_,_=>true
theorem ka:∀(ps qs:List PV),ps.length=qs.length->(bE ps.length).all (wN ps qs)=kO ps qs
 |[],[],_=>rfl
 |p::ps,q::qs,h=>by
  have ih:=ka ps qs (by simpa using h)
  unfold kO
  rw[<-ih,aM,List.range_succ_eq_map,ko,List.all_map]
  rfl
 |[],_::_,h=>by simp at h
 |_::_,[],h=>by simp at h
theorem nM:∀{ps qs:List PV},ps.length≠qs.length->kO ps qs=false
 |[],[],h=>absurd rfl h
 |p::ps,q::qs,h=>by
  unfold kO
  rw[nM (ps:=ps) (qs:=qs) (λe=>h (by simp[e])),mF]
 |[],_::_,_=>rfl
 |_::_,[],_=>rfl
theorem rP(ps qs:List PV):((bE (min ps.length qs.length)).all (wN ps qs)&&ps.length==qs.length)=kO ps qs:=by
 by_cases h:ps.length=qs.length
 ·rw[h,Nat.min_self,<-h,ka ps qs h];simp[h]
 ·rw[nM h];simp[h]
noncomputable abbrev Eqd(A:Around)(s:al)(v u:ae)(b:Bool):Prop:=SeqAt.EqAt A s v u b
mutual
theorem Ng(I:Inv X pins σ H s):∀(n m:Nat) (p q:PV) (A:Around) {x y:V} {v u:ae},Dv X.K H p x->RelV x v->Dv X.K H q y->RelV y u->dQ n p=true->dQ m q=true->A.units+n<im->Eqd A s v u (mh p q)
 |n,m,.non,q,A,x,y,v,u,d1,r1,d2,r2,f1,f2,hu=>by
  obtain rfl:x= .non:=d1
  cases r1
  cases q with
  |non=>obtain rfl:y= .non:=d2;cases r2;exact SeqAt.EqAt.same _
  |bl b=>obtain rfl:y= .bl b:=d2;cases r2;exact SeqAt.EqAt.none_bool b
  |int b=>obtain rfl:y= .int b:=d2;obtain⟨t,rfl⟩:=r2;exact SeqAt.EqAt.none_int b t
  |str b=>obtain rfl:y= .str b:=d2;obtain⟨t,rfl⟩:=r2;exact SeqAt.EqAt.none_str b t
  |tup qs=>
   obtain⟨a,vs,rfl,sq,dd⟩:=d2
   cases r2
   obtain⟨its,rv,pl,_⟩:=I.tuple sq
   exact SeqAt.EqAt.none_tuple pl (by ac_nf)
  |ref b=>cases m<;>cases f2
  |ty b=>cases m<;>cases f2
  |ro b=>cases m<;>cases f2
 |n,m,.bl a,q,A,x,y,v,u,d1,r1,d2,r2,f1,f2,hu=>by
  obtain rfl:x= .bl a:=d1
  cases r1
  cases q with
  |non=>obtain rfl:y= .non:=d2;cases r2;exact SeqAt.EqAt.bool_none a
  |bl b=>obtain rfl:y= .bl b:=d2;cases r2;exact SeqAt.EqAt.bool_bool a b
  |int b=>obtain rfl:y= .int b:=d2;obtain⟨t,rfl⟩:=r2;exact SeqAt.EqAt.bool_int a b t
  |str b=>obtain rfl:y= .str b:=d2;obtain⟨t,rfl⟩:=r2;exact SeqAt.EqAt.bool_str a b t
  |tup qs=>
   obtain⟨l,vs,rfl,sq,dd⟩:=d2
   cases r2
   obtain⟨its,rv,pl,_⟩:=I.tuple sq
   exact SeqAt.EqAt.bool_tuple a pl (by ac_nf)
  |ref b=>cases m<;>cases f2
  |ty b=>cases m<;>cases f2
  |ro b=>cases m<;>cases f2
 |n,m,.int a,q,A,x,y,v,u,d1,r1,d2,r2,f1,f2,hu=>by
  obtain rfl:x= .int a:=d1
  obtain⟨t',rfl⟩:=r1
  cases q with
  |non=>obtain rfl:y= .non:=d2;cases r2;exact SeqAt.EqAt.int_none a t'
  |bl b=>obtain rfl:y= .bl b:=d2;cases r2;exact SeqAt.EqAt.int_bool a t' b
  |int b=>obtain rfl:y= .int b:=d2;obtain⟨t,rfl⟩:=r2;exact SeqAt.EqAt.int_int a t' b t
  |str b=>obtain rfl:y= .str b:=d2;obtain⟨t,rfl⟩:=r2;exact lP a t' b t
  |tup qs=>
   obtain⟨l,vs,rfl,sq,dd⟩:=d2
   cases r2
   obtain⟨its,rv,pl,_⟩:=I.tuple sq
   exact SeqAt.EqAt.int_tuple a t' pl (by ac_nf)
  |ref b=>cases m<;>cases f2
  |ty b=>cases m<;>cases f2
  |ro b=>cases m<;>cases f2
 |n,m,.str a,q,A,x,y,v,u,d1,r1,d2,r2,f1,f2,hu=>by
  obtain rfl:x= .str a:=d1
  obtain⟨t',rfl⟩:=r1
  cases q with
  |non=>obtain rfl:y= .non:=d2;cases r2;exact SeqAt.EqAt.str_none a t'
  |bl b=>obtain rfl:y= .bl b:=d2;cases r2;exact SeqAt.EqAt.str_bool a t' b
  |int b=>obtain rfl:y= .int b:=d2;obtain⟨t,rfl⟩:=r2;exact lO a t' b t
  |str b=>obtain rfl:y= .str b:=d2;obtain⟨t,rfl⟩:=r2;exact SeqAt.EqAt.str_str a t' b t
  |tup qs=>
   obtain⟨l,vs,rfl,sq,dd⟩:=d2
   cases r2
   obtain⟨its,rv,pl,_⟩:=I.tuple sq
   exact SeqAt.EqAt.str_tuple a t' pl (by ac_nf)
  |ref b=>cases m<;>cases f2
  |ty b=>cases m<;>cases f2
  |ro b=>cases m<;>cases f2
 |n,m,.tup ps,q,A,x,y,v,u,d1,r1,d2,r2,f1,f2,hu=>by
  have dd1:=d1
  obtain⟨l,vs,rfl,sq,d⟩:=d1
  cases r1
  obtain⟨its,rv,pl,_⟩:=I.tuple sq
  cases q with
  |non=>obtain rfl:y= .non:=d2;cases r2;exact SeqAt.EqAt.tuple_none pl (by ac_nf)
  |bl b=>obtain rfl:y= .bl b:=d2;cases r2;exact SeqAt.EqAt.tuple_bool b pl (by ac_nf)
  |int b=>obtain rfl:y= .int b:=d2;obtain⟨t,rfl⟩:=r2;exact SeqAt.EqAt.tuple_int b t pl (by ac_nf)
  |str b=>obtain rfl:y= .str b:=d2;obtain⟨t,rfl⟩:=r2;exact SeqAt.EqAt.tuple_str b t pl (by ac_nf)
  |tup qs=>
   have dd2:=d2
   obtain⟨l2,us,rfl,sq2,d2⟩:=d2
   cases r2
   obtain⟨its2,rv2,pl2,_⟩:=I.tuple sq2
   by_cases hll:l=l2
   ·subst hll
    rw[vX I n m (.tup ps) (.tup qs) dd1 dd2 f1 f2]
    exact SeqAt.EqAt.same _
   ·cases n with
    |zero=>cases f1
    |succ n=>
     cases m with
     |zero=>cases f2
     |succ m=>
      refine SeqAt.EqAt.of_refs hll ?_
      have z:=SeqAt.RcAt.tuples (A:=A) (e:=wN ps qs) pl pl2 (by ac_nf) λj h1 h2=>tH I n m ps qs A.in1 d rv d2 rv2 f1 f2 (by rw[PySem.Around.in1_units];ac_nf) j h1 h2
      rw[aA,aA,<-rv.length,<-rv2.length,d.length,d2.length,rP]at z
      unfold mh
      exact z
  |ref b=>cases m<;>cases f2
  |ty b=>cases m<;>cases f2
  |ro b=>cases m<;>cases f2
 |n,m,.ref a,q,A,x,y,v,u,d1,r1,d2,r2,f1,f2,hu=>by cases n<;>cases f1
 |n,m,.ty a,q,A,x,y,v,u,d1,r1,d2,r2,f1,f2,hu=>by cases n<;>cases f1
 |n,m,.ro a,q,A,x,y,v,u,d1,r1,d2,r2,f1,f2,hu=>by cases n<;>cases f1
theorem tH(I:Inv X pins σ H s):∀(n m:Nat) (ps qs:List PV) (A:Around) {xs ys:List V} {vs us:List ae},Dvs X.K H ps xs->Vals xs vs->Dvs X.K H qs ys->Vals ys us->dI n ps=true->dI m qs=true->A.units+n<im->
  ∀(j:Nat) (h1:j<vs.toArray.size) (h2:j<us.toArray.size),Eqd A s vs.toArray[j] us.toArray[j] (wN ps qs j)
 |n,m,[],qs,A,xs,ys,vs,us,d1,r1,d2,r2,f1,f2,hu,j,h1,h2=>by
  obtain rfl:xs=[]:=d1
  cases r1
  simp at h1
 |n,m,p::ps,qs,A,xs,ys,vs,us,d1,r1,d2,r2,f1,f2,hu,j,h1,h2=>by
  obtain⟨x,xr,rfl,dx,d1⟩:=d1
  cases r1 with
  |cons rx r1=>
   cases qs with
   |nil=>
    obtain rfl:ys=[]:=d2
    cases r2
    simp at h2
   |cons q qs=>
    obtain⟨y,yr,rfl,dy,d2⟩:=d2
    cases r2 with
    |cons ry r2=>
     unfold dI at f1 f2
     rw[bC]at f1 f2
     cases j with
     |zero=>exact Ng I n m p q A dx rx dy ry f1.1 f2.1 hu
     |succ j=>exact tH I n m ps qs A d1 r1 d2 r2 f1.2 f2.2 hu j (by simpa using h1) (by simpa using h2)
end
end
theorem big{n:Nat}(h:n<=16000000):n<=aQ:=aP h (by rw[jz];decide)
theorem Em{n:Nat}(h:n<=16000000):n<aQ:=pY h (by rw[jz];decide)
noncomputable def lk(G:Gp)(a:Addr):Option (List PV):=match G a with
 |some (.lst ps)=>some ps
 |some (.rl ps)=>some ps
 |_=>none
theorem gf{K:PySem.W.Frag}{H:Hp}{G:Gp}{a:Addr}{ps:List PV}(r:Rep K H G)(h:lk G a=some ps):∃vs,SqL K H a vs/\Dvs K H ps vs:=by
 unfold lk at h
 split at h
 ·rename_i qs e;cases h
  obtain⟨vs,e1,d⟩:=r a _ e
  exact⟨vs,.of e1,d⟩
 ·rename_i qs e;cases h
  obtain⟨vs,e1,d⟩:=r a _ e
  exact⟨vs,.inl e1,d⟩
 ·cases h
noncomputable def GY:B2:=λp q G Q=>match p,q with
 | .ref a,.ref b=>match lk G a,lk G b with
  |some ps,some qs=>dI 100 ps=true/\dI 100 qs=true/\Q (.bl (kO ps qs)) G
  |_,_=>False
 | .ref _,_=>False
 |_,.ref _=>False
 |p,q=>dQ 100 p=true/\dQ 100 q=true/\Q (.bl (mh p q)) G
noncomputable def Jv:B2:=λp q G Q=>match p,q with
 | .ref a,.ref b=>match lk G a,lk G b with
  |some ps,some qs=>dI 100 ps=true/\dI 100 qs=true/\Q (.bl (!kO ps qs)) G
  |_,_=>False
 | .ref _,_=>False
 |_,.ref _=>False
 |p,q=>dQ 100 p=true/\dQ 100 q=true/\Q (.bl (!mh p q)) G
section
variable{X:Cx}{pins:List (Addr×Obj)}{σ:L2.St}{H:Hp}{s:al}
theorem Og(I:Inv X pins σ H s)(p q:PV)(A:Around){x y:V}{v u:ae}(d1:Dv X.K H p x)(r1:RelV x v)(d2:Dv X.K H q y)(r2:RelV y u)(f1:dQ 100 p=true)(f2:dQ 100 q=true)(hu:A.units+101<im):SeqAt.RcAt A s v u (mh p q):=by
 have hu':A.units<im:=by ac_nf
 cases p with
 |ref a=>cases f1
 |ty a=>cases f1
 |ro a=>cases f1
 |tup ps=>
  obtain⟨l,xs,rfl,sq,dd⟩:=d1
  cases r1
  obtain⟨its,rv,pl,_⟩:=I.tuple sq
  cases q with
  |ref a=>cases f2
  |ty a=>cases f2
  |ro a=>cases f2
  |tup qs=>
   obtain⟨l2,ys,rfl,sq2,dd2⟩:=d2
   cases r2
   obtain⟨its2,rv2,pl2,_⟩:=I.tuple sq2
   have z:=SeqAt.RcAt.tuples (A:=A) (e:=wN ps qs) pl pl2 hu' λj h1 h2=>tH I 99 99 ps qs A.in1 dd rv dd2 rv2 f1 f2 (by rw[PySem.Around.in1_units];ac_nf) j h1 h2
   rw[aA,aA,<-rv.length,<-rv2.length,dd.length,dd2.length,rP]at z
   unfold mh
   exact z
  |non=>obtain rfl:y= .non:=d2;cases r2;exact SeqAt.RcAt.tuple_none pl hu'
  |bl b=>obtain rfl:y= .bl b:=d2;cases r2;exact SeqAt.RcAt.tuple_bool b pl hu'
  |int b=>obtain rfl:y= .int b:=d2;obtain⟨t,rfl⟩:=r2;exact SeqAt.RcAt.tuple_int b t pl hu'
  |str b=>obtain rfl:y= .str b:=d2;obtain⟨t,rfl⟩:=r2;exact SeqAt.RcAt.tuple_str b t pl hu'
 |non=>
  obtain rfl:x= .non:=d1
  cases r1
  cases q with
  |ref a=>cases f2
  |ty a=>cases f2
  |ro a=>cases f2
  |tup qs=>
   obtain⟨l2,ys,rfl,sq2,dd2⟩:=d2
   cases r2
   obtain⟨its2,rv2,pl2,_⟩:=I.tuple sq2
   exact SeqAt.RcAt.none_tuple pl2 hu'
  |non=>obtain rfl:y= .non:=d2;cases r2;exact SeqAt.RcAt.none_none
  |bl b=>obtain rfl:y= .bl b:=d2;cases r2;exact SeqAt.RcAt.none_bool b
  |int b=>obtain rfl:y= .int b:=d2;obtain⟨t,rfl⟩:=r2;exact SeqAt.RcAt.none_int b t
  |str b=>obtain rfl:y= .str b:=d2;obtain⟨t,rfl⟩:=r2;exact SeqAt.RcAt.none_str b t
 |bl a=>
  obtain rfl:x= .bl a:=d1
  cases r1
  cases q with
  |ref a=>cases f2
  |ty a=>cases f2
  |ro a=>cases f2
  |tup qs=>
   obtain⟨l2,ys,rfl,sq2,dd2⟩:=d2
   cases r2
   obtain⟨its2,rv2,pl2,_⟩:=I.tuple sq2
   exact SeqAt.RcAt.bool_tuple a pl2 hu'
  |non=>obtain rfl:y= .non:=d2;cases r2;exact SeqAt.RcAt.bool_none a
  |bl b=>obtain rfl:y= .bl b:=d2;cases r2;exact SeqAt.RcAt.bool_bool a b
  |int b=>obtain rfl:y= .int b:=d2;obtain⟨t,rfl⟩:=r2;exact SeqAt.RcAt.bool_int a b t
  |str b=>obtain rfl:y= .str b:=d2;obtain⟨t,rfl⟩:=r2;exact SeqAt.RcAt.bool_str a b t
 |int a=>
  obtain rfl:x= .int a:=d1
  obtain⟨t',rfl⟩:=r1
  cases q with
  |ref a=>cases f2
  |ty a=>cases f2
  |ro a=>cases f2
  |tup qs=>
   obtain⟨l2,ys,rfl,sq2,dd2⟩:=d2
   cases r2
   obtain⟨its2,rv2,pl2,_⟩:=I.tuple sq2
   exact SeqAt.RcAt.int_tuple a t' pl2 hu'
  |non=>obtain rfl:y= .non:=d2;cases r2;exact SeqAt.RcAt.int_none a t'
  |bl b=>obtain rfl:y= .bl b:=d2;cases r2;exact SeqAt.RcAt.int_bool a t' b
  |int b=>obtain rfl:y= .int b:=d2;obtain⟨t,rfl⟩:=r2;exact SeqAt.RcAt.int_int a t' b t
  |str b=>obtain rfl:y= .str b:=d2;obtain⟨t,rfl⟩:=r2;exact SeqAt.RcAt.int_str a t' b t
 |str a=>
  obtain rfl:x= .str a:=d1
  obtain⟨t',rfl⟩:=r1
  cases q with
  |ref a=>cases f2
  |ty a=>cases f2
  |ro a=>cases f2
  |tup qs=>
   obtain⟨l2,ys,rfl,sq2,dd2⟩:=d2
   cases r2
   obtain⟨its2,rv2,pl2,_⟩:=I.tuple sq2
   exact SeqAt.RcAt.str_tuple a t' pl2 hu'
  |non=>obtain rfl:y= .non:=d2;cases r2;exact SeqAt.RcAt.str_none a t'
  |bl b=>obtain rfl:y= .bl b:=d2;cases r2;exact SeqAt.RcAt.str_bool a t' b
  |int b=>obtain rfl:y= .int b:=d2;obtain⟨t,rfl⟩:=r2;exact SeqAt.RcAt.str_int a t' b t
  |str b=>obtain rfl:y= .str b:=d2;obtain⟨t,rfl⟩:=r2;exact SeqAt.RcAt.str_str a t' b t
theorem IF(I:Inv X pins σ H s)(p q:PV)(A:Around){x y:V}{v u:ae}(d1:Dv X.K H p x)(r1:RelV x v)(d2:Dv X.K H q y)(r2:RelV y u)(f1:dQ 100 p=true)(f2:dQ 100 q=true)(hu:A.units+101<im):SeqAt.RcNeAt A s v u (!mh p q):=by
 have hu':A.units<im:=by ac_nf
 cases p with
 |ref a=>cases f1
 |ty a=>cases f1
 |ro a=>cases f1
 |tup ps=>
  obtain⟨l,xs,rfl,sq,dd⟩:=d1
  cases r1
  obtain⟨its,rv,pl,_⟩:=I.tuple sq
  cases q with
  |ref a=>cases f2
  |ty a=>cases f2
  |ro a=>cases f2
  |tup qs=>
   obtain⟨l2,ys,rfl,sq2,dd2⟩:=d2
   cases r2
   obtain⟨its2,rv2,pl2,_⟩:=I.tuple sq2
   have z:=SeqAt.RcNeAt.tuples (A:=A) (e:=wN ps qs) pl pl2 hu' λj h1 h2=>tH I 99 99 ps qs A.in1 dd rv dd2 rv2 f1 f2 (by rw[PySem.Around.in1_units];ac_nf) j h1 h2
   rw[aA,aA,<-rv.length,<-rv2.length,dd.length,dd2.length,rP]at z
   unfold mh
   exact z
  |non=>obtain rfl:y= .non:=d2;cases r2;exact SeqAt.RcNeAt.tuple_none pl hu'
  |bl b=>obtain rfl:y= .bl b:=d2;cases r2;exact SeqAt.RcNeAt.tuple_bool b pl hu'
  |int b=>obtain rfl:y= .int b:=d2;obtain⟨t,rfl⟩:=r2;exact SeqAt.RcNeAt.tuple_int b t pl hu'
  |str b=>obtain rfl:y= .str b:=d2;obtain⟨t,rfl⟩:=r2;exact SeqAt.RcNeAt.tuple_str b t pl hu'
 |non=>
  obtain rfl:x= .non:=d1
  cases r1
  cases q with
  |ref a=>cases f2
  |ty a=>cases f2
  |ro a=>cases f2
  |tup qs=>
   obtain⟨l2,ys,rfl,sq2,dd2⟩:=d2
   cases r2
   obtain⟨its2,rv2,pl2,_⟩:=I.tuple sq2
   exact SeqAt.RcNeAt.none_tuple pl2 hu'
  |non=>obtain rfl:y= .non:=d2;cases r2;exact SeqAt.RcNeAt.none_none
  |bl b=>obtain rfl:y= .bl b:=d2;cases r2;exact SeqAt.RcNeAt.none_bool b
  |int b=>obtain rfl:y= .int b:=d2;obtain⟨t,rfl⟩:=r2;exact SeqAt.RcNeAt.none_int b t
  |str b=>obtain rfl:y= .str b:=d2;obtain⟨t,rfl⟩:=r2;exact SeqAt.RcNeAt.none_str b t
 |bl a=>
  obtain rfl:x= .bl a:=d1
  cases r1
  cases q with
  |ref a=>cases f2
  |ty a=>cases f2
  |ro a=>cases f2
  |tup qs=>
   obtain⟨l2,ys,rfl,sq2,dd2⟩:=d2
   cases r2
   obtain⟨its2,rv2,pl2,_⟩:=I.tuple sq2
   exact SeqAt.RcNeAt.bool_tuple a pl2 hu'
  |non=>obtain rfl:y= .non:=d2;cases r2;exact SeqAt.RcNeAt.bool_none a
  |bl b=>obtain rfl:y= .bl b:=d2;cases r2;exact SeqAt.RcNeAt.bool_bool a b
  |int b=>obtain rfl:y= .int b:=d2;obtain⟨t,rfl⟩:=r2;exact SeqAt.RcNeAt.bool_int a b t
  |str b=>obtain rfl:y= .str b:=d2;obtain⟨t,rfl⟩:=r2;exact SeqAt.RcNeAt.bool_str a b t
 |int a=>
  obtain rfl:x= .int a:=d1
  obtain⟨t',rfl⟩:=r1
  cases q with
  |ref a=>cases f2
  |ty a=>cases f2
  |ro a=>cases f2
  |tup qs=>
   obtain⟨l2,ys,rfl,sq2,dd2⟩:=d2
   cases r2
   obtain⟨its2,rv2,pl2,_⟩:=I.tuple sq2
   exact SeqAt.RcNeAt.int_tuple a t' pl2 hu'
  |non=>obtain rfl:y= .non:=d2;cases r2;exact SeqAt.RcNeAt.int_none a t'
  |bl b=>obtain rfl:y= .bl b:=d2;cases r2;exact SeqAt.RcNeAt.int_bool a t' b
  |int b=>obtain rfl:y= .int b:=d2;obtain⟨t,rfl⟩:=r2;exact SeqAt.RcNeAt.int_int a t' b t
  |str b=>obtain rfl:y= .str b:=d2;obtain⟨t,rfl⟩:=r2;exact SeqAt.RcNeAt.int_str a t' b t
 |str a=>
  obtain rfl:x= .str a:=d1
  obtain⟨t',rfl⟩:=r1
  cases q with
  |ref a=>cases f2
  |ty a=>cases f2
  |ro a=>cases f2
  |tup qs=>
   obtain⟨l2,ys,rfl,sq2,dd2⟩:=d2
   cases r2
   obtain⟨its2,rv2,pl2,_⟩:=I.tuple sq2
   exact SeqAt.RcNeAt.str_tuple a t' pl2 hu'
  |non=>obtain rfl:y= .non:=d2;cases r2;exact SeqAt.RcNeAt.str_none a t'
  |bl b=>obtain rfl:y= .bl b:=d2;cases r2;exact SeqAt.RcNeAt.str_bool a t' b
  |int b=>obtain rfl:y= .int b:=d2;obtain⟨t,rfl⟩:=r2;exact SeqAt.RcNeAt.str_int a t' b t
  |str b=>obtain rfl:y= .str b:=d2;obtain⟨t,rfl⟩:=r2;exact SeqAt.RcNeAt.str_str a t' b t
theorem C6(hu:X.A.units+200<im):jl X (cL .Eq) (ik X.K GY):=by
 intro pins s σ H x y v u Q I rx ry h
 obtain⟨p,q,G,Q2,d1,d2,rp,h,cl⟩:=h
 have fin:∀(f1:dQ 100 p=true) (f2:dQ 100 q=true),Q2 (.bl (mh p q)) G->wpAny (aT X.prog X.w) X.A (cL .Eq v u) (EP X pins σ Q) X.xe s:=λf1 f2 hq=>
  Og I p q X.A d1 rx d2 ry f1 f2 (by ac_nf) X.prog X.w X.xe _ ⟨.bl _,H,I,rfl,cl _ _ _ _ hq rfl rp .refl⟩
 unfold GY at h
 split at h
 ·rename_i a b
  split at h
  ·rename_i ps qs e1 e2
   obtain⟨f1,f2,hq⟩:=h
   obtain rfl:x= .ref a:=d1
   obtain rfl:y= .ref b:=d2
   cases rx
   cases ry
   obtain⟨xs,sa,da⟩:=gf rp e1
   obtain⟨ys,sb,db⟩:=gf rp e2
   obtain⟨us,r,pl,_⟩:=I.list sa
   obtain⟨ws,r',pl',_⟩:=I.list sb
   have l1:=r.length
   have l2:=r'.length
   have l3:=da.length
   have l4:=db.length
   by_cases hl:ps.length=qs.length
   ·refine SeqAt.eq_listAt (e:=wN ps qs) pl.isList pl'.isList (by simp;ac_nf) (by ac_nf) (λj h1 h2=>tH I 100 100 ps qs X.A.in1 da r db r' f1 f2 (by rw[PySem.Around.in1_units];ac_nf) j h1 h2) ⟨.bl (kO ps qs),H,I,?_,cl _ _ _ _ hq rfl rp .refl⟩
    rw[aA,<-l1,l3,ka ps qs hl]
    rfl
   ·refine SeqAt.eq_list_lengthsAt pl.isList pl'.isList (by simp;ac_nf) (by ac_nf) ⟨.bl (kO ps qs),H,I,?_,cl _ _ _ _ hq rfl rp .refl⟩
    rw[nM hl]
    rfl
  ·exact h.elim
 ·exact h.elim
 ·exact h.elim
 ·obtain⟨f1,f2,hq⟩:=h
  exact fin f1 f2 hq
theorem C0(hu:X.A.units+200<im):jl X (cL .NotEq) (ik X.K Jv):=by
 intro pins s σ H x y v u Q I rx ry h
 obtain⟨p,q,G,Q2,d1,d2,rp,h,cl⟩:=h
 have fin:∀(f1:dQ 100 p=true) (f2:dQ 100 q=true),Q2 (.bl (!mh p q)) G->wpAny (aT X.prog X.w) X.A (cL .NotEq v u) (EP X pins σ Q) X.xe s:=λf1 f2 hq=>
  IF I p q X.A d1 rx d2 ry f1 f2 (by ac_nf) X.prog X.w X.xe _ ⟨.bl _,H,I,rfl,cl _ _ _ _ hq rfl rp .refl⟩
 unfold Jv at h
 split at h
 ·rename_i a b
  split at h
  ·rename_i ps qs e1 e2
   obtain⟨f1,f2,hq⟩:=h
   obtain rfl:x= .ref a:=d1
   obtain rfl:y= .ref b:=d2
   cases rx
   cases ry
   obtain⟨xs,sa,da⟩:=gf rp e1
   obtain⟨ys,sb,db⟩:=gf rp e2
   obtain⟨us,r,pl,_⟩:=I.list sa
   obtain⟨ws,r',pl',_⟩:=I.list sb
   have l1:=r.length
   have l2:=r'.length
   have l3:=da.length
   have l4:=db.length
   by_cases hl:ps.length=qs.length
   ·refine SeqAt.RcNeAt.lists (e:=wN ps qs) pl.isList pl'.isList (by simp;ac_nf) (by ac_nf) (λj h1 h2=>tH I 100 100 ps qs X.A.in1 da r db r' f1 f2 (by rw[PySem.Around.in1_units];ac_nf) j h1 h2) _ _ _ _ ⟨.bl (!kO ps qs),H,I,?_,cl _ _ _ _ hq rfl rp .refl⟩
    rw[aA,<-l1,l3,ka ps qs hl]
    rfl
   ·refine SeqAt.RcNeAt.lists_lengths pl.isList pl'.isList (by simp;ac_nf) (by ac_nf) _ _ _ _ ⟨.bl (!kO ps qs),H,I,?_,cl _ _ _ _ hq rfl rp .refl⟩
    rw[nM hl]
    rfl
  ·exact h.elim
 ·exact h.elim
 ·exact h.elim
 ·obtain⟨f1,f2,hq⟩:=h
  exact fin f1 f2 hq
end
theorem Kp{K:PySem.W.Frag}{H1:Hp}{a:Addr}{vs:List V}{ps:List PV}(sq:SqT K H1 a vs)(d:Dvs K H1 ps vs):w6 K H1 (Itt K a) ps (λ_=>True):=λi H G k r _=>by
 have sq':=k.1 a vs sq
 have d':=d.keep k
 refine⟨λhi=> ?_,λhi=>⟨vs,sq',by rw[d.length];ac_nf⟩,λx H' hi y=> ?_⟩
 ·obtain⟨v,e,_⟩:=d'.at (ak hi)
  exact⟨vs,v,sq',e⟩
 ·obtain⟨rfl,y⟩:=y
  obtain⟨p,e,dp⟩:=d'.get (y vs sq')
  exact⟨p,e,.refl,r,dp⟩
theorem DN{K:PySem.W.Frag}{H1:Hp}{a:Addr}{ps:List PV}:w6 K H1 (OU K a) ps (λG=>lk G a=some ps):=λi H G k r c=>by
 obtain⟨vs,sq',d'⟩:=gf r c
 refine⟨λhi=> ?_,λhi=>⟨vs,sq',by rw[d'.length];ac_nf⟩,λx H' hi y=> ?_⟩
 ·obtain⟨v,e,_⟩:=d'.at (ak hi)
  exact⟨vs,v,sq',e⟩
 ·obtain⟨rfl,y⟩:=y
  obtain⟨p,e,dp⟩:=d'.get (y vs sq')
  exact⟨p,e,.refl,r,dp⟩
noncomputable def jA(z:Str):List PV:=z.cps.toList.map λc=> .str ⟨#[c]⟩
theorem Kq{K:PySem.W.Frag}{H1:Hp}(z:Str):w6 K H1 (NU z) (jA z) (λ_=>True):=λi H G k r _=>by
 have hl:(jA z).length=z.cps.size:=by unfold jA;simp
 refine⟨λhi=> ?_,λhi=> ?_,λx H' hi y=> ?_⟩
 ·show i<z.cps.size
  ac_nf
 ·show z.cps.size<=i
  ac_nf
 ·obtain⟨rfl,c,e,rfl⟩:=y
  refine⟨.str ⟨#[c]⟩,?_,.refl,r,rfl⟩
  unfold jA
  rw[aC]
  have:z.cps.toList[i]? =some c:=by simpa using e
  rw[this];rfl
noncomputable def jR(lo:Int)(n:Nat):List PV:=(bE n).map fun(i:Nat)=> .int (lo+i)
theorem Kr{K:PySem.W.Frag}{H1:Hp}(lo:Int)(n:Nat):w6 K H1 (NV lo n) (jR lo n) (λ_=>True):=λi H G k r _=>by
 have hl:(jR lo n).length=n:=by unfold jR;simp
 refine⟨λhi=> ?_,λhi=> ?_,λx H' hi y=> ?_⟩
 ·show i<n
  ac_nf
 ·show n<=i
  ac_nf
 ·obtain⟨rfl,rfl⟩:=y
  refine⟨.int (lo+i),?_,.refl,r,rfl⟩
  unfold jR
  rw[aC,dA (by ac_nf)]
  rfl
noncomputable abbrev itS(t:E2):sw:=λτ G R=>t τ G λp G1=>match p with
 | .tup ps=>R ps (λ_=>True) G1
 | .ref a=>match lk G1 a with
  |some ps=>R ps (λG=>lk G a=some ps) G1
  |none=>False
 | .str z=>R (jA z) (λ_=>True) G1
 |_=>False
noncomputable abbrev AW(t:A2):sw:=λτ G R=>t τ G λps G1=>match ps with
 |[.int j]=> -(2^62)<=j/\j<2^62/\R (jR 0 j.toNat) (λ_=>True) G1
 |_=>False
theorem ER{X:Cx}{pins:List (Addr×Obj)}{σ:L2.St}{H1:Hp}{s1:al}{x:Str}{px:Pos}{z:Str}{v:ae}{R:It->Hp->Prop}(I1:Inv X pins σ H1 s1)(r1:RelV (.str z) v)(q:R (NU z) H1):
  wpAny (aT X.prog X.w) X.A (pyIter v) (OS X pins σ (.Name x px) R) X.xe s1:=by
 obtain⟨t,rfl⟩:=r1
 cases ha:z.cps.all (· <128)
 ·refine PySem.wpAny_pyIter_wide ha ⟨s1.heap.objs.size,[s1.heap.objs.size],_,_,H1,rfl,I1.kept (t':=s1.toks) λb o e=>aj _ e,vz _ z t "str_iterator" (.inr rfl),⟨⟨_,aJ _ rfl,rfl,rfl⟩,bn _⟩,λb hb=> ?_,q⟩
  have e:b=s1.heap.objs.size:=by simpa using hb
  subst e
  exact I1.fpOk (am _) (I1.hok.fresh (am _))
 ·refine PySem.wpAny_pyIter_ascii ha ⟨s1.heap.objs.size,[s1.heap.objs.size],_,_,H1,rfl,I1.kept (t':=s1.toks) λb o e=>aj _ e,vz _ z t "str_ascii_iterator" (.inl rfl),⟨⟨_,aJ _ rfl,rfl,rfl⟩,bn _⟩,λb hb=> ?_,q⟩
  have e:b=s1.heap.objs.size:=by simpa using hb
  subst e
  exact I1.fpOk (am _) (I1.hok.fresh (am _))
section
variable{X:Cx}{l tg a b:Expr}{t:E2}{ta:A2}{x:Str}{px p pos:Pos}
theorem zH(hl:JE X l t):JI X (.Name x px) l (itS t):=⟨by
 intro pins s σ H R I h
 obtain⟨τ,G,R2,rs,rp,h,cl⟩:=h
 refine eR (hl.h pins s σ H (λv H1=>∃p G1,Dv X.K H1 p v/\Rep X.K H1 G1/\Keep X.K H H1/\(match p with
  | .tup ps=>R2 ps (λ_=>True) G1
  | .ref a=>match lk G1 a with
   |some ps=>R2 ps (λG=>lk G a=some ps) G1
   |none=>False
  | .str z=>R2 (jA z) (λ_=>True) G1
  |_=>False)) I ⟨τ,G,_,rs,rp,h,λp G1 v H1 q d r k=>⟨p,G1,d,r,k,q⟩⟩) λv s1 ⟨y,H1,I1,r1,q,G1,d1,rp1,k1,q1⟩=> ?_
 cases q with
 |tup ps=>
  obtain⟨a,vs,rfl,sq,dv⟩:=d1
  cases r1
  obtain⟨its,rv,p,hz⟩:=I1.tuple sq
  refine wpAny_pyIter_tuple (show s1.heap.IsTuple a its.toArray from p) ?_
  refine⟨s1.heap.objs.size,[s1.heap.objs.size],_,_,H1,rfl,I1.kept (t':=s1.toks) λb o e=>aj _ e,xw a _,⟨_,aJ _ rfl,rfl,rfl⟩,λb hb=> ?_,cl _ _ _ _ _ q1 rp1 k1 (Kp sq dv)⟩
  have e:b=s1.heap.objs.size:=by simpa using hb
  subst e
  exact I1.fpOk (am _) (I1.hok.fresh (am _))
 |ref a=>
  obtain rfl:y= .ref a:=d1
  cases r1
  dsimp only at q1
  split at q1
  ·rename_i ps e
   obtain⟨vs,sq,dv⟩:=gf rp1 e
   obtain⟨its,rv,p,hz⟩:=I1.list sq
   refine ue p.isList ?_
   refine⟨s1.heap.objs.size,[s1.heap.objs.size],_,_,H1,rfl,I1.kept (t':=s1.toks) λb o e=>aj _ e,sF a _,⟨_,aJ _ rfl,rfl,rfl⟩,λb hb=> ?_,cl _ _ _ _ _ q1 rp1 k1 DN⟩
   have e:b=s1.heap.objs.size:=by simpa using hb
   subst e
   exact I1.fpOk (am _) (I1.hok.fresh (am _))
  ·exact q1.elim
 |str z=>
  obtain rfl:y= .str z:=d1
  exact ER I1 r1 (cl _ _ _ _ _ q1 rp1 k1 (Kq z))
 |non=>exact q1.elim
 |bl b=>exact q1.elim
 |int i=>exact q1.elim
 |ty n=>exact q1.elim
 |ro n=>exact q1.elim⟩
theorem AU(hm:X.mg "range" =none)(ha:JA X [a] ta)(hg:Gl X "range" :=by rfl)(hs:aB [a] X.env=[(false,eval a X.env)]:=by rfl):JI X tg (.Call (.Name "range" p) [a] [] pos) (AW ta):= .of (At hg hm ha.h hs) λσ H R hPl=>by
 obtain⟨τ,G,R2,rs,rp,h,cl⟩:=hPl
 refine⟨τ,G,_,rs,rp,h,λps G1 vs H1 q d r k=> ?_⟩
 split at q
 ·rename_i j
  obtain⟨v,vr,rfl,d1,d⟩:=d
  obtain rfl:vr=[]:=d
  obtain rfl:v= .int j:=d1
  exact⟨j,rfl,q.1,q.2.1,cl _ _ _ _ _ q.2.2 r k (Kr _ _)⟩
 ·exact q.elim
end
section
end
@[reducible] noncomputable def kS:List (Option Nat)->je->je
 |[],_=>[]
 |some i::r,τ=>gt τ i::kS r τ
 |none::r,τ=>none::kS r τ
theorem vi:∀(ix:List (Option Nat)) (τ:je),kS ix τ=ix.map λo=>match o with
  |some i=>(τ[i]?).getD none
  |none=>none
 |[],_=>rfl
 |some i::r,τ=>by simp only[kS,aw,DT,vi r τ]
 |none::r,τ=>by simp only[kS,aw,vi r τ]
theorem zV{K:PySem.W.Frag}{H:Hp}{σ:L2.St}{τ:je}(ix:List (Option Nat))(r:RSt K H σ τ):RSt K H (kT ix σ) (kS ix τ):=by
 rw[vi]
 refine⟨by unfold kT;simp,λi p e=> ?_⟩
 unfold kT
 rw[aC]at e⊢
 cases q:ix[i]? with
 |none=>rw[q]at e;cases e
 |some o=>
  cases o with
  |none=>rw[q]at e;cases e
  |some k=>
   rw[q]at e
   have e':some ((τ[k]?).getD none)=some (some p):=e
   have e2:=bc e'
   cases q2:τ[k]? with
   |none=>rw[q2]at e2;cases e2
   |some z=>
    rw[q2]at e2
    have e3:z=some p:=e2
    subst e3
    obtain⟨v,ev,d⟩:=r.2 k p q2
    refine⟨v,?_,d⟩
    show some ((σ[k]?).getD none)=_
    rw[ev]
    rfl
noncomputable def Nv(items:List PV)(c:Gp->Prop)(ix:List (Option Nat))(j:Nat)(τ:je)(tf:T2)(te:E2)(Q:K2)(G1:Gp)(acc:Addr):Prop:=
 ∃W:Nat->List PV->Gp->Prop,W 0 [] (up G1 acc (.lst []))/\(∀i ys G,i<=items.length->W i ys G->c G/\G acc=some (.lst ys)/\ys.length<16000000)/\
  (∀i ys G x,items[i]? =some x->W i ys G->tf (st (kS ix τ) j (some x)) G λb G2=>pN b (te (st (kS ix τ) j (some x)) G2 λy G3=>G3 acc=some (.lst ys)/\W (i+1) (ys++[y]) (up G3 acc (.lst (ys++[y])))) (W (i+1) ys G2))/\∀ys G,W items.length ys G->Q (.ref acc) G
noncomputable abbrev tI(ti:sw)(ix:List (Option Nat))(j:Nat)(tf:T2)(te:E2):E2:=λτ G Q=>ti τ G λitems c G1=>∀acc,G1 acc=none->Nv items c ix j τ tf te Q G1 acc
structure JF(X:Cx)(ifs:List Expr)(t:T2):Prop where
 h:PF X ifs (wq X.K t)
noncomputable abbrev kj:T2:=λ_ G Q=>Q true G
section
variable{X:Cx}{c:Expr}{tA:T2}
theorem JZ:JF X [] kj:=⟨λpins s σ H Q I ⟨τ,G,Q2,rs,rp,q,cl⟩=>IT pins s σ H Q I (cl _ _ _ q rp .refl)⟩
theorem JY(h:JT X c tA):JF X [c] tA:=⟨IS h.h⟩
theorem wo{ti:sw}{ix:List (Option Nat)}{j:Nat}{tf:T2}{te:E2}{σ:L2.St}{H:Hp}{Q:VK}(q:pS X.K (tI ti ix j tf te) σ H Q):BS (Ga X.K ti) ix j (wq X.K tf) (pS X.K te) σ H Q:=by
 obtain⟨τ,G,Q2,rs,rp,q,cl⟩:=q
 refine⟨τ,G,_,rs,rp,q,λitems c G1 J H1 q1 r1 k1 ok acc hacc=> ?_⟩
 obtain⟨W,w0,hW,turn,done⟩:=q1 acc (r1.none hacc)
 have kn:Keep X.K H1 (upd H1 acc (.lst [])):=bQ hacc
 refine⟨λi m H'=>m=items.length-i/\i<=items.length/\∃ys G',W i ys G'/\Rep X.K H' G'/\Keep X.K H1 H',⟨_,rfl,bn _,[],_,w0,r1.new hacc .nil,kn⟩,?_⟩
 rintro i m H2 ⟨rfl,hi,ys,G2,w2,r2,k2⟩
 obtain⟨hc,hacc2,hys⟩:=hW i ys G2 hi w2
 obtain⟨o1,o2,o3⟩:=ok i H2 G2 k2 r2 hc
 by_cases hlt:i<items.length
 ·refine .inr ⟨o1 hlt,λx H3 y=> ?_⟩
  obtain⟨p,ep,k3,r3,d3⟩:=o3 x H3 hlt y
  have k13:=k2.trans k3
  have rs3:RSt X.K H3 ((kT ix σ).set j (some x)) (st (kS ix τ) j (some p)):=(zV ix (rs.keep (k1.trans k13))).set d3 j
  refine⟨_,G2,_,rs3,r3,turn i ys G2 p ep w2,λb G4 H4 q4 r4 k4=> ?_⟩
  have k14:=k13.trans k4
  cases b with
  |false=>exact uQ ⟨items.length-(i+1),by ac_nf,rfl,hlt,ys,G4,q4,r4,k14⟩
  |true=>
   refine uP ⟨_,G4,_,rs3.keep k4,r4,q4,λy G5 v H5 q5 d5 r5 k5=> ?_⟩
   obtain⟨ea,w5⟩:=q5
   obtain⟨vs,hv,dv⟩:=r5.lst ea
   refine⟨vs,hv,by rw[dv.length];exact Em (iN hys),items.length-(i+1),by ac_nf,rfl,hlt,ys++[y],_,w5,r5.put hv (dv.append (.cons d5 .nil)),(k14.trans k5).trans (gu hv)⟩
 ·have e:i=items.length:=by ac_nf
  subst e
  exact .inl ⟨o2 rfl,cl _ _ _ _ (done ys G2 w2) rfl r2 (k1.trans k2)⟩
theorem o4{scope:eL}{M:List Str}{ix:List (Option Nat)}{j:Nat}{x:Str}{elt iter:Expr}{px pos:Pos}{ifs:List Expr}{ti:sw}{tf:T2}{te:E2}(S:dE X.env.scope X.N scope M ix j x=true)(hc:X.calm=true)(hi:JI X (.Name x px) iter ti)
  (hb:∀C s H fp,JF (bY X M scope C s H fp) ifs tf/\JE (bY X M scope C s H fp) elt te) (hs:∀x,dY iter X.env x=pure x:=by intro _;rfl):
  JE X (.ListComp elt [⟨.Name x px,iter,ifs,0⟩] scope pos) (tI ti ix j tf te):= .of (Fw (Ef S) hc hi.h (λC s H fp=>⟨(hb C s H fp).1.h,(hb C s H fp).2.h⟩) hs) λσ H Q q=>wo q
theorem nE{scope:eL}{M:List Str}{ix:List (Option Nat)}{j n:Nat}{x y:Str}{elt iter:Expr}{px py pos spos:Pos}{ifs:List Expr}{ti:sw}{tf:T2}{te:E2}(hN:X.N.Nodup)(hi:X.N[n]? =some y)(hy:X.env.scope.names.lookup y=some .local)
  (S:dE X.env.scope X.N scope M ix j x=true) (hc:X.calm=true) (hit:JI X (.Name x px) iter ti)
  (hb:∀C s H fp,JF (bY X M scope C s H fp) ifs tf/\JE (bY X M scope C s H fp) elt te)
  (hsw:jh (.ListComp elt [⟨.Name x px,iter,ifs,0⟩] scope pos) (some (.Name y py)) spos.line X.env=pure true:=by rfl) (hs:∀x,dY iter X.env x=pure x:=by intro _;rfl):
  JS X (.Assign [.Name y py] (.ListComp elt [⟨.Name x px,iter,ifs,0⟩] scope pos) spos) (oI (tI ti ix j tf te) (gN n)):= .of (Fd hN hi hy (Ef S) hc hit.h (λC s H fp=>⟨(hb C s H fp).1.h,(hb C s H fp).2.h⟩) hsw hs) λD σ H ⟨τ,G,D2,rs,rp,q,cl⟩=>by
 exact wo (X:=X) ⟨τ,G,_,rs,rp,q,λp G1 v H1 q1 d1 r1 k1=>cl.nx _ _ _ _ q1 ((rs.keep k1).set d1 n) r1 k1⟩
theorem nV{items:List PV}{c:Gp->Prop}{ix:List (Option Nat)}{j:Nat}{τ:je}{tf:T2}{te:E2}{Q:K2}{G1:Gp}{acc:Addr}(f:PV->Bool)(g:PV->PV)(hz:items.length<16000000)
  (hc:∀ys,c (up G1 acc (.lst ys))) (ht:∀x ys (R:Bool->Gp->Prop),x∈items->R (f x) (up G1 acc (.lst ys))->tf (st (kS ix τ) j (some x)) (up G1 acc (.lst ys)) R)
  (he:∀x ys (R:K2),x∈items->f x=true->R (g x) (up G1 acc (.lst ys))->te (st (kS ix τ) j (some x)) (up G1 acc (.lst ys)) R)
  (hq:Q (.ref acc) (up G1 acc (.lst ((items.filter f).map g)))):Nv items c ix j τ tf te Q G1 acc:=by
 refine⟨λi ys G=>ys=((items.take i).filter f).map g/\G=up G1 acc (.lst ys),⟨by simp,rfl⟩,?_,?_,?_⟩
 ·rintro i ys G hi ⟨rfl,rfl⟩
  refine⟨hc _,af,?_⟩
  rw[ai]
  exact pY (aP (lR _ _) (by rw[bo];ac_nf)) hz
 ·rintro i ys G x hx ⟨rfl,rfl⟩
  have hm:=ax hx
  have tk:items.take (i+1)=items.take i++[x]:=by rw[bt,hx];rfl
  refine ht x _ _ hm ?_
  cases hf:f x with
  |true=>
   refine ia rfl ?_
   refine he x _ _ hm hf ⟨af,?_,fZ⟩
   rw[tk,jK,aR]
   simp[hf]
  |false=>
   refine lw rfl ⟨?_,rfl⟩
   rw[tk,jK]
   simp[hf]
 ·rintro ys G ⟨rfl,rfl⟩
  rw[bj]
  exact hq
end
noncomputable def yw:B2:=λp q G Q=>match p,q with
 | .int i,.int j=>Q (.int (i+j)) G
 | .str a,.str b=>a.length+b.length<=16000000/\Q (.str (a++b)) G
 | .tup xs,.tup ys=>xs≠[]/\xs.length+ys.length<=16000000/\Q (.tup (xs++ys)) G
 | .ref a,.ref b=>match lk G a,lk G b with
  |some ps,some qs=>ps.length+qs.length<=16000000/\∀c,G c=none->Q (.ref c) (up G c (.lst (ps++qs)))
  |_,_=>False
 | .ref a,.ro qs=>match lk G a with
  |some ps=>ps.length+qs.length<=16000000/\∀c,G c=none->Q (.ref c) (up G c (.lst (ps++qs)))
  |none=>False
 |_,_=>False
noncomputable abbrev i2(C:Int->Int->Prop)(g:Int->Int->PV):B2:=λp q G Q=>match p,q with
 | .int i,.int j=>C i j/\Q (g i j) G
 |_,_=>False
noncomputable abbrev Kx(g:Int->Int->PV):B2:=λp q G Q=>match p,q with
 | .int i,.int j=>Q (g i j) G
 |_,_=>False
noncomputable abbrev NH:B2:=λp q G Q=>match p,q with
 | .int i,.int j=>Q (.bl (decide (i<j))) G
 | .str a,.str b=>Q (.bl (decide (a.cps.toList<b.cps.toList))) G
 |_,_=>False
noncomputable abbrev OH:B2:=Kx λi j=> .bl (decide (j<i))
noncomputable abbrev mB:B2:=Kx λi j=> .bl (decide (j<=i))
noncomputable abbrev Io:B2:=Kx λi j=> .int (i-j)
noncomputable abbrev L9:B2:=i2 (λ_ j=>0<j) λi j=> .int (i%j)
noncomputable abbrev DY:B2:=i2 Ia λi j=> .int (i/j)
noncomputable abbrev LJ:B2:=i2 K3 λi j=> .int (i^j.toNat)
noncomputable def FW:B2:=λp q G Q=>match p,q with
 | .int i,.int j=>CMul i j/\Q (.int (i*j)) G
 | .ref a,.int k=>match G a with
  |some (.lst ps)=>(-(2^63)<=k/\k<2^63)/\ps.length*k.toNat<=16000000/\∀c,G c=none->Q (.ref c) (up G c (.lst (bJ k.toNat ps).flatten))
  |_=>False
 |_,_=>False
section
variable{X:Cx}
theorem yf{f:ae->ae->Sem ae}{C:Int->Int->Prop}{g:Int->Int->V}{g':Int->Int->PV}(h:jl X f (rI C g))(hg:∀i j H,Dv X.K H (g' i j) (g i j)):jl X f (ik X.K (i2 C g')):=by
 intro pins s σ H x y v u Q I rx ry h'
 obtain⟨p,q,G,Q2,d1,d2,rp,q',cl⟩:=h'
 unfold i2 at q'
 split at q'
 ·rename_i i j
  obtain rfl:x= .int i:=d1
  obtain rfl:y= .int j:=d2
  exact h pins s σ H _ _ v u Q I rx ry ⟨i,j,rfl,rfl,q'.1,cl _ _ _ _ q'.2 (hg i j H) rp .refl⟩
 ·exact q'.elim
theorem uS{f:ae->ae->Sem ae}{g:Int->Int->V}{g':Int->Int->PV}(h:jl X f (HG g))(hg:∀i j H,Dv X.K H (g' i j) (g i j)):jl X f (ik X.K (Kx g')):=by
 intro pins s σ H x y v u Q I rx ry h'
 obtain⟨p,q,G,Q2,d1,d2,rp,q',cl⟩:=h'
 unfold Kx at q'
 split at q'
 ·rename_i i j
  obtain rfl:x= .int i:=d1
  obtain rfl:y= .int j:=d2
  exact h pins s σ H _ _ v u Q I rx ry ⟨i,j,rfl,rfl,cl _ _ _ _ q' (hg i j H) rp .refl⟩
 ·exact q'.elim
theorem LV:jl X (dO .Sub) (ik X.K Io):=uS Jf λ_ _ _=>rfl
theorem LY:jl X (dO .Mod) (ik X.K L9):=yf Jj λ_ _ _=>rfl
theorem Js:jl X (dO .FloorDiv) (ik X.K DY):=yf C5 λ_ _ _=>rfl
theorem LW:jl X (dO .Pow) (ik X.K LJ):=yf Jh λ_ _ _=>rfl
theorem Ov:jl X (cL .Gt) (ik X.K OH):=uS LQ λ_ _ _=>rfl
theorem Ow:jl X (cL .GtE) (ik X.K mB):=uS LR λ_ _ _=>rfl
theorem LZ:jl X (cL .Lt) (ik X.K NH):=by
 intro pins s σ H x y v u Q I rx ry h
 obtain⟨p,q,G,Q2,d1,d2,rp,h,cl⟩:=h
 unfold NH at h
 split at h
 ·rename_i i j
  obtain rfl:x= .int i:=d1
  obtain rfl:y= .int j:=d2
  exact LP pins s σ H _ _ v u Q I rx ry ⟨i,j,rfl,rfl,cl _ _ _ _ h rfl rp .refl⟩
 ·rename_i i j
  obtain rfl:x= .str i:=d1
  obtain rfl:y= .str j:=d2
  exact Av pins s σ H _ _ v u Q I rx ry ⟨i,j,rfl,rfl,cl _ _ _ _ h rfl rp .refl⟩
 ·exact h.elim
theorem HJ:jl X (dO .Add) (ik X.K yw):=by
 intro pins s σ H x y v u Q I rx ry h
 obtain⟨p,q,G,Q2,d1,d2,rp,h,cl⟩:=h
 unfold yw at h
 split at h
 ·rename_i i j
  obtain rfl:x= .int i:=d1
  obtain rfl:y= .int j:=d2
  exact Jl pins s σ H _ _ v u Q I rx ry ⟨i,j,rfl,rfl,cl _ _ _ _ h rfl rp .refl⟩
 ·rename_i i j
  obtain rfl:x= .str i:=d1
  obtain rfl:y= .str j:=d2
  exact xN pins s σ H _ _ v u Q I rx ry ⟨i,j,rfl,rfl,big h.1,cl _ _ _ _ h.2 rfl rp .refl⟩
 ·rename_i xs ys
  obtain⟨a,vs,rfl,sa,da⟩:=d1
  obtain⟨b,us,rfl,sb,db⟩:=d2
  obtain⟨ne,hl,hq⟩:=h
  have la:=da.length
  have lb:=db.length
  refine FB pins s σ H _ _ v u Q I rx ry ⟨a,b,vs,us,rfl,rfl,sa,sb,?_,by rw[la,lb];exact big hl,λe=> ?_,λ_ c hc=> ?_⟩
  ·intro e;subst e
   exact ne (iZ (by rw[<-la];rfl))
  ·subst e
   have ey:ys=[]:=iZ (by rw[<-lb];rfl)
   subst ey
   rw[cr]at hq
   exact cl _ _ _ _ hq ⟨a,vs,rfl,sa,da⟩ rp .refl
  ·have kn:Keep X.K H (upd H c (.tup (vs++us))):=bQ hc
   exact cl _ _ _ _ hq ⟨c,_,rfl,.of cG,(da.append db).keep kn⟩ (rp.tup hc) kn
 ·rename_i a b
  split at h
  ·rename_i ps qs e1 e2
   obtain⟨hl,hq⟩:=h
   obtain rfl:x= .ref a:=d1
   obtain rfl:y= .ref b:=d2
   obtain⟨vs,sa,da⟩:=gf rp e1
   obtain⟨us,sb,db⟩:=gf rp e2
   refine zx pins s σ H _ _ v u Q I rx ry ⟨a,b,vs,us,rfl,rfl,sa,sb,by rw[da.length,db.length];exact big hl,λc hc=> ?_⟩
   exact cl _ _ _ _ (hq c (rp.none hc)) rfl (rp.new hc (da.append db)) (bQ hc)
  ·exact h.elim
 ·rename_i a qs
  split at h
  ·rename_i ps e1
   obtain⟨hl,hq⟩:=h
   obtain rfl:x= .ref a:=d1
   obtain⟨b,us,rfl,sb,db⟩:=d2
   obtain⟨vs,sa,da⟩:=gf rp e1
   refine zx pins s σ H _ _ v u Q I rx ry ⟨a,b,vs,us,rfl,rfl,sa,sb.sq,by rw[da.length,db.length];exact big hl,λc hc=> ?_⟩
   exact cl _ _ _ _ (hq c (rp.none hc)) rfl (rp.new hc (da.append db)) (bQ hc)
  ·exact h.elim
 ·exact h.elim
theorem Dvs.rep{K:PySem.W.Frag}{H:Hp}{ps:List PV}{vs:List V}(d:Dvs K H ps vs):∀n,Dvs K H (bJ n ps).flatten (bJ n vs).flatten
 |0=>rfl
 |n+1=>by
  rw[dz,dz,c8,c8]
  exact d.append (Dvs.rep d n)
theorem LX:jl X (dO .Mult) (ik X.K FW):=by
 intro pins s σ H x y v u Q I rx ry h
 obtain⟨p,q,G,Q2,d1,d2,rp,h,cl⟩:=h
 unfold FW at h
 split at h
 ·rename_i i j
  obtain rfl:x= .int i:=d1
  obtain rfl:y= .int j:=d2
  exact Ji pins s σ H _ _ v u Q I rx ry ⟨i,j,rfl,rfl,h.1,cl _ _ _ _ h.2 rfl rp .refl⟩
 ·rename_i a k
  split at h
  ·rename_i ps e
   obtain⟨hk,hl,hq⟩:=h
   obtain rfl:x= .ref a:=d1
   obtain rfl:y= .int k:=d2
   obtain⟨vs,ha,da⟩:=rp.lst e
   refine Jg pins s σ H _ _ v u Q I rx ry ⟨a,k,vs,rfl,rfl,ha,hk.1,hk.2,by rw[da.length];exact big hl,λc hc=> ?_⟩
   exact cl _ _ _ _ (hq c (rp.none hc)) rfl (rp.new hc (da.rep _)) (bQ hc)
  ·exact h.elim
 ·exact h.elim
end
noncomputable abbrev MM:B2:=λp q G Q=>match p,q with
 | .non,.non=>Q (.bl true) G
 |_,.non=>Q (.bl false) G
 |_,_=>False
noncomputable def kM:PV->Bool
 | .non=>true
 | .bl _=>true
 | .int _=>true
 | .str _=>true
 |_=>false
noncomputable def Kw(x:PV)(ps:List PV):Bool:=ps.any λy=>mh y x
noncomputable def MQ(neg:Bool):B2:=λp q G Q=>match q with
 | .tup ps=>kM p=true/\ps.all kM=true/\Q (.bl (if neg then !Kw p ps else Kw p ps)) G
 | .ref a=>match lk G a with
  |some ps=>kM p=true/\ps.all kM=true/\Q (.bl (if neg then !Kw p ps else Kw p ps)) G
  |none=>False
 | .str j=>match p with
  | .str i=>Q (.bl (if neg then !(!(gG j i 0 j.length 1).isEmpty)else !(gG j i 0 j.length 1).isEmpty)) G
  |_=>False
 |_=>False
section
variable{X:Cx}
theorem yh{K:PySem.W.Frag}{H:Hp}{p:PV}{v:V}(f:kM p=true)(d:Dv K H p v):lI v=true:=by
 cases p with
 |non=>obtain rfl:v= .non:=d;rfl
 |bl b=>obtain rfl:v= .bl b:=d;rfl
 |int b=>obtain rfl:v= .int b:=d;rfl
 |str b=>obtain rfl:v= .str b:=d;rfl
 |_=>cases f
theorem GU{K:PySem.W.Frag}{H:Hp}{p q:PV}{v u:V}(f1:kM p=true)(f2:kM q=true)(d1:Dv K H p v)(d2:Dv K H q u):GV v u=mh p q:=by
 cases p with
 |non=>
  obtain rfl:v= .non:=d1
  cases q with
  |non=>obtain rfl:u= .non:=d2;rfl
  |bl b=>obtain rfl:u= .bl b:=d2;rfl
  |int b=>obtain rfl:u= .int b:=d2;rfl
  |str b=>obtain rfl:u= .str b:=d2;rfl
  |_=>cases f2
 |bl a=>
  obtain rfl:v= .bl a:=d1
  cases q with
  |non=>obtain rfl:u= .non:=d2;rfl
  |bl b=>obtain rfl:u= .bl b:=d2;rfl
  |int b=>obtain rfl:u= .int b:=d2;rfl
  |str b=>obtain rfl:u= .str b:=d2;rfl
  |_=>cases f2
 |int a=>
  obtain rfl:v= .int a:=d1
  cases q with
  |non=>obtain rfl:u= .non:=d2;rfl
  |bl b=>obtain rfl:u= .bl b:=d2;rfl
  |int b=>obtain rfl:u= .int b:=d2;rfl
  |str b=>obtain rfl:u= .str b:=d2;rfl
  |_=>cases f2
 |str a=>
  obtain rfl:v= .str a:=d1
  cases q with
  |non=>obtain rfl:u= .non:=d2;rfl
  |bl b=>obtain rfl:u= .bl b:=d2;rfl
  |int b=>obtain rfl:u= .int b:=d2;rfl
  |str b=>obtain rfl:u= .str b:=d2;rfl
  |_=>cases f2
 |_=>cases f1
theorem uU{K:PySem.W.Frag}{H:Hp}{x:PV}{xv:V}(fx:kM x=true)(dx:Dv K H x xv):∀{ps:List PV} {vs:List V},ps.all kM=true->Dvs K H ps vs->vs.all lI=true/\NK xv vs=Kw x ps
 |[],vs,_,d=>by rw[show vs=[]from d];exact⟨rfl,rfl⟩
 |p::ps,vs,f,d=>by
  obtain⟨v,r,rfl,d1,d2⟩:=d
  rw[ko,bC]at f
  obtain⟨h1,h2⟩:=uU fx dx f.2 d2
  refine⟨by rw[ko,yh f.1 d1,h1];rfl,?_⟩
  unfold NK Kw at h2⊢
  rw[cT,cT,GU f.1 fx d1 dx,h2]
theorem Ou:jl X (cL .In) (ik X.K (MQ false)):=by
 intro pins s σ H x y v u Q I rx ry h
 obtain⟨p,q,G,Q2,d1,d2,rp,h,cl⟩:=h
 unfold MQ at h
 split at h
 ·rename_i ps
  obtain⟨f1,f2,hq⟩:=h
  obtain⟨b,us,rfl,sb,db⟩:=d2
  obtain⟨g1,g2⟩:=uU f1 d1 f2 db
  refine tt pins s σ H _ _ v u Q I rx ry ⟨b,us,rfl,.inr sb,yh f1 d1,g1,?_⟩
  rw[g2]
  exact cl _ _ _ _ hq rfl rp .refl
 ·rename_i b
  split at h
  ·rename_i ps e
   obtain⟨f1,f2,hq⟩:=h
   obtain rfl:y= .ref b:=d2
   obtain⟨us,sb,db⟩:=gf rp e
   obtain⟨g1,g2⟩:=uU f1 d1 f2 db
   refine tt pins s σ H _ _ v u Q I rx ry ⟨b,us,rfl,.inl sb,yh f1 d1,g1,?_⟩
   rw[g2]
   exact cl _ _ _ _ hq rfl rp .refl
  ·exact h.elim
 ·rename_i j
  split at h
  ·rename_i i
   obtain rfl:x= .str i:=d1
   obtain rfl:y= .str j:=d2
   exact Aw pins s σ H _ _ v u Q I rx ry ⟨i,j,rfl,rfl,cl _ _ _ _ h rfl rp .refl⟩
  ·exact h.elim
 ·exact h.elim
theorem FT{K:PySem.W.Frag}{H:Hp}{p:PV}{v:V}(d:Dv K H p v):(v= .non)↔(p= .non):=by
 cases p with
 |non=>obtain rfl:v= .non:=d;simp
 |tup ps=>obtain⟨a,vs,rfl,_⟩:=d;simp
 |bl b=>obtain rfl:v= .bl b:=d;simp
 |int b=>obtain rfl:v= .int b:=d;simp
 |str b=>obtain rfl:v= .str b:=d;simp
 |ref b=>obtain rfl:v= .ref b:=d;simp
 |ty b=>obtain rfl:v= .ty b:=d;simp
 |ro b=>obtain⟨a,vs,rfl,_⟩:=d;simp
theorem L5:jl X (cL .Is) (ik X.K MM):=by
 intro pins s σ H x y v u Q I rx ry h
 obtain⟨p,q,G,Q2,d1,d2,rp,h,cl⟩:=h
 have z:=FT d1
 cases q with
 |non=>
  obtain rfl:y= .non:=d2
  refine Jk pins s σ H _ _ v u Q I rx ry ⟨rfl,?_⟩
  cases p with
  |non=>rw[decide_eq_true (z.mpr rfl)];exact cl _ _ _ _ h rfl rp .refl
  |_=>rw[decide_eq_false (λe=>nomatch (z.mp e))];exact cl _ _ _ _ h rfl rp .refl
 |_=>cases p<;>exact bZ h
end
noncomputable def rC:B2:=λp q G Q=>match p,q with
 | .tup ps,.int i=>match qv ps i with
  |some x=>Q x G
  |none=>False
 | .ref a,.int i=>match lk G a with
  |some ps=>match qv ps i with
   |some x=>Q x G
   |none=>False
  |none=>False
 | .str z,.int i=>z.length<=16000000/\match qv z.cps.toList i with
  |some c=>Q (.str ⟨#[c]⟩) G
  |none=>False
 |_,_=>False
theorem Er{K:PySem.W.Frag}{H:Hp}{ps:List PV}{vs:List V}{i:Int}{p:PV}(d:Dvs K H ps vs)(h:qv ps i=some p):∃v,qv vs i=some v/\Dv K H p v:=by
 unfold qv at h⊢
 rw[d.length]
 cases e:AV ps.length i with
 |none=>rw[e]at h;cases h
 |some j=>
  rw[e]at h
  exact d.at h
theorem K9{X:Cx}:K8 X (ik X.K rC):=by
 intro va sl pins s σ H x y v u Q I rx ry h hs
 obtain⟨p,q,G,Q2,d1,d2,rp,h,cl⟩:=h
 unfold rC at h
 split at h
 ·rename_i ps i
  split at h
  ·rename_i z e
   obtain⟨a,vs,rfl,sa,da⟩:=d1
   obtain rfl:y= .int i:=d2
   obtain⟨w,ew,dw⟩:=Er da e
   exact Kn va sl pins s σ H _ _ v u Q I rx ry ⟨a,vs,i,w,rfl,rfl,sa,ew,cl _ _ _ _ h dw rp .refl⟩ hs
  ·exact h.elim
 ·rename_i a i
  split at h
  ·rename_i ps e0
   split at h
   ·rename_i z e
    obtain rfl:x= .ref a:=d1
    obtain rfl:y= .int i:=d2
    obtain⟨vs,sa,da⟩:=gf rp e0
    obtain⟨w,ew,dw⟩:=Er da e
    exact GF va sl pins s σ H _ _ v u Q I rx ry ⟨a,vs,i,w,rfl,rfl,sa,ew,cl _ _ _ _ h dw rp .refl⟩ hs
   ·exact h.elim
  ·exact h.elim
 ·rename_i z i
  obtain⟨hz,h⟩:=h
  split at h
  ·rename_i c e
   obtain rfl:x= .str z:=d1
   obtain rfl:y= .int i:=d2
   exact Ko va sl pins s σ H _ _ v u Q I rx ry ⟨z,i,c,rfl,rfl,big hz,e,cl _ _ _ _ h rfl rp .refl⟩ hs
  ·exact h.elim
 ·exact h.elim
noncomputable def jj:C2:=λps G Q=>match ps with
 |[.tup xs]=>Q (.int xs.length) G
 |[.ref a]=>match lk G a with
  |some xs=>Q (.int xs.length) G
  |none=>False
 |[.str z]=>z.length<=16000000/\Q (.int z.length) G
 |_=>False
theorem fC{K:PySem.W.Frag}{H:Hp}{p:PV}{vs:List V}(d:Dvs K H [p] vs):∃v,vs=[v]/\Dv K H p v:=by
 obtain⟨v,r,rfl,d1,d2⟩:=d
 obtain rfl:r=[]:=d2
 exact⟨v,rfl,d1⟩
theorem uh{K:PySem.W.Frag}{H:Hp}{p q:PV}{vs:List V}(d:Dvs K H [p,q] vs):∃v u,vs=[v,u]/\Dv K H p v/\Dv K H q u:=by
 obtain⟨v,r,rfl,d1,d2⟩:=d
 obtain⟨u,rfl,d3⟩:=fC d2
 exact⟨v,u,rfl,d1,d3⟩
section
variable{X:Cx}
theorem Nt:hV X (.builtin "len") (pT X.K jj):=by
 intro pins s σ H xs us Q I rs h
 obtain⟨ps,G,Q2,d,rp,h,cl⟩:=h
 unfold jj at h
 split at h
 ·rename_i ys
  obtain⟨v,rfl,dv⟩:=fC d
  obtain⟨a,vs,rfl,sa,da⟩:=dv
  refine nS pins s σ H _ us Q I rs ⟨a,vs,rfl,.inr sa,?_⟩
  rw[da.length]
  exact cl _ _ _ _ h rfl rp .refl
 ·rename_i a
  split at h
  ·rename_i ys e
   obtain⟨v,rfl,dv⟩:=fC d
   obtain rfl:v= .ref a:=dv
   obtain⟨vs,sa,da⟩:=gf rp e
   refine nS pins s σ H _ us Q I rs ⟨a,vs,rfl,.inl sa,?_⟩
   rw[da.length]
   exact cl _ _ _ _ h rfl rp .refl
  ·exact h.elim
 ·rename_i z
  obtain⟨v,rfl,dv⟩:=fC d
  obtain rfl:v= .str z:=dv
  exact vj pins s σ H _ us Q I rs ⟨z,rfl,big h.1,cl _ _ _ _ h.2 rfl rp .refl⟩
 ·exact h.elim
noncomputable def Dt:C2:=λps G Q=>match ps with
 |[.int i,.int j]=>Q (.int (if j>i then j else i)) G
 |_=>False
theorem KJ(hc:X.calm=true):hV X (.builtin "max") (pT X.K Dt):=by
 intro pins s σ H xs us Q I rs h
 obtain⟨ps,G,Q2,d,rp,h,cl⟩:=h
 unfold Dt at h
 split at h
 ·rename_i i j
  obtain⟨v,u,rfl,dv,du⟩:=uh d
  obtain rfl:v= .int i:=dv
  obtain rfl:u= .int j:=du
  exact A7 hc pins s σ H _ us Q I rs ⟨i,j,rfl,cl _ _ _ _ h rfl rp .refl⟩
 ·exact h.elim
noncomputable def DA:C2:=λps G Q=>match ps with
 |[.tup xs]=>∀c,G c=none->Q (.ref c) (up G c (.lst xs))
 |[.ref a]=>match G a with
  |some (.lst xs)=>∀c,G c=none->Q (.ref c) (up G c (.lst xs))
  |some (.rl xs)=>∀c,G c=none->Q (.ref c) (up G c (.lst xs))
  |some (.rng lo hi)=>(-(2^62)<=lo/\lo<2^62/\-(2^62)<=hi/\hi<2^62)/\(hi-lo).toNat<=16000000/\∀c,G c=none->Q (.ref c) (up G c (.lst (jR lo (hi-lo).toNat)))
  |_=>False
 |_=>False
theorem AZ{lo:Int}:∀(n:Nat) {its:List ae},its.length=n->(∀i,i<n->∃t,its[i]? =some (ed (lo+(i:Nat)) t))->Vals ((bE n).map fun(i:Nat)=>V.int (lo+i)) its:=by
 intro n
 induction n with
 |zero=>intro its hl _;rw[iZ hl];exact .nil
 |succ n ih=>
  intro its hl h
  have e:its=its.take n++[its[n]'(by ac_nf)]:=by
   have:=cP n its
   rw[dF (by ac_nf),List.drop_of_length_le (by ac_nf)]at this
   exact this.symm
  obtain⟨t,ht⟩:=h n (by ac_nf)
  have ht':its[n]'(by ac_nf)= .int (lo+(n:Nat)) t:=by
   rw[ak (by ac_nf)]at ht
   exact bc ht
  rw[e,List.range_succ,aR]
  refine Vals.append (ih (by rw[bo];ac_nf) λi hi=> ?_) (.cons ⟨t,ht'⟩ .nil)
  obtain⟨t2,h2⟩:=h i (by ac_nf)
  refine⟨t2,?_⟩
  rw[List.getElem?_take]
  rw[if_pos hi]
  exact h2
theorem DQ{K:PySem.W.Frag}{H:Hp}{lo:Int}:∀(l:List Nat),Dvs K H (l.map fun(i:Nat)=>PV.int (lo+i)) (l.map fun(i:Nat)=>V.int (lo+i))
 |[]=>rfl
 |i::l=>⟨_,_,rfl,rfl,DQ l⟩
theorem KL(hc:X.calm=true):hV X (.type "list") (pT X.K DA):=by
 intro pins s σ H xs us Q I rs h
 obtain⟨ps,G,Q2,d,rp,h,cl⟩:=h
 unfold DA at h
 split at h
 ·rename_i ys
  obtain⟨v,rfl,dv⟩:=fC d
  obtain⟨a,vs,rfl,sa,da⟩:=dv
  exact ke pins s σ H _ us Q I rs ⟨a,vs,rfl,.inr sa,λc hc=>cl _ _ _ _ (h c (rp.none hc)) rfl (rp.new hc da) (bQ hc)⟩
 ·rename_i a
  obtain⟨v,rfl,dv⟩:=fC d
  obtain rfl:v= .ref a:=dv
  split at h
  ·rename_i ys e
   obtain⟨vs,sa,da⟩:=rp.lst e
   exact ke pins s σ H _ us Q I rs ⟨a,vs,rfl,.inl (.of sa),λc hc=>cl _ _ _ _ (h c (rp.none hc)) rfl (rp.new hc da) (bQ hc)⟩
  ·rename_i ys e
   obtain⟨vs,sa,da⟩:=rp a _ e
   exact ke pins s σ H _ us Q I rs ⟨a,vs,rfl,.inl (.inl sa),λc hc=>cl _ _ _ _ (h c (rp.none hc)) rfl (rp.new hc da) (bQ hc)⟩
  ·rename_i lo hi e
   obtain⟨⟨b1,b2,b3,b4⟩,hn,hq⟩:=h
   have hr:H a=some (.rng lo hi):=rp a _ e
   obtain⟨u,rfl,ru⟩:=rs.one
   cases ru
   obtain⟨t,u,v,hg⟩:=I.hok a _ hr
   have e2:eP lo hi 1=(((hi-lo).toNat:Nat):Int):=by
    show(if(1:Int)>0 then(if lo<hi then(hi-lo-1)/1+1 else 0)else _)=_
    rw[if_pos (by decide)]
    split<;>ac_nf
   refine call_list_range (n:=(hi-lo).toNat) (I.ok.hd hc) hg (small_one b1 b2 b3 b4) e2 (by ac_nf) λh' tk acc' c' hk hS hacc=> ?_
   have hfr:H s.heap.objs.size=none:=I.hok.fresh (am _)
   refine⟨.ref s.heap.objs.size,upd H s.heap.objs.size (.lst ((bE (hi-lo).toNat).map fun(i:Nat)=>V.int (lo+i))),I.laid (t':=tk) (λb o e=>hk b o e) (am _) ?_,rfl,cl _ _ _ _ (hq _ (rp.none hfr)) rfl (rp.new hfr (DQ _)) (bQ hfr)⟩
   have hz:acc'.size=(hi-lo).toNat:=hacc.1
   refine⟨by rw[ai,List.length_range];exact big hn,acc'.toList,c',AZ _ (by simpa using hz) λi hi'=> ?_,by simpa using hS⟩
   have hv:acc'[i]? =some (acc'[i]'(by ac_nf)):=by simp
   obtain⟨t,et⟩:=hacc.2 i _ hv
   refine⟨t,?_⟩
   have:acc'.toList[i]? =some (acc'[i]'(by ac_nf)):=by simp
   rw[this,et,Int.mul_one]
  ·exact h.elim
 ·exact h.elim
noncomputable def lW:C2:=λps G Q=>match ps with
 |[.tup xs]=>Q (.tup xs) G
 |[.ref a]=>match lk G a with
  |some xs=>Q (.tup xs) G
  |none=>False
 |_=>False
theorem Hi:hV X (.type "tuple") (pT X.K lW):=by
 intro pins s σ H xs us Q I rs h
 obtain⟨ps,G,Q2,d,rp,h,cl⟩:=h
 unfold lW at h
 split at h
 ·rename_i ys
  obtain⟨v,rfl,dv⟩:=fC d
  obtain⟨a,vs,rfl,sa,da⟩:=dv
  exact lN pins s σ H _ us Q I rs ⟨a,vs,rfl,.inr ⟨sa,cl _ _ _ _ h ⟨a,vs,rfl,sa,da⟩ rp .refl⟩⟩
 ·rename_i a
  obtain⟨v,rfl,dv⟩:=fC d
  obtain rfl:v= .ref a:=dv
  split at h
  ·rename_i ys e
   obtain⟨vs,sa,da⟩:=gf rp e
   refine lN pins s σ H _ us Q I rs ⟨a,vs,rfl,.inl ⟨sa,λc hc=> ?_⟩⟩
   have kn:Keep X.K H (upd H c (.tup vs)):=bQ hc
   exact cl _ _ _ _ h ⟨c,vs,rfl,.of cG,da.keep kn⟩ (rp.tup hc) kn
  ·exact h.elim
 ·exact h.elim
noncomputable def me:List PV->Option (List Int)
 |[]=>some []
 | .int b::r=>(me r).map (b::·)
 |_=>none
theorem wE{K:PySem.W.Frag}{H:Hp}:∀{ps:List PV} {bs:List Int} {vs:List V},me ps=some bs->Dvs K H ps vs->vs=bs.map V.int
 |[],bs,vs,h,d=>by cases h;exact d
 |p::ps,bs,vs,h,d=>by
  obtain⟨v,r,rfl,d1,d2⟩:=d
  cases p with
  |int b=>
   unfold me at h
   cases e:me ps with
   |none=>rw[e]at h;cases h
   |some cs=>
    rw[e]at h
    cases h
    obtain rfl:v= .int b:=d1
    rw[wE e d2]
    rfl
  |_=>cases h
theorem yd(ns:List Int):me (ns.map PV.int)=some ns:=by
 induction ns with
 |nil=>rfl
 |cons n ns ih=>rw[aw];unfold me;rw[ih];rfl
theorem zN{K:PySem.W.Frag}{H:Hp}:∀(l:List Int),Dvs K H (l.map PV.int) (l.map V.int)
 |[]=>rfl
 |i::l=>⟨_,_,rfl,rfl,zN l⟩
noncomputable def Ai:C2:=λps G Q=>match ps with
 |[.ref a]=>match lk G a with
  |some xs=>match me xs with
   |some ns=>Q (.int ns.sum) G
   |none=>False
  |none=>False
 |_=>False
theorem Nr(hc:X.calm=true):hV X (.builtin "sum") (pT X.K Ai):=by
 intro pins s σ H xs us Q I rs h
 obtain⟨ps,G,Q2,d,rp,h,cl⟩:=h
 unfold Ai at h
 split at h
 ·rename_i a
  split at h
  ·rename_i ys e
   split at h
   ·rename_i ns eb
    obtain⟨v,rfl,dv⟩:=fC d
    obtain rfl:v= .ref a:=dv
    obtain⟨vs,sa,da⟩:=gf rp e
    obtain rfl:=wE eb da
    obtain⟨u,rfl,ru⟩:=rs.one
    cases ru
    obtain⟨its,r,pl,_⟩:=I.list sa
    have hi:=ye r
    obtain⟨zs,ez⟩:=hi.allInts.items
    refine sum_intListG (I.ok.hd hc) (xs:=zs) (by rw[<-ez];exact pl.isList) λh' tk t' hk=> ?_
    refine⟨.int ns.sum,H,I.kept (t':=tk) λb o e=>hk b o e,⟨t',?_⟩,cl _ _ _ _ h rfl rp .refl⟩
    have e1:numsOf its=ns:=hi.numsOf
    have e2:its.toArray.toList=its:=rfl
    rw[<-e2,ez,nums_intItems]at e1
    rw[preSum_eq,iy (by simp)]
    rw[<-e1]
   ·exact h.elim
  ·exact h.elim
 ·exact h.elim
end
noncomputable def NJ(p:PV)(G:Gp):Prop:=match p with
 | .ref a=>∃ps,G a=some (.lst ps)
 |_=>False
noncomputable abbrev uY(r:M2)(to:E2)(t:A2):E2:=λτ G Q=>to τ G λx G1=>NJ x G1/\t τ G1 λps G2=>r x ps G2 Q
noncomputable abbrev HU(r:M2)(to:E2):E2:=λτ G Q=>to τ G λx G1=>NJ x G1/\r x [] G1 Q
noncomputable abbrev Ha(r:M2)(to:E2)(t:A2):E2:=λτ G Q=>to τ G λx G1=>match x with
 | .str _=>t τ G1 λps G2=>r x ps G2 Q
 |_=>False
section
variable{X:Cx}{o e:Expr}{es:List Expr}{to:E2}{t:A2}{name:Str}{apos cpos:Pos}{id:String}{r:M2}
theorem DO{K:PySem.W.Frag}{H:Hp}{p:PV}{v:V}{G:Gp}(h:NJ p G)(d:Dv K H p v)(rp:Rep K H G):NC K "list" v H:=by
 cases p with
 |ref a=>
  obtain⟨ps,e⟩:=h
  obtain rfl:v= .ref a:=d
  obtain⟨vs,hv,_⟩:=rp.lst e
  exact .inl ⟨rfl,vs,.of hv⟩
 |_=>exact h.elim
theorem HM(slot:Slot "list" name id)(hty:typeOf (.builtin id)=pure (.type "method_descriptor"))(hm:Ez X id (x6 X.K r))(ho:JE X o to)(ha:JA X (e::es) t)
  (hbase:cz o name X.env (eval o X.env)=eval o X.env:=by rfl)
  (hfew:((ce cpos (aB (e::es) X.env)).all (λx=> !x.1)&&(io cpos (eK [] X.env)).all (λx=>x.1.isSome)&&decide ((e::es).length+([]:List gD).length+(if([]:List gD).isEmpty then 0 else 1)<30))=true:=by rfl)
  (hline:(apos.endLine==cpos.line)=true:=by rfl) (hs:aB (e::es) X.env=(false,eval e X.env)::aB es X.env:=by rfl) (hplain:(ce cpos (aB es X.env)).any (·.1)=false:=by rfl):
  JE X (.Call (.Attribute o name apos) (e::es) [] cpos) (uY r to t):= .of (HI PySem.F.plainAttrs_list slot hty hm ho.h ha.h hbase hfew hline hs hplain) λσ H Q ⟨τ,G,Q2,rs,rp,q,cl⟩=>by
 refine⟨τ,G,_,rs,rp,q,λp G1 v H1 q1 d1 r1 k1=>⟨DO q1.1 d1 r1,τ,G1,_,rs.keep k1,r1,q1.2,λps G2 vs H2 q2 d2 r2 k2=> ?_⟩⟩
 exact⟨p,ps,G2,Q2,d1.keep k2,d2,r2,q2,cl.keep (k1.trans k2)⟩
theorem Kf(slot:Slot "list" name id)(hty:typeOf (.builtin id)=pure (.type "method_descriptor"))(hm:Ez X id (x6 X.K r))(ho:JE X o to)
  (hbase:cz o name X.env (eval o X.env)=eval o X.env:=by rfl) (hline:(apos.endLine==cpos.line)=true:=by rfl):
  JE X (.Call (.Attribute o name apos) [] [] cpos) (HU r to):= .of (Jc PySem.F.plainAttrs_list slot hty hm ho.h hbase hline) λσ H Q ⟨τ,G,Q2,rs,rp,q,cl⟩=>by
 refine⟨τ,G,_,rs,rp,q,λp G1 v H1 q1 d1 r1 k1=>⟨DO q1.1 d1 r1,?_⟩⟩
 exact⟨p,[],G1,Q2,d1,.nil,r1,q1.2,cl.keep k1⟩
theorem Mx(slot:Slot "str" name id)(hty:typeOf (.builtin id)=pure (.type "method_descriptor"))(hm:Ez X id (x6 X.K r))(ho:JE X o to)(ha:JA X (e::es) t)
  (hbase:cz o name X.env (eval o X.env)=eval o X.env:=by rfl)
  (hfew:((ce cpos (aB (e::es) X.env)).all (λx=> !x.1)&&(io cpos (eK [] X.env)).all (λx=>x.1.isSome)&&decide ((e::es).length+([]:List gD).length+(if([]:List gD).isEmpty then 0 else 1)<30))=true:=by rfl)
  (hline:(apos.endLine==cpos.line)=true:=by rfl) (hs:aB (e::es) X.env=(false,eval e X.env)::aB es X.env:=by rfl) (hplain:(ce cpos (aB es X.env)).any (·.1)=false:=by rfl):
  JE X (.Call (.Attribute o name apos) (e::es) [] cpos) (Ha r to t):= .of (HI PySem.F.plainAttrs_str slot hty hm ho.h ha.h hbase hfew hline hs hplain) λσ H Q ⟨τ,G,Q2,rs,rp,q,cl⟩=>by
 refine⟨τ,G,_,rs,rp,q,λp G1 v H1 q1 d1 r1 k1=> ?_⟩
 cases p with
 |str z=>
  obtain rfl:v= .str z:=d1
  refine⟨rfl,τ,G1,_,rs.keep k1,r1,q1,λps G2 vs H2 q2 d2 r2 k2=> ?_⟩
  exact⟨.str z,ps,G2,Q2,rfl,d2,r2,q2,cl.keep (k1.trans k2)⟩
 |_=>exact bZ q1
noncomputable def kf:M2:=λp ps G Q=>match p,ps with
 | .ref a,[y]=>match G a with
  |some (.lst xs)=>xs.length<16000000/\Q .non (up G a (.lst (xs++[y])))
  |_=>False
 |_,_=>False
theorem Dx:Ez X "list.append" (x6 X.K kf):=by
 intro pins s σ H x xs v us Q I rx rs h
 obtain⟨p,ps,G,Q2,d,ds,rp,h,cl⟩:=h
 unfold kf at h
 split at h
 ·rename_i a y
  split at h
  ·rename_i zs e
   obtain rfl:x= .ref a:=d
   obtain⟨w,rfl,dw⟩:=fC ds
   obtain⟨vs,hv,dv⟩:=rp.lst e
   exact oS pins s σ H _ _ v us Q I rx rs ⟨a,vs,w,rfl,rfl,hv,by rw[dv.length];exact Em (iN h.1),cl _ _ _ _ h.2 rfl (rp.put hv (dv.append (.cons dw .nil))) (gu hv)⟩
  ·exact h.elim
 ·exact h.elim
noncomputable def g6:M2:=λp ps G Q=>match p,ps with
 | .ref a,[.tup ys]=>match G a with
  |some (.lst xs)=>xs.length+ys.length<=16000000/\Q .non (up G a (.lst (xs++ys)))
  |_=>False
 | .ref a,[.ref b]=>match G a,G b with
  |some (.lst xs),some (.lst ys)=>xs.length+ys.length<=16000000/\Q .non (up G a (.lst (xs++ys)))
  |_,_=>False
 |_,_=>False
theorem Dw:Ez X "list.extend" (x6 X.K g6):=by
 intro pins s σ H x xs v us Q I rx rs h
 obtain⟨p,ps,G,Q2,d,ds,rp,h,cl⟩:=h
 unfold g6 at h
 split at h
 ·rename_i a ys
  split at h
  ·rename_i zs e
   obtain rfl:x= .ref a:=d
   obtain⟨w,rfl,dw⟩:=fC ds
   obtain⟨b,ws,rfl,sb,db⟩:=dw
   obtain⟨vs,hv,dv⟩:=rp.lst e
   exact xV pins s σ H _ _ v us Q I rx rs ⟨a,b,vs,ws,rfl,rfl,hv,sb,by rw[dv.length,db.length];exact big h.1,cl _ _ _ _ h.2 rfl (rp.put hv (dv.append db)) (gu hv)⟩
  ·exact h.elim
 ·rename_i a b
  split at h
  ·rename_i zs ys e1 e2
   obtain rfl:x= .ref a:=d
   obtain⟨w,rfl,dw⟩:=fC ds
   obtain rfl:w= .ref b:=dw
   obtain⟨vs,hv,dv⟩:=rp.lst e1
   obtain⟨ws,hb,db⟩:=rp.lst e2
   exact AG pins s σ H _ _ v us Q I rx rs ⟨a,b,vs,ws,rfl,rfl,hv,hb,by rw[dv.length,db.length];exact big h.1,cl _ _ _ _ h.2 rfl (rp.put hv (dv.append db)) (gu hv)⟩
  ·exact h.elim
 ·exact h.elim
noncomputable def Cz:M2:=λp ps G Q=>match p,ps with
 | .ref a,[]=>match G a with
  |some (.lst xs)=>match xs[xs.length-1]? with
   |some y=>Q y (up G a (.lst xs.dropLast))
   |none=>False
  |_=>False
 |_,_=>False
theorem Dvs.dropLast{K:PySem.W.Frag}{H:Hp}{ps:List PV}{vs:List V}(d:Dvs K H ps vs):Dvs K H ps.dropLast vs.dropLast:=by
 rw[List.dropLast_eq_take,List.dropLast_eq_take,d.length]
 exact d.take _
theorem Ma:Ez X "list.pop" (x6 X.K Cz):=by
 intro pins s σ H x xs v us Q I rx rs h
 obtain⟨p,ps,G,Q2,d,ds,rp,h,cl⟩:=h
 unfold Cz at h
 split at h
 ·rename_i a
  split at h
  ·rename_i zs e
   split at h
   ·rename_i y ey
    obtain rfl:x= .ref a:=d
    obtain rfl:xs=[]:=ds
    obtain⟨vs,hv,dv⟩:=rp.lst e
    obtain⟨w,ew,dw⟩:=dv.at ey
    refine Jw pins s σ H _ _ v us Q I rx rs ⟨a,vs,w,rfl,rfl,hv,by rw[dv.length];exact ew,cl _ _ _ _ h (dw.keep (gu hv)) (rp.put hv dv.dropLast) (gu hv)⟩
   ·exact h.elim
  ·exact h.elim
 ·exact h.elim
noncomputable def lX:List PV->Option (List Str)
 |[]=>some []
 | .str b::r=>(lX r).map (b::·)
 |_=>none
theorem vM{K:PySem.W.Frag}{H:Hp}:∀{ps:List PV} {bs:List Str} {vs:List V},lX ps=some bs->Dvs K H ps vs->vs=bs.map V.str
 |[],bs,vs,h,d=>by cases h;exact d
 |p::ps,bs,vs,h,d=>by
  obtain⟨v,r,rfl,d1,d2⟩:=d
  cases p with
  |str b=>
   unfold lX at h
   cases e:lX ps with
   |none=>rw[e]at h;cases h
   |some cs=>
    rw[e]at h
    cases h
    obtain rfl:v= .str b:=d1
    rw[vM e d2]
    rfl
  |_=>cases h
theorem xA(ns:List Str):lX (ns.map PV.str)=some ns:=by
 induction ns with
 |nil=>rfl
 |cons n ns ih=>rw[aw];unfold lX;rw[ih];rfl
noncomputable def rq:M2:=λp ps G Q=>match p,ps with
 | .str z,[.ref a]=>match lk G a with
  |some xs=>match lX xs with
   |some ys=>(ys.map (·.length)).sum+ys.length*z.length<=16000000/\Q (.str (g9 z ys)) G
   |none=>False
  |none=>False
 |_,_=>False
theorem Jy:Ez X "str.join" (x6 X.K rq):=by
 intro pins s σ H x xs v us Q I rx rs h
 obtain⟨p,ps,G,Q2,d,ds,rp,h,cl⟩:=h
 unfold rq at h
 split at h
 ·rename_i z a
  split at h
  ·rename_i ws e
   split at h
   ·rename_i ys ey
    obtain rfl:x= .str z:=d
    obtain⟨w,rfl,dw⟩:=fC ds
    obtain rfl:w= .ref a:=dw
    obtain⟨vs,sa,da⟩:=gf rp e
    obtain rfl:=vM ey da
    exact FX pins s σ H _ _ v us Q I rx rs ⟨z,a,ys,rfl,rfl,sa,aP h.1 (by decide),cl _ _ _ _ h.2 rfl rp .refl⟩
   ·exact h.elim
  ·exact h.elim
 ·exact h.elim
end
noncomputable abbrev O2:=je->Gp->(Option Int->Gp->Prop)->Prop
noncomputable def Oy(K:PySem.W.Frag)(t:O2):TO:=λσ H Q=>∃τ G Q2,RSt K H σ τ/\Rep K H G/\t τ G Q2/\∀o G' H',Q2 o G'->Rep K H' G'->Keep K H H'->Q o H'
structure JO(X:Cx)(e:Option Expr)(t:O2):Prop where
 h:PO X e (Oy X.K t)
noncomputable abbrev NG:O2:=λ_ G Q=>Q none G
noncomputable abbrev zy(t:E2):O2:=λτ G Q=>t τ G λx G1=>match x with
 | .int i=>Q (some i) G1
 |_=>False
noncomputable def pf(xs:List PV)(lo hi:Option Int):List PV:=(xs.drop (HT.sIx xs.length 0 lo)).take (HT.sIx xs.length xs.length hi-HT.sIx xs.length 0 lo)
noncomputable def Bf:PV->Option Int->Option Int->Gp->K2->Prop:=λp lo hi G Q=>match p with
 | .tup xs=>¬(HT.sIx xs.length 0 lo=0/\HT.sIx xs.length xs.length hi=xs.length)/\Q (.tup (pf xs lo hi)) G
 | .ref a=>match lk G a with
  |some xs=>∀c,G c=none->Q (.ref c) (up G c (.lst (pf xs lo hi)))
  |none=>False
 | .str z=>z.length<=16000000/\Q (.str (Txt.slice z lo hi)) G
 |_=>False
noncomputable def HL(K:PySem.W.Frag)(r:PV->Option Int->Option Int->Gp->K2->Prop):V->Option Int->Option Int->Hp->VK->Prop:=λx lo hi H Q=>∃p G Q2,Dv K H p x/\Rep K H G/\r p lo hi G Q2/\Cl K H Q2 Q
noncomputable abbrev eSl(te:E2)(tl th:O2):E2:=λτ G Q=>te τ G λx G1=>tl τ G1 λl G2=>th τ G2 λu G3=>Bf x l u G3 Q
section
variable{X:Cx}{e:Expr}{te:E2}{lo hi:Option Expr}{tl th:O2}{pos p2:Pos}
theorem Gm:JO X none NG:=⟨λpins s σ H Q I ⟨τ,G,Q2,rs,rp,q,cl⟩=>Fh pins s σ H Q I (cl _ _ _ q rp .refl)⟩
theorem Gk(h:JE X e te):JO X (some e) (zy te):=⟨λpins s σ H Q I ⟨τ,G,Q2,rs,rp,q,cl⟩=>Fg h.h pins s σ H Q I ⟨τ,G,_,rs,rp,q,λp G1 v H1 q1 d1 r1 k1=>by
 cases p with
 |int i=>
  obtain rfl:v= .int i:=d1
  exact⟨i,rfl,cl _ _ _ q1 r1 k1⟩
 |_=>exact bZ q1⟩⟩
theorem HX{K:PySem.W.Frag}{H:Hp}{ps:List PV}{vs:List V}(d:Dvs K H ps vs)(lo hi:Option Int):Dvs K H (pf ps lo hi) (vf vs lo hi):=by
 unfold pf vf
 rw[d.length]
 exact(d.drop _).take _
theorem Cj:KY X (HL X.K Bf):=by
 intro pins s σ H x v vl vu lo hi sl Q I rx hs pl pu h
 obtain⟨p,G,Q2,d,rp,h,cl⟩:=h
 unfold Bf at h
 split at h
 ·rename_i xs
  obtain⟨a,vs,rfl,sa,da⟩:=d
  refine Ir pins s σ H _ v vl vu lo hi sl Q I rx hs pl pu ⟨a,vs,rfl,sa,by rw[da.length];exact h.1,λc hc=> ?_⟩
  have kn:Keep X.K H (upd H c (.tup (vf vs lo hi))):=bQ hc
  exact cl _ _ _ _ h.2 ⟨c,_,rfl,.of cG,(HX da lo hi).keep kn⟩ (rp.tup hc) kn
 ·rename_i a
  split at h
  ·rename_i xs e
   obtain rfl:x= .ref a:=d
   obtain⟨vs,sa,da⟩:=gf rp e
   exact ET pins s σ H _ v vl vu lo hi sl Q I rx hs pl pu ⟨a,vs,rfl,sa,λc hc=>cl _ _ _ _ (h c (rp.none hc)) rfl (rp.new hc (HX da lo hi)) (bQ hc)⟩
  ·exact h.elim
 ·rename_i z
  obtain rfl:x= .str z:=d
  exact Iu pins s σ H _ v vl vu lo hi sl Q I rx hs pl pu ⟨z,rfl,big h.1,cl _ _ _ _ h.2 rfl rp .refl⟩
 ·exact h.elim
theorem GC(he:JE X e te)(hl:JO X lo tl)(hu:JO X hi th):JE X (.Subscript e (.Slice lo hi none p2) pos) (eSl te tl th):= .of (wa Cj he.h hl.h hu.h) λσ H Q hPl=>by
 obtain⟨τ,G,Q2,rs,rp,q,cl⟩:=hPl
 refine⟨τ,G,_,rs,rp,q,λp G1 v H1 q1 d1 r1 k1=>⟨τ,G1,_,rs.keep k1,r1,q1,λl G2 H2 q2 r2 k2=>⟨τ,G2,_,rs.keep (k1.trans k2),r2,q2,λu G3 H3 q3 r3 k3=> ?_⟩⟩⟩
 exact⟨p,G3,Q2,d1.keep (k2.trans k3),r3,q3,cl.keep ((k1.trans k2).trans k3)⟩
end
theorem As(its:Array ae):slicePick its none none (some (-1))=its.toList.reverse.toArray:=by
 rw[<-HT.pick_rev its]
 unfold slicePick
 show(List.filterMap (λx=>its[x]?) (sliceRange ((its.size:Int)-1) (-1) (-1))).toArray=_
 have e:sliceRange ((its.size:Int)-1) (-1) (-1)=(bE its.size).map fun(k:Nat)=>((its.size:Int)-1+(-1)*(k:Int)).toNat:=by
  unfold sliceRange
  have c:(if(-1:Int)>0 then(if((its.size:Int)-1)< -1 then(-1-((its.size:Int)-1)+ -1-1)/ -1 else 0)else(if((its.size:Int)-1)> -1 then(((its.size:Int)-1)- -1- -1-1)/(-(-1))else 0)).toNat=its.size:=by
   rw[if_neg (by decide),show(-(-1:Int))=1 from rfl,Int.ediv_one]
   split<;>ac_nf
  simp only[c]
 rw[e,List.filterMap_map]
 have f:((λx=>its[x]?)∘fun(k:Nat)=>((its.size:Int)-1+(-1)*(k:Int)).toNat)=fun(m:Nat)=>its[((its.size:Int)-1+(m:Int)*(-1)).toNat]? :=by
  funext m
  show its[((its.size:Int)-1+(-1)*(m:Int)).toNat]? =_
  rw[Int.mul_comm]
 rw[f]
noncomputable abbrev OK(te:E2):E2:=λτ G Q=>te τ G λx G1=>match x with
 | .tup xs=>Q (.tup xs.reverse) G1
 | .ref a=>match lk G1 a with
  |some xs=>∀c,G1 c=none->Q (.ref c) (up G1 c (.lst xs.reverse))
  |none=>False
 |_=>False
section
variable{X:Cx}
theorem Mt{e:Expr}{te:E2}{k:Nat}{p1 p2 p3 pos:Pos}(he:JE X e te):JE X (.Subscript e (.Slice none none (some (.UnaryOp .USub (.Constant (.int 1) k p1) p3)) p2) pos) (OK te):=⟨by
 intro pins s σ H Q I h
 obtain⟨τ,G,Q2,rs,rp,h,cl⟩:=h
 refine PyProof.Rows.Subscript_ (eR (he.h pins s σ H (λv H1=>∃p G1,Dv X.K H1 p v/\Rep X.K H1 G1/\Keep X.K H H1/\(match p with
  | .tup xs=>Q2 (.tup xs.reverse) G1
  | .ref a=>match lk G1 a with
   |some xs=>∀c,G1 c=none->Q2 (.ref c) (up G1 c (.lst xs.reverse))
   |none=>False
  |_=>False)) I ⟨τ,G,_,rs,rp,h,λp G1 v H1 q d r k=>⟨p,G1,d,r,k,q⟩⟩) λv s1 ⟨x,H1,I1,r1,q,G1,d1,rp1,k1,q1⟩=> ?_)
 refine wpAny_Slice ?_
 rw[evalPart_none]
 refine ao (ao ?_)
 have hm:PE X (.UnaryOp .USub (.Constant (.int 1) k p1) p3) (tUn (rU λi=> .int (-i)) (tC (.int 1))):=HH BF CK
 refine eR (hm pins s1 σ H1 (λv H'=>v= .int (-1)/\H'=H1) I1 ⟨1,rfl,rfl,rfl⟩) λst s3 hPl=> ?_
 obtain⟨v3,H3,I3,r3,e3,eh⟩:=hPl
 subst e3 eh
 obtain⟨tk,rfl⟩:=r3
 have I4:=I3.kept (t':=s3.toks) (h':=s3.heap.push {cls:= .type "slice",data:= .fields #[.none,.none,.int (-1) tk]}) λb ob q=>aj _ q
 have hfr:=I4.hok.fresh (am _)
 cases q with
 |tup ps=>
  obtain⟨a,xs,rfl,hq,da⟩:=d1
  cases r1
  obtain⟨its,rv,pl,hz⟩:=I4.tuple hq
  have hl:=rv.length
  refine PyProof.Rows.tail_any (ops:=[.ref a,.ref s3.heap.objs.size]) pl.typeIs bw.lookup ?_ (by with_unfolding_all rfl)
  refine HT.getItem_tuple_rev pl (kB ..) ?_ (by rw[aA]<;>ac_nf)
  have kn:=bQ (K:=X.K) (o:= .tup xs.reverse) hfr
  refine⟨.ref _,_,I4.laid (t':=s3.toks) (o:= .tup xs.reverse) (λb ob q=>aj _ q) (am _) ?_,rfl,cl _ _ _ _ q1 ⟨_,_,rfl,.of cG,da.reverse.keep kn⟩ (rp1.tup hfr) (k1.trans kn)⟩
  exact⟨by rw[bK];exact hz,its.reverse,rv.reverse,⟨_,aJ _ rfl,rfl,0,by simp⟩⟩
 |ref a=>
  dsimp only at q1
  split at q1
  ·rename_i ps e
   obtain rfl:x= .ref a:=d1
   cases r1
   obtain⟨xs,hq,da⟩:=gf rp1 e
   obtain⟨its,rv,pl,hz⟩:=I4.list hq
   have hl:=rv.length
   refine PyProof.Rows.tail_any (ops:=[.ref a,.ref s3.heap.objs.size]) pl.isList.typeIs ux.lookup ?_ (by with_unfolding_all rfl)
   refine Bx pl.isList (kB ..) .none .none (.int (-1) tk) (by simp) ?_ (by rw[aA]<;>ac_nf)
   rw[As]
   refine⟨.ref _,_,I4.laid (t':=s3.toks) (o:= .lst xs.reverse) (λb ob q=>aj _ q) (am _) ?_,rfl,cl _ _ _ _ (q1 _ (rp1.none hfr)) rfl (rp1.new hfr da.reverse) (k1.trans (bQ hfr))⟩
   exact⟨by rw[bK];exact hz,its.reverse,0,rv.reverse,by rw[aJ _ rfl]⟩
  ·exact q1.elim
 |_=>exact bZ q1⟩
end
noncomputable def NX(p:PV)(G:Gp):Option String:=match p with
 | .non=>some "NoneType"
 | .bl _=>some "bool"
 | .int _=>some "int"
 | .str _=>some "str"
 | .tup _=>some "tuple"
 | .ref a=>match G a with
  |some (.lst _)=>some "list"
  |some (.dK _)=>some "dict"
  |_=>none
 |_=>none
noncomputable def NI(ty T:String):Bool:=ty==T||(ty== "bool" &&T== "int")
noncomputable abbrev tys:List String:=["NoneType", "bool", "int", "str", "tuple", "list", "dict"]
noncomputable abbrev OQ:List String:=["bool", "int", "str", "tuple", "list"]
theorem ma{K:PySem.W.Frag}{ty T:String}(h1:ty∈tys)(h2:T∈OQ):PySem.W.kitOne K (.type ty) (.type T)=some (NI ty T):=by
 simp only[aI,bF,or_false]at h1 h2
 rcases h1 with rfl|rfl|rfl|rfl|rfl|rfl|rfl<;>rcases h2 with rfl|rfl|rfl|rfl|rfl<;>kernel_rfl
noncomputable def wF:C2:=λps G Q=>match ps with
 |[p,.ty T]=>match NX p G with
  |some ty=>T∈OQ/\Q (.bl (NI ty T)) G
  |none=>False
 |_=>False
section
variable{X:Cx}
theorem KM:hV X (.builtin "isinstance") (pT X.K wF):=by
 intro pins s σ H xs us Q I rs h
 obtain⟨ps,G,Q2,d,rp,h,cl⟩:=h
 unfold wF at h
 split at h
 ·rename_i p T
  split at h
  ·rename_i ty e
   obtain⟨hT,hq⟩:=h
   obtain⟨v,w,rfl,dv,dw⟩:=uh d
   obtain rfl:w= .ty T:=dw
   cases rs with
   |cons r1 rs=>
    obtain⟨u,rfl,ru⟩:=Vals.one rs
    cases ru
    have fin:∀tk,EP X pins σ Q (.bool (NI ty T)) {s with toks:=tk}:=λtk=>⟨.bl _,H,I.tok tk,rfl,cl _ _ _ _ hq rfl rp .refl⟩
    unfold NX at e
    split at e
    ·cases e;obtain rfl:v= .non:=dv;cases r1;exact PySem.W.kia_one PySem.W.kitx_none I.kIn cF (ma (by decide) hT) (λz=>nomatch z) fin
    ·cases e;rename_i b;obtain rfl:v= .bl b:=dv;cases r1;exact PySem.W.kia_one PySem.W.kitx_bool I.kIn cF (ma (by decide) hT) (λz=>nomatch z) fin
    ·cases e;rename_i b;obtain rfl:v= .int b:=dv;obtain⟨t,rfl⟩:=r1;exact PySem.W.kia_one PySem.W.kitx_int I.kIn cF (ma (by decide) hT) (λz=>nomatch z) fin
    ·cases e;rename_i b;obtain rfl:v= .str b:=dv;obtain⟨t,rfl⟩:=r1;exact PySem.W.kia_one PySem.W.kitx_str I.kIn cF (ma (by decide) hT) (λz=>nomatch z) fin
    ·cases e
     obtain⟨a,vs,rfl,sq,_⟩:=dv
     cases r1
     obtain⟨its,_,pl,_⟩:=I.tuple sq
     obtain⟨o,h1,h2,_⟩:=pl
     exact PySem.W.kia_one PySem.W.kitx_tuple I.kIn ⟨o,h1,h2⟩ (ma (by decide) hT) (λz=>nomatch z) fin
    ·rename_i a
     split at e
     ·cases e
      rename_i qs eg
      obtain rfl:v= .ref a:=dv
      cases r1
      obtain⟨vs,hv,_⟩:=rp.lst eg
      obtain⟨_,_,n,_,h1⟩:=(show ObjOk X.prog X.w H s.heap a (.lst vs)from I.hok a _ hv)
      exact PySem.W.kia_one PySem.W.kitx_list I.kIn ⟨_,h1,rfl⟩ (ma (by decide) hT) (λz=>nomatch z) fin
     ·cases e
      rename_i qs eg
      obtain rfl:v= .ref a:=dv
      obtain⟨vs,hv,_⟩:=rp a _ eg
      exact AX I r1 (.dK hv) (ma (by decide) hT) fin
     ·cases e
    ·cases e
  ·exact h.elim
 ·exact h.elim
end
end L3
namespace PySem.SeqAt
open AutoSeq1 (wpAny_loadPart')
open MeetsSeq MeetsSeq2 MeetsSeq3 SeqRoads2
open Builtin Builtin.Range
end PySem.SeqAt
namespace L3
open PySem L2
section
end
noncomputable def Itd(lo:Int)(n:Nat):It:=⟨λi _=>i<n,λi H x H'=>H'=H/\x= .int (lo-i),λi _=>n<=i⟩
noncomputable def jU(lo:Int)(n:Nat):List PV:=(bE n).map fun(i:Nat)=> .int (lo-i)
theorem GK{K:PySem.W.Frag}{H1:Hp}(lo:Int)(n:Nat):w6 K H1 (Itd lo n) (jU lo n) (λ_=>True):=λi H G k r _=>by
 have hl:(jU lo n).length=n:=by unfold jU;simp
 refine⟨λhi=> ?_,λhi=> ?_,λx H' hi y=> ?_⟩
 ·show i<n
  ac_nf
 ·show n<=i
  ac_nf
 ·obtain⟨rfl,rfl⟩:=y
  refine⟨.int (lo-i),?_,.refl,r,rfl⟩
  unfold jU
  rw[aC,dA (by ac_nf)]
  rfl
theorem Ad{P:aK}{w:aX}{K:PySem.W.Frag}{tg:Expr}(it:Addr)(lo:Int)(n:Nat):sv P w K tg (Itd lo n) [it] it (λi h=>IsRangeIter h it (lo+(i:Nat)*(-1)) ((n:Int)-(i:Nat)) (-1)) where
 mem:=by simp
 obj:=λi h st b hb=>by
  have e:b=it:=by simpa using hb
  subst e
  exact⟨_,st,λv z=>by
   have z':dC _=Data.cell v:=z
   cases z'⟩
 keep:=λi h h' st k=>k it (by simp) _ st
 item:=by
  intro X hP hw hK hc i pins s σ H E I hf st hg
  subst hP hw hK
  obtain⟨f0,f1,f2,f3,f4,f5⟩:=hf it (by simp)
  have W:=Walks.range (prog:=X.prog) (w:=X.w) (I.ok.hd hc) it lo (-1) n
  refine W.item i s _ _ hg st λv h' tk hv st' kk=> ?_
  obtain⟨t,rfl⟩:=hv
  have I1:Inv X pins σ H {s with heap:=h',toks:=tk}:=I.turned (λb o hb e=>kk b o (by simpa using hb) e) f0 f1 f3 f4 f5
  refine⟨_,rfl,wG (s:={s with heap:=h',toks:=tk}) (n:= "range_iterator") st' rfl rfl (by decide) ⟨.int (lo-i),H,I1,⟨t,?_⟩,⟨rfl,rfl⟩,st',λb hb=>(hf b hb).1⟩⟩
  rw[show lo+(i:Int)*(-1)=lo-i by ac_nf]
 done:=by
  intro X hP hw hK hc i pins s σ H E I hf st hg
  subst hP hw hK
  obtain⟨f0,f1,f2,f3,f4,f5⟩:=hf it (by simp)
  exact wpAny_pyNext_range_end (I.ok.hd hc) st (by have:n<=i:=hg;ac_nf) λh' eb=>⟨rfl,I.turned (t':=s.toks) (λb o hb e=>eb b o hb e) f0 f1 f3 f4 f5⟩
 self:=λ_ _ _ _ _ st h=>wpAny_pyIter_rangeiter st h
theorem kG(a b:Int):eP a b (-1)=(((a-b).toNat:Nat):Int):=by
 unfold eP
 rw[if_neg (by decide),show(-(-1:Int))=1 from rfl,Int.ediv_one]
 split<;>ac_nf
theorem xG{a b:Int}(ha: -(2^62)<=a)(ha':a<2^62)(hb: -(2^62)<=b)(hb':b<2^62):cw.Range.small a b (-1)=true:=by
 unfold cw.Range.small
 rw[kG]
 simp only[cw.Range.rangeFitsLong,bC,Bool.or_eq_true,decide_eq_true_eq,beq_iff_eq,show¬((-1:Int)>0)by decide,if_false]
 ac_nf
noncomputable abbrev itD(t:A2):sw:=λτ G R=>t τ G λps G1=>match ps with
 |[.int a,.int b,.int c]=>c= -1/\(-(2^62)<=a/\a<2^62/\-(2^62)<=b/\b<2^62)/\R (jU a (a-b).toNat) (λ_=>True) G1
 |_=>False
section
variable{X:Cx}{tg a b c:Expr}{ta:A2}{p pos:Pos}
theorem AS(hm:X.mg "range" =none)(ha:JA X [a,b,c] ta)(hg:Gl X "range" :=by rfl)(hs:aB [a,b,c] X.env=(false,eval a X.env)::aB [b,c] X.env:=by rfl)(hs2:(ce pos (aB [b,c] X.env)).any (·.1)=false:=by rfl):
  JI X tg (.Call (.Name "range" p) [a,b,c] [] pos) (itD ta):=⟨by
 intro pins s σ H R I h
 obtain⟨τ,G,R2,rs,rp,h,cl⟩:=h
 refine PyProof.Rows.Call_ (oW I hg hm PyProof.Rows.boot_range (fK (eR (ha.h pos pins s σ H (λvs H1=>∃ps G1,Dvs X.K H1 ps vs/\Rep X.K H1 G1/\Keep X.K H H1/\(match ps with
  |[.int a,.int b,.int c]=>c= -1/\(-(2^62)<=a/\a<2^62/\-(2^62)<=b/\b<2^62)/\R2 (jU a (a-b).toNat) (λ_=>True) G1
  |_=>False)) I ⟨τ,G,_,rs,rp,h,λps G1 vs H1 q d r k=>⟨ps,G1,d,r,k,q⟩⟩) λus s1 ⟨vs,H1,I1,r1,ps,G1,d1,rp1,k1,q1⟩=> ?_) hs hs2))
 split at q1
 ·rename_i a b c
  obtain⟨rfl,⟨b1,b2,b3,b4⟩,q⟩:=q1
  obtain⟨v1,z,rfl,e1,d1⟩:=d1
  obtain⟨v2,v3,rfl,e2,e3⟩:=uh d1
  obtain rfl:v1= .int a:=e1
  obtain rfl:v2= .int b:=e2
  obtain rfl:v3= .int (-1):=e3
  cases r1 with
  |cons r1 r2=>
   cases r2 with
   |cons r2 r3=>
    cases r3 with
    |cons r3 r4=>
     cases r4
     obtain⟨t1,rfl⟩:=r1
     obtain⟨t2,rfl⟩:=r2
     obtain⟨t3,rfl⟩:=r3
     refine call_range_3 (by decide) ?_ (.inl (PyProof.noPylong_small (by decide)))
     refine wpAny_pyIter_range (IsRange.new ..) (xG b1 b2 b3 b4) ?_
     have I2:Inv X pins σ H1 {s1 with heap:=s1.heap.push {cls:= .type "range",data:= .fields #[.int a t1,.int b t2,.int (-1) t3]},toks:=s1.toks}:=I1.kept λb o e=>aj _ e
     refine⟨(s1.heap.push {cls:= .type "range",data:= .fields #[.int a t1,.int b t2,.int (-1) t3]}).objs.size,[(s1.heap.push {cls:= .type "range",data:= .fields #[.int a t1,.int b t2,.int (-1) t3]}).objs.size],_,_,H1,rfl,
      I2.kept (t':=s1.toks) λb o e=>aj _ e,Ad _ a (a-b).toNat,?_,λad hb=> ?_,cl _ _ _ _ _ q rp1 k1 (GK _ _)⟩
     ·have e1:a+((0:Nat):Int)*(-1)=a:=by simp
      show IsRangeIter _ _ (a+((0:Nat):Int)*(-1)) ((((a-b).toNat:Nat):Int)-((0:Nat):Int)) (-1)
      rw[e1,show(((a-b).toNat:Nat):Int)-((0:Nat):Int)=eP a b (-1)by rw[kG];simp]
      exact aJ _ rfl
     ·rw[au.mp hb]
      exact I2.fpOk (am _) (I2.hok.fresh (am _))
 ·exact q1.elim⟩
end
noncomputable abbrev Ox:U2:=λp G Q=>match p with
 | .int i=>Q (.int (-i)) G
 |_=>False
theorem Le{X:Cx}:Ny X (unaryOp .USub) (Mb X.K Ox):=by
 intro pins s σ H x v Q I rx h
 obtain⟨p,G,Q2,d,rp,h,cl⟩:=h
 cases p with
 |int i=>
  obtain rfl:x= .int i:=d
  exact BF pins s σ H _ v Q I rx ⟨i,rfl,cl _ _ _ _ h rfl rp .refl⟩
 |_=>exact bZ h
noncomputable abbrev HR:B2:=Kx λi j=> .int (i+j)
theorem LO{X:Cx}:NP X .Add (ik X.K HR):=by
 intro pins s σ H x y v u Q I rx ry h
 obtain⟨p,q,G,Q2,d1,d2,rp,h,cl⟩:=h
 unfold HR Kx at h
 split at h
 ·rename_i i j
  obtain rfl:x= .int i:=d1
  obtain rfl:y= .int j:=d2
  exact Ku pins s σ H _ _ v u Q I rx ry ⟨i,j,rfl,rfl,cl _ _ _ _ h rfl rp .refl⟩
 ·exact h.elim
noncomputable def GG:B2:=λp q G Q=>match p,q with
 | .ref a,.int i=>match lk G a with
  |some ps=>match qv ps i with
   |some x=>Q x G
   |none=>False
  |none=>False
 |_,_=>False
theorem M3{X:Cx}:KZ X (ik X.K GG):=by
 intro pins s σ H o i ov iv Q I r1 r2 h
 obtain⟨p,q,G,Q2,d1,d2,rp,h,cl⟩:=h
 unfold GG at h
 split at h
 ·rename_i a k
  split at h
  ·rename_i ps e0
   split at h
   ·rename_i z e
    obtain rfl:o= .ref a:=d1
    obtain rfl:i= .int k:=d2
    obtain⟨vs,sa,da⟩:=gf rp e0
    obtain⟨w,ew,dw⟩:=Er da e
    cases r1
    obtain⟨t,rfl⟩:=r2
    obtain⟨its,r,pl,hz⟩:=I.list sa
    obtain⟨j,h1,h2,h3,h4,h5⟩:=qu ew
    obtain⟨u,eu,ru⟩:=r.get h2
    have hl:=r.length
    have hn:=l9
    have fin:EP X pins σ Q u s:=⟨w,H,I,ru,cl _ _ _ _ h dw rp .refl⟩
    by_cases h0:0<=k
    ·have hj:k.toNat=j:=by
      rw[PySem.seqIndex_of h0 h5]at h1
      exact bc h1
     exact wpAny_getItem_list pl.isList h0 (by ac_nf) (by rw[hj];simpa using eu) fin
    ·have hj:(k+(its.toArray.size:Int)).toNat=j:=by
      rw[PySem.seqIndex_neg (by ac_nf) h4]at h1
      rw[aA,<-hl]
      exact bc h1
     exact wpAny_getItem_list_neg pl.isList (by ac_nf) (by rw[aA];ac_nf) (by ac_nf) (by rw[hj];simpa using eu) fin
   ·exact h.elim
  ·exact h.elim
 ·exact h.elim
theorem Ju{M:Model}{A:Around}{E:ae->al->Prop}{s:al}{T:String}{vs:List ae}{Q:ae->al->Prop}(h:Q (.ref s.heap.objs.size) {s with heap:=s.heap.push {cls:= .type T,dict:=none,data:= .fields vs.toArray}})(hs:sizeOk (.fields vs.toArray)):
  wpAny M A (cw.SmallTypes.newRecord (.type T) vs) Q E s:=by
 show wpAny M A (newObj (.type T) (.fields vs.toArray)) Q E s
 exact bG h hs
theorem nd5(n:Nat):[n+4,n+2,n+3,n,n+1].Nodup:=by
 simp only[bi,aI,bF,or_false,not_or,not_false_eq_true,List.nodup_nil,and_true]
 ac_nf
end L3
namespace L2
open PySem PySem.Spec PyProof.Rows
noncomputable abbrev Hq(x y:Str)(px py:Pos)(kt:Nat)(pt:Pos):Expr:= .Tuple [.Name x px,.Name y py] kt pt
structure iA(scope:eL)(M:List Str)(ix:List (Option Nat))(j2:Nat)(y:Str):Prop where
 tgt:M[j2]? =some y
 loc:scope.names.lookup y=some .local
 own:ix[j2]? =some none
theorem Am{c:St}{j j2:Nat}{v u:V}(h:c[j]? =some none)(h2:c[j2]? =some none):∀(i:Nat) (z:V),c[i]? =some (some z)->((c.set j (some v)).set j2 (some u))[i]? =some (some z):=λi z e=>by
 have n1:j≠i:=λq=>by subst q;rw[h]at e;cases e
 have n2:j2≠i:=λq=>by subst q;rw[h2]at e;cases e
 rw[cY n2,cY n1];exact e
noncomputable def zZ(K:PySem.W.Frag)(J:It)(ix:List (Option Nat))(j j2:Nat)(σ:St)(tf:TT)(te:TE)(Q:VK)(H1:Hp)(acc:Addr):Prop:=∃W:Nat->Nat->Hp->Prop,(∃m,W 0 m (upd H1 acc (.lst [])))/\∀i m H',W i m H'->
 (J.stop i H'/\Q (.ref acc) H')\/(J.go i H'/\∀x H2,J.yld i H' x H2->∃a u1 u2,x= .ref a/\SqT K H2 a [u1,u2]/\tf (((kT ix σ).set j (some u1)).set j2 (some u2)) H2 λb H3=>
  if b=true then te (((kT ix σ).set j (some u1)).set j2 (some u2)) H3 λy H4=>∃ys,H4 acc=some (.lst ys)/\ys.length<aQ/\∃m',m'<m/\W (i+1) m' (upd H4 acc (.lst (ys++[y])))
  else∃m',m'<m/\W (i+1) m' H3)
noncomputable def BR(K:PySem.W.Frag)(wi:TI)(ix:List (Option Nat))(j j2:Nat)(tf:TT)(te:TE):TE:=λσ H Q=>wi σ H λJ H1=>∀acc,H1 acc=none->zZ K J ix j j2 σ tf te Q H1 acc
section
variable{X:Cx}{scope:eL}{M:List Str}{ix:List (Option Nat)}{j:Nat}{x:Str}
theorem wP{elt iter:Expr}{px py pt:Pos}{kt j2:Nat}{y:Str}{ifs:List Expr}{pos:Pos}{tf:TT}{te:TE}{pins:List (Addr×Obj)}{σ:St}{H:Hp}{s:al}{fp:List Addr}{it:Addr}{tn:Nat->Heap->Prop}{J:It}{h1:Heap}{tk:Nat}{Q:VK}{R:Result->al->Prop}
  (S:iq X.env.scope X.N scope M ix j x) (S2:iA scope M ix j2 y) (hc:X.calm=true) (I:Inv X pins σ H s)
  (hF:PF (bY X M scope (s.heap.objs.size+1) s H fp) ifs tf) (hE:PE (bY X M scope (s.heap.objs.size+1) s H fp) elt te)
  (T:sv X.prog X.w X.K (Hq x y px py kt pt) J fp it tn) (st:tn 0 s.heap) (hf:∀b∈fp,pZ X pins H b)
  (I0:Inv (bY X M scope (s.heap.objs.size+1) s H fp) [] (kT ix σ) (upd H s.heap.objs.size (.lst [])) {s with heap:=h1,toks:=tk}) (old:∀b o,s.heap.get? b=some o->h1.get? b=some o)
  (q:zZ X.K J ix j j2 σ tf te Q H s.heap.objs.size)
  (hR:∀H' s',Inv (bY X M scope (s.heap.objs.size+1) s H fp) [] (kT ix σ) H' s'->Q (.ref s.heap.objs.size) H'->R (.ok .next) s'):
  codeAny (aT X.prog X.w) X.A (.compLoop (.ListComp elt [⟨Hq x y px py kt pt,iter,ifs,0⟩] scope pos) 0 (.ref it) (.ref s.heap.objs.size) (compEnvC scope (ly X.env.cells scope.names []) (s.heap.objs.size+1) X.env)) R {s with heap:=h1,toks:=tk}:=by
 obtain⟨W,⟨m0,w0⟩,turn⟩:=q
 have hD:s.heap.objs.size∉fp:=λz=>by
  obtain⟨o,e,_⟩:=T.obj 0 s.heap st _ z
  exact absurd (aF e) (dP _)
 have hlt:∀b∈fp,b<s.heap.objs.size:=λb hb=>by
  obtain⟨o,e,_⟩:=T.obj 0 s.heap st b hb
  exact aF e
 have stat:∀{H':Hp},(∀b∈fp,H' b=none)->∀b∈fp,pZ (bY X M scope (s.heap.objs.size+1) s H fp) [] H' b:=λhn b hb=>
  ⟨hn b hb,aS (dj (hlt b hb)),I0.ok.exfs b hb,.inl hb,(I0.ok.exf b hb).2,λp hp=>absurd (show p∈([]:List (Addr×Obj))from hp) (by simp)⟩
 have own:=vh S.own σ
 have own2:=vh S2.own σ
 refine nO rfl (λn s'=>∃i H',Inv (bY X M scope (s.heap.objs.size+1) s H fp) [] (kT ix σ) H' s'/\tn i s'.heap/\(∀b∈fp,H' b=none)/\W i n H') ?_ m0
  ⟨0,_,I0,T.keep 0 _ _ st λb _ o e=>old b o e,λb hb=>by rw[bH (aS (hlt b hb))];exact(hf b hb).1,w0⟩
 rintro n s3 ⟨i,H3,I3,st3,fr3,w3⟩
 rcases turn i n H3 w3 with⟨stop,qn⟩|⟨go,step⟩
 ·refine bu (T.done (bY X M scope (s.heap.objs.size+1) s H fp) rfl rfl rfl hc i [] s3 (kT ix σ) H3 (λ_ _=>False) I3 (stat fr3) st3 stop) (λr s4 hPl=> ?_) (λ_ _ z=>z.elim)
  obtain⟨hr,I4⟩:=hPl
  subst hr
  exact hR H3 s4 I4 qn
 ·refine bu (T.item (bY X M scope (s.heap.objs.size+1) s H fp) rfl rfl rfl hc i [] s3 (kT ix σ) H3 (λ_ _=>False) I3 (stat fr3) st3 go) (λr s4 hPl=> ?_) (λ_ _ z=>z.elim)
  obtain⟨u,hr,h4⟩:=hPl
  subst hr
  refine bu h4 (λ_ s5 hPl=> ?_) (λ_ _ z=>z.elim)
  obtain⟨yv,H5,I5,r5,y5,st5,fr5⟩:=hPl
  have I5':=I5.pinned (stat fr5) (T.obj _ _ st5)
  have pg:PG (bY X M scope (s.heap.objs.size+1) s H fp) (Hq x y px py kt pt) (M4 X.K 2 (DV (rJ j) (DV (rJ j2) Nb))):=
   xL hc (iF (iw S.nd S.tgt (.inl (by show(relabel scope X.env).names.lookup x=some .local;exact fD S.loc)) (.inr (by show(relabel scope X.env).names.lookup x=some .local;exact fD S.loc)))
    (iF (iw S.nd S2.tgt (.inl (by show(relabel scope X.env).names.lookup y=some .local;exact fD S2.loc)) (.inr (by show(relabel scope X.env).names.lookup y=some .local;exact fD S2.loc))) uD))
  obtain⟨ta,u1,u2,et,sq,step⟩:=step yv _ y5
  refine bu (pg _ s5 (kT ix σ) H5 yv u (λσ2 H2=>σ2=((kT ix σ).set j (some u1)).set j2 (some u2)/\H2=H5) I5' r5 ⟨ta,[u1,u2],et,sq,rfl,u1,[u2],rfl,u2,[],rfl,rfl,rfl,rfl⟩) (λ_ s6 hPl=> ?_) (λ_ _ z=>z.elim)
  obtain⟨σ6,H6,I6,e6,eh6⟩:=hPl
  subst e6;subst eh6
  have again:∀{H7:Hp} {s7:al},Inv (bY X M scope (s.heap.objs.size+1) s H fp) ([]++oN fp s5.heap) (((kT ix σ).set j (some u1)).set j2 (some u2)) H7 s7->(∃m',m'<n/\W (i+1) m' H7)->
    ∃m,m<n/\∃i H',Inv (bY X M scope (s.heap.objs.size+1) s H fp) [] (kT ix σ) H' s7/\tn i s7.heap/\(∀b∈fp,H' b=none)/\W i m H':=fun{H7 s7} I7 ⟨m',hm,w7⟩=>by
   have Iw:Inv (bY X M scope (s.heap.objs.size+1) s H fp) [] (kT ix σ) H7 s7:=(Inv.unpinned (pins:=[]) I7).weak (by simp) (Am own own2)
   refine⟨m',hm,i+1,H7,Iw,T.keep _ _ _ st5 λb hb o e=>(I7.pin (b,o) (bd _ (bd _ (ij hb e)))).1,λb hb=> ?_,w7⟩
   obtain⟨o,e,d⟩:=T.obj _ _ st5 b hb
   exact(I7.pin (b,o) (bd _ (bd _ (ij hb e)))).2.1
  refine bu (hF _ s6 _ _ _ I6 step) (λb s7 hPl=> ?_) (λ_ _ z=>z.elim)
  obtain⟨H7,I7,q7⟩:=hPl
  cases b with
  |false=>
   simp only[pK,if_false]at q7⊢
   exact again I7 q7
  |true=>
   simp only[if_true]at q7⊢
   refine bu (hE _ s7 _ H7 _ I7 q7) (λv s8 hPl=> ?_) (λ_ _ z=>z.elim)
   obtain⟨z,H8,I8,r8,ys,hy,hz,q8⟩:=hPl
   refine bu (oS (X:=bY X M scope (s.heap.objs.size+1) s H fp) _ s8 _ H8 (.ref s.heap.objs.size) [z] (.ref s.heap.objs.size) [v] (λ_ H'=>H'=upd H8 s.heap.objs.size (.lst (ys++[z]))) I8 rfl (.cons r8 .nil) ⟨s.heap.objs.size,ys,z,rfl,rfl,hy,hz,rfl⟩) (λw s9 hPl=> ?_) (λ_ _ z=>z.elim)
   obtain⟨_,H9,I9,_,e9⟩:=hPl
   subst e9
   exact again I9 q8
theorem CY{elt iter:Expr}{px py pt:Pos}{kt j2:Nat}{y:Str}{ifs:List Expr}{pos:Pos}{wi:TI}{tf:TT}{te:TE}(S:iq X.env.scope X.N scope M ix j x)(S2:iA scope M ix j2 y)(hc:X.calm=true)(hi:PI X (Hq x y px py kt pt) iter wi)
  (hb:∀C s H fp,PF (bY X M scope C s H fp) ifs tf/\PE (bY X M scope C s H fp) elt te) (hs:∀x,dY iter X.env x=pure x:=by intro _;rfl):
  PE X (.ListComp elt [⟨Hq x y px py kt pt,iter,ifs,0⟩] scope pos) (BR X.K wi ix j j2 tf te):=by
 intro pins s σ H Q I h
 rw[eval_ListComp]
 refine lq (use:=none) rfl hs (jG λy hy e=>I.ok.has y.1 (S.free y hy e)) S.kind S.names (bu (hi pins s σ H _ I h) (λxv s₁ h₁=>bu h₁ (λit s₂ h₂=> ?_) λ_ _ e=>e) λ_ _ e=>e)
 obtain⟨it,fp,tn,J,H2,rfl,I2,T,st2,f2,q⟩:=h₂
 refine bG (pM S.nocell (by intro y hy;simp at hy) (λh₁ hns₁ hsb₁=> ?_) S.kind)
 dsimp only at hns₁ hsb₁⊢
 have hC:(s₂.heap.push {cls:= .type "list",dict:=none,data:= .seq ([]:List ae).toArray}).objs.size=s₂.heap.objs.size+1:=cU ..
 rw[hC]at hns₁ hsb₁⊢
 have below:∀b,b<s₂.heap.objs.size->b≠s₂.heap.objs.size+1:=λb hb=>aS (dj hb)
 have old:∀b o,s₂.heap.get? b=some o->h₁.get? b=some o:=λb o e=>hsb₁.extBut b o (below b (aF e)) (aj _ (aj _ e))
 have hD:h₁.get? s₂.heap.objs.size=some {cls:= .type "list",data:= .seq ([]:List ae).toArray 0}:=hsb₁.extBut _ _ (aS (fL _)) (aj _ (aJ _ rfl))
 have ns:h₁.Ns (s₂.heap.objs.size+1) λ_=>none:=hns₁
 have hft:∀b∈fp,b<s₂.heap.objs.size:=λb hb=>by
  obtain⟨o,e,_⟩:=T.obj 0 s₂.heap st2 b hb
  exact aF e
 have I0:=(ml (h1:=h₁) S I2 f2 hft old hD ns).tok s₂.toks
 have hfr:H2 s₂.heap.objs.size=none:=I2.hok.fresh (am _)
 have loop:codeAny (aT X.prog X.w) X.A (.compLoop (.ListComp elt [⟨Hq x y px py kt pt,iter,ifs,0⟩] scope pos) 0 (.ref it) (.ref s₂.heap.objs.size) (compEnvC scope (ly X.env.cells scope.names []) (s₂.heap.objs.size+1) X.env))
   (compPost (aT X.prog X.w) X.A X.xe none (EP X pins σ Q) (.ref s₂.heap.objs.size) (s₂.heap.objs.size+1)) {s₂ with heap:=h₁,toks:=s₂.toks}:=by
  refine wP (Q:=Q) S S2 hc I2 (hb _ _ _ _).1 (hb _ _ _ _).2 T st2 f2 I0 old (q _ hfr) λH' s' I' qq=> ?_
  obtain⟨m,hn,_⟩:=I'.loc
  exact⟨m,hn,λh' hb'=>⟨.ref s₂.heap.objs.size,H',rR I2 (gB _) f2 I' hb',rfl,qq⟩⟩
 exact nQ loop (T.self _ 0 _ _ _ (T.keep 0 _ _ st2 λb _ o e=>old b o e) loop)
end
end L2
namespace L3
open PySem L2
theorem eD{k:Nat}{A:Around}(r:Room k A):A.units+200<im:=by have:=r.un;ac_nf
theorem jw{α:Type}{P Q:α->Prop}{t:α}(a:P t)(b:Q t):∃t,P t/\Q t:=⟨t,a,b⟩
theorem pI:cu "isinstance" =some (.builtin "isinstance"):=by decide+kernel
theorem Ek:cu "int" =some (.type "int"):=by decide+kernel
theorem A9:cu "bool" =some (.type "bool"):=by decide+kernel
theorem yo:cu "tuple" =some (.type "tuple"):=by decide+kernel
theorem tN:cu "list" =some (.type "list"):=by decide+kernel
theorem Ej:cu "max" =some (.builtin "max"):=by decide+kernel
theorem Ei:cu "sum" =some (.builtin "sum"):=by decide+kernel
theorem wV:cu "sorted" =some (.builtin "sorted"):=by decide+kernel
noncomputable def El:List Str:=["isinstance", "int", "bool", "str", "tuple", "list", "range", "all", "any", "max", "sum", "sorted", "len", "enumerate", "min", "zip", "set", "dict"]
noncomputable def BN(mg:Str->Option ae):Prop:=∀x:Str,El.contains x=true->mg x=none
theorem BN.len{mg:Str->Option ae}(h:BN mg):mg "len" =none:=h _ (by decide+kernel)
theorem BN.isinstance{mg:Str->Option ae}(h:BN mg):mg "isinstance" =none:=h _ (by decide+kernel)
theorem BN.int{mg:Str->Option ae}(h:BN mg):mg "int" =none:=h _ (by decide+kernel)
theorem BN.bool{mg:Str->Option ae}(h:BN mg):mg "bool" =none:=h _ (by decide+kernel)
theorem BN.tuple{mg:Str->Option ae}(h:BN mg):mg "tuple" =none:=h _ (by decide+kernel)
theorem BN.list{mg:Str->Option ae}(h:BN mg):mg "list" =none:=h _ (by decide+kernel)
theorem BN.range{mg:Str->Option ae}(h:BN mg):mg "range" =none:=h _ (by decide+kernel)
theorem BN.max{mg:Str->Option ae}(h:BN mg):mg "max" =none:=h _ (by decide+kernel)
theorem BN.sum{mg:Str->Option ae}(h:BN mg):mg "sum" =none:=h _ (by decide+kernel)
theorem BN.sorted{mg:Str->Option ae}(h:BN mg):mg "sorted" =none:=h _ (by decide+kernel)
section
variable{X:Cx}{e:Expr}{es:List Expr}{t:A2}{p pos:Pos}
theorem J6(B:BN X.mg)(ha:JA X (e::es) t)(hg:Gl X "len" :=by rfl)(he:aB (e::es) X.env=(false,eval e X.env)::aB es X.env:=by rfl)(hpl:(ce pos (aB es X.env)).any (·.1)=false:=by rfl):JE X (.Call (.Name "len" p) (e::es) [] pos) (tJ jj t):=lf Nt B.len PySem.boot_len ha hg (by decide) (by decide) he hpl
theorem Gx(B:BN X.mg)(ha:JA X (e::es) t)(hg:Gl X "isinstance" :=by rfl)(he:aB (e::es) X.env=(false,eval e X.env)::aB es X.env:=by rfl)(hpl:(ce pos (aB es X.env)).any (·.1)=false:=by rfl):JE X (.Call (.Name "isinstance" p) (e::es) [] pos) (tJ wF t):=lf KM B.isinstance pI ha hg (by decide) (by decide) he hpl
theorem J5(B:BN X.mg)(hc:X.calm=true)(ha:JA X (e::es) t)(hg:Gl X "max" :=by rfl)(he:aB (e::es) X.env=(false,eval e X.env)::aB es X.env:=by rfl)(hpl:(ce pos (aB es X.env)).any (·.1)=false:=by rfl):JE X (.Call (.Name "max" p) (e::es) [] pos) (tJ Dt t):=lf (KJ hc) B.max Ej ha hg (by decide) (by decide) he hpl
theorem J0(B:BN X.mg)(hc:X.calm=true)(ha:JA X (e::es) t)(hg:Gl X "sum" :=by rfl)(he:aB (e::es) X.env=(false,eval e X.env)::aB es X.env:=by rfl)(hpl:(ce pos (aB es X.env)).any (·.1)=false:=by rfl):JE X (.Call (.Name "sum" p) (e::es) [] pos) (tJ Ai t):=lf (Nr hc) B.sum Ei ha hg (by decide) (by decide) he hpl
theorem zJ(B:BN X.mg)(hc:X.calm=true)(ha:JA X (e::es) t)(hg:Gl X "list" :=by rfl)(he:aB (e::es) X.env=(false,eval e X.env)::aB es X.env:=by rfl)(hpl:(ce pos (aB es X.env)).any (·.1)=false:=by rfl):JE X (.Call (.Name "list" p) (e::es) [] pos) (tJ DA t):=rB (KL hc) B.list tN ha hg (by decide) (by decide) he hpl
theorem DI(B:BN X.mg)(ha:JA X (e::es) t)(hg:Gl X "tuple" :=by rfl)(he:aB (e::es) X.env=(false,eval e X.env)::aB es X.env:=by rfl)(hpl:(ce pos (aB es X.env)).any (·.1)=false:=by rfl):JE X (.Call (.Name "tuple" p) (e::es) [] pos) (tJ lW t):=rB Hi B.tuple yo ha hg (by decide) (by decide) he hpl
theorem JV(B:BN X.mg)(hg:Gl X "int" :=by rfl):JE X (.Name "int" pos) (eC (.ty "int")):=Mq B.int Ek hg
theorem Gn(B:BN X.mg)(hg:Gl X "bool" :=by rfl):JE X (.Name "bool" pos) (eC (.ty "bool")):=Mq B.bool A9 hg
end
section
variable{X:Cx}{a b:Expr}{ta tb:E2}{pos:Pos}
theorem Kd(ha:JE X a ta)(hb:JE X b tb):JE X (.BinOp a .Add b pos) (iT yw ta tb):=ya HJ ha hb
theorem J7(ha:JE X a ta)(hb:JE X b tb):JE X (.BinOp a .Sub b pos) (iT Io ta tb):=ya LV ha hb
theorem Kb(ha:JE X a ta)(hb:JE X b tb):JE X (.BinOp a .Mult b pos) (iT FW ta tb):=ya LX ha hb
theorem Kc(ha:JE X a ta)(hb:JE X b tb):JE X (.BinOp a .Mod b pos) (iT L9 ta tb):=ya LY ha hb
theorem Gy(ha:JE X a ta)(hb:JE X b tb):JE X (.BinOp a .FloorDiv b pos) (iT DY ta tb):=ya Js ha hb
theorem J8(ha:JE X a ta)(hb:JE X b tb):JE X (.BinOp a .Pow b pos) (iT LJ ta tb):=ya LW ha hb
theorem Mp(hu:X.A.units+200<im)(ha:JE X a ta)(hb:JE X b tb):JE X (.Compare a [.Eq] [b] pos) (iT GY ta tb):=zK (C6 hu) ha hb (kH _)
theorem Mm(hu:X.A.units+200<im)(ha:JE X a ta)(hb:JE X b tb):JE X (.Compare a [.NotEq] [b] pos) (iT Jv ta tb):=zK (C0 hu) ha hb (kH _)
theorem Mn(ha:JE X a ta)(hb:JE X b tb):JE X (.Compare a [.Lt] [b] pos) (iT NH ta tb):=zK LZ ha hb (kH _)
theorem Mo(ha:JE X a ta)(hb:JE X b tb):JE X (.Compare a [.GtE] [b] pos) (iT mB ta tb):=zK Ow ha hb (kH _)
theorem Mj(hu:X.A.units+200<im)(ha:JE X a ta)(hb:JE X b tb):JT X (.Compare a [.Eq] [b] pos) (yV (iT GY ta tb)):=md (C6 hu) ha hb (kH _)
theorem Mf(hu:X.A.units+200<im)(ha:JE X a ta)(hb:JE X b tb):JT X (.Compare a [.NotEq] [b] pos) (yV (iT Jv ta tb)):=md (C0 hu) ha hb (kH _)
theorem Mg(ha:JE X a ta)(hb:JE X b tb):JT X (.Compare a [.Lt] [b] pos) (yV (iT NH ta tb)):=md LZ ha hb (kH _)
theorem Mi(ha:JE X a ta)(hb:JE X b tb):JT X (.Compare a [.Gt] [b] pos) (yV (iT OH ta tb)):=md Ov ha hb (kH _)
theorem Mh(ha:JE X a ta)(hb:JE X b tb)(hm:gq .In b=false):JT X (.Compare a [.In] [b] pos) (yV (iT (MQ false) ta tb)):=md Ou ha hb hm
theorem JP(ha:JE X a ta)(hb:JE X b tb)(hm:gq .Is b=false):JT X (.Compare a [.Is] [b] pos) (yV (iT MM ta tb)):=md L5 ha hb hm
theorem MG(ha:JE X a ta)(hb:JE X b tb)(hs:vv b:=by exact λ_ _=>rfl):JE X (.Subscript a b pos) (iT rC ta tb):=OD K9 ha hb hs
theorem OA(h:JW X a tA):JT X a tA:=h.jt
end
section
variable{X:Cx}{o e:Expr}{to:E2}{t:A2}{apos cpos:Pos}
theorem AR(ho:JE X o to)(ha:JA X [e] t)
  (hbase:cz o "append" X.env (eval o X.env)=eval o X.env:=by rfl) (hfew:((ce cpos (aB [e] X.env)).all (λx=> !x.1)&&(io cpos (eK [] X.env)).all (λx=>x.1.isSome)&&decide (([e]:List Expr).length+([]:List gD).length+(if([]:List gD).isEmpty then 0 else 1)<30))=true:=by rfl)
  (hline:(apos.endLine==cpos.line)=true:=by rfl) (hs:aB [e] X.env=(false,eval e X.env)::aB [] X.env:=by rfl):JE X (.Call (.Attribute o "append" apos) [e] [] cpos) (uY kf to t):=HM PySem.F.slot_list_append PySem.F.type_list_append Dx ho ha hbase hfew hline hs rfl
theorem AQ(ho:JE X o to)(ha:JA X [e] t)
  (hbase:cz o "extend" X.env (eval o X.env)=eval o X.env:=by rfl) (hfew:((ce cpos (aB [e] X.env)).all (λx=> !x.1)&&(io cpos (eK [] X.env)).all (λx=>x.1.isSome)&&decide (([e]:List Expr).length+([]:List gD).length+(if([]:List gD).isEmpty then 0 else 1)<30))=true:=by rfl)
  (hline:(apos.endLine==cpos.line)=true:=by rfl) (hs:aB [e] X.env=(false,eval e X.env)::aB [] X.env:=by rfl):JE X (.Call (.Attribute o "extend" apos) [e] [] cpos) (uY g6 to t):=HM PySem.F.slot_list_extend PySem.F.type_list_extend Dw ho ha hbase hfew hline hs rfl
theorem Go(ho:JE X o to)(ha:JA X [e] t)
  (hbase:cz o "join" X.env (eval o X.env)=eval o X.env:=by rfl) (hfew:((ce cpos (aB [e] X.env)).all (λx=> !x.1)&&(io cpos (eK [] X.env)).all (λx=>x.1.isSome)&&decide (([e]:List Expr).length+([]:List gD).length+(if([]:List gD).isEmpty then 0 else 1)<30))=true:=by rfl)
  (hline:(apos.endLine==cpos.line)=true:=by rfl) (hs:aB [e] X.env=(false,eval e X.env)::aB [] X.env:=by rfl):JE X (.Call (.Attribute o "join" apos) [e] [] cpos) (Ha rq to t):=Mx PySem.F.slot_str_join PySem.F.type_str_join Jy ho ha hbase hfew hline hs rfl
theorem JX(ho:JE X o to)(hbase:cz o "pop" X.env (eval o X.env)=eval o X.env:=by rfl)(hline:(apos.endLine==cpos.line)=true:=by rfl):JE X (.Call (.Attribute o "pop" apos) [] [] cpos) (HU Cz to):=Kf PySem.F.slot_list_pop PySem.F.type_list_pop Ma ho hbase hline
end
noncomputable def KN(items:List PV)(c:Gp->Prop)(ix:List (Option Nat))(j j2:Nat)(τ:je)(tf:T2)(te:E2)(Q:K2)(G1:Gp)(acc:Addr):Prop:=
 ∃W:Nat->List PV->Gp->Prop,W 0 [] (up G1 acc (.lst []))/\(∀i ys G,i<=items.length->W i ys G->c G/\G acc=some (.lst ys)/\ys.length<16000000)/\
  (∀i ys G x,items[i]? =some x->W i ys G->∃p q,x= .tup [p,q]/\tf (st (st (kS ix τ) j (some p)) j2 (some q)) G λb G2=>pN b (te (st (st (kS ix τ) j (some p)) j2 (some q)) G2 λy G3=>G3 acc=some (.lst ys)/\W (i+1) (ys++[y]) (up G3 acc (.lst (ys++[y])))) (W (i+1) ys G2))/\∀ys G,W items.length ys G->Q (.ref acc) G
noncomputable abbrev o9(ti:sw)(ix:List (Option Nat))(j j2:Nat)(tf:T2)(te:E2):E2:=λτ G Q=>ti τ G λitems c G1=>∀acc,G1 acc=none->KN items c ix j j2 τ tf te Q G1 acc
section
variable{X:Cx}
theorem AJ{ti:sw}{ix:List (Option Nat)}{j j2:Nat}{tf:T2}{te:E2}{σ:L2.St}{H:Hp}{Q:VK}(q:pS X.K (o9 ti ix j j2 tf te) σ H Q):BR X.K (Ga X.K ti) ix j j2 (wq X.K tf) (pS X.K te) σ H Q:=by
 obtain⟨τ,G,Q2,rs,rp,q,cl⟩:=q
 refine⟨τ,G,_,rs,rp,q,λitems c G1 J H1 q1 r1 k1 ok acc hacc=> ?_⟩
 obtain⟨W,w0,hW,turn,done⟩:=q1 acc (r1.none hacc)
 have kn:Keep X.K H1 (upd H1 acc (.lst [])):=bQ hacc
 refine⟨λi m H'=>m=items.length-i/\i<=items.length/\∃ys G',W i ys G'/\Rep X.K H' G'/\Keep X.K H1 H',⟨_,rfl,bn _,[],_,w0,r1.new hacc .nil,kn⟩,?_⟩
 rintro i m H2 ⟨rfl,hi,ys,G2,w2,r2,k2⟩
 obtain⟨hc,hacc2,hys⟩:=hW i ys G2 hi w2
 obtain⟨o1,o2,o3⟩:=ok i H2 G2 k2 r2 hc
 by_cases hlt:i<items.length
 ·refine .inr ⟨o1 hlt,λx H3 y=> ?_⟩
  obtain⟨p,ep,k3,r3,d3⟩:=o3 x H3 hlt y
  obtain⟨pa,pb,rfl,turn'⟩:=turn i ys G2 p ep w2
  obtain⟨ta,vs,rfl,sq,u1,vr,rfl,du1,u2,vr2,rfl,du2,e3⟩:=d3
  obtain rfl:vr2=[]:=e3
  have k13:=k2.trans k3
  refine⟨ta,u1,u2,rfl,sq,?_⟩
  have rs3:RSt X.K H3 (((kT ix σ).set j (some u1)).set j2 (some u2)) (st (st (kS ix τ) j (some pa)) j2 (some pb)):=((zV ix (rs.keep (k1.trans k13))).set du1 j).set du2 j2
  refine⟨_,G2,_,rs3,r3,turn',λb G4 H4 q4 r4 k4=> ?_⟩
  have k14:=k13.trans k4
  cases b with
  |false=>exact uQ ⟨items.length-(i+1),by ac_nf,rfl,hlt,ys,G4,q4,r4,k14⟩
  |true=>
   refine uP ⟨_,G4,_,rs3.keep k4,r4,q4,λy G5 v H5 q5 d5 r5 k5=> ?_⟩
   obtain⟨ea,w5⟩:=q5
   obtain⟨vs,hv,dv⟩:=r5.lst ea
   refine⟨vs,hv,by rw[dv.length];exact Em (iN hys),items.length-(i+1),by ac_nf,rfl,hlt,ys++[y],_,w5,r5.put hv (dv.append (.cons d5 .nil)),(k14.trans k5).trans (gu hv)⟩
 ·have e:i=items.length:=by ac_nf
  subst e
  exact .inl ⟨o2 rfl,cl _ _ _ _ (done ys G2 w2) rfl r2 (k1.trans k2)⟩
theorem j7{scope:eL}{M:List Str}{ix:List (Option Nat)}{j j2 kt:Nat}{x y:Str}{elt iter:Expr}{px py pt pos:Pos}{ifs:List Expr}{ti:sw}{tf:T2}{te:E2}(S:dE X.env.scope X.N scope M ix j x=true)(S2:iA scope M ix j2 y)(hc:X.calm=true)(hi:JI X (Hq x y px py kt pt) iter ti)
  (hb:∀C s H fp,JF (bY X M scope C s H fp) ifs tf/\JE (bY X M scope C s H fp) elt te) (hs:∀x,dY iter X.env x=pure x:=by intro _;rfl):
  JE X (.ListComp elt [⟨Hq x y px py kt pt,iter,ifs,0⟩] scope pos) (o9 ti ix j j2 tf te):= .of (CY (Ef S) S2 hc hi.h (λC s H fp=>⟨(hb C s H fp).1.h,(hb C s H fp).2.h⟩) hs) λσ H Q q=>AJ q
end
section
end
section
end
theorem BN.zip{mg:Str->Option ae}(h:BN mg):mg "zip" =none:=h _ (by decide+kernel)
theorem Kj{X:Cx}{x:Str}{i:Int}{t:Tok}{pos:Pos}(hm:X.mg x=some (.int i t))(hg:Gl X x:=by rfl)(hd:(x==("__debug__" :Str))=false:=by decide):JE X (.Name x pos) (eC (.int i)):=Ki (v:= .int i) hm ⟨t,rfl⟩ (λ_=>rfl) hg hd
theorem cA{n:Nat}(h:Nat.ble n 1000=true:=by rfl):n<=1000:=aW h
theorem aO{G:Gp}{a:Addr}{ps:List PV}(h:G a=some (.lst ps)):lk G a=some ps:=by unfold lk;rw[h]
theorem lH{G:Gp}{a:Addr}{ps:List PV}:lk (up G a (.lst ps)) a=some ps:=aO af
theorem dD{G:Gp}{a b:Addr}{o:MO}(h:up G a o b=none):b≠a/\G b=none:=by
 have ne:b≠a:=λz=>by subst z;rw[af]at h;cases h
 exact⟨ne,by rw[aE ne]at h;exact h⟩
theorem ug{G:Gp}{a b:Addr}{o u:MO}(h:a≠b):up (up G a o) b u=up (up G b u) a o:=by
 funext c;unfold up
 by_cases h1:c=b
 ·subst h1;simp[aG h]
 ·simp[h1]
theorem GE.mod{G0 G:Gp}{a:Addr}{o:MO}(h:GE G0 G)(n:G0 a=none):GE G0 (up G a o):=λb u q=>by
 have:b≠a:=λz=>by subst z;rw[n]at q;cases q
 rw[aE this];exact h b u q
theorem GE.at{G0 G:Gp}{a:Addr}{o:MO}(h:GE G0 G)(n:G a=some o):GE (up G0 a o) G:=λb u q=>by
 by_cases hb:b=a
 ·subst hb;rw[af]at q;cases q;exact n
 ·rw[aE hb]at q;exact h b u q
section
variable{G:Gp}{a b:Addr}{xs ys:List PV}{x y:PV}{i k:Int}{j:Nat}{Q:K2}
theorem Cy(h:G a=some (.lst (xs++[y])))(q:Q y (up G a (.lst xs))):Cz (.ref a) [] G Q:=by
 unfold Cz
 simp only[h]
 rw[aL,bO (by simp)]
 simp only[aM,List.length_nil,Nat.add_sub_cancel,lz,yA,List.dropLast_concat]
 exact q
theorem fJ(h:G a=some (.lst xs))(hl:xs.length<16000000)(q:Q .non (up G a (.lst (xs++[y])))):kf (.ref a) [y] G Q:=by
 unfold kf;simp only[h];exact⟨hl,q⟩
theorem DZ(h:G a=some (.lst xs))(hl:xs.length+ys.length<=16000000)(q:Q .non (up G a (.lst (xs++ys)))):g6 (.ref a) [.tup ys] G Q:=by
 unfold g6;simp only[h];exact⟨hl,q⟩
theorem mf(h:G a=some (.lst xs))(h2:G b=some (.lst ys))(hl:xs.length+ys.length<=16000000)(q:Q .non (up G a (.lst (xs++ys)))):g6 (.ref a) [.ref b] G Q:=by
 unfold g6;simp only[h,h2];exact⟨hl,q⟩
theorem pD(h:lk G a=some xs)(q:Q (.int xs.length) G):jj [.ref a] G Q:=by
 unfold jj;simp only[h];exact q
theorem cj(h:lk G a=some xs)(e:qv xs i=some x)(q:Q x G):rC (.ref a) (.int i) G Q:=by
 unfold rC;simp only[h,e];exact q
theorem ML(h:lk G a=some xs)(e:qv xs i=some x)(q:Q x G):GG (.ref a) (.int i) G Q:=by
 unfold GG;simp only[h,e];exact q
theorem KS(h:lk G a=some xs)(hl:xs.length+ys.length<=16000000)(q:∀c,G c=none->Q (.ref c) (up G c (.lst (xs++ys)))):yw (.ref a) (.ro ys) G Q:=by
 unfold yw;simp only[h];exact⟨hl,q⟩
theorem eF(e:qv xs i=some x)(q:Q x G):rC (.tup xs) (.int i) G Q:=by
 unfold rC;simp only[e];exact q
theorem pE{z:Str}{c:Nat}(hz:z.length<=16000000)(e:qv z.cps.toList i=some c)(q:Q (.str ⟨#[c]⟩) G):rC (.str z) (.int i) G Q:=by
 unfold rC;simp only[e];exact⟨hz,q⟩
theorem gJ{v:PV}{R:Gp->Prop}(h:G a=some (.lst xs))(e:AV xs.length k=some j)(q:R (up G a (.lst (xs.set j v)))):EW (.ref a) (.int k) v G R:=by
 unfold EW;simp only[h,e];exact q
theorem Nh(h:lk G a=some xs)(h2:lk G b=some ys)(f1:dI 100 xs=true)(f2:dI 100 ys=true)(q:Q (.bl (kO xs ys)) G):GY (.ref a) (.ref b) G Q:=by
 unfold GY;simp only[h,h2];exact⟨f1,f2,q⟩
theorem L8(h:lk G a=some xs)(h2:lk G b=some ys)(f1:dI 100 xs=true)(f2:dI 100 ys=true)(q:Q (.bl (!kO xs ys)) G):Jv (.ref a) (.ref b) G Q:=by
 unfold Jv;simp only[h,h2];exact⟨f1,f2,q⟩
theorem oj(h:lk G a=some xs)(q:Q (.tup xs) G):lW [.ref a] G Q:=by
 unfold lW;simp only[h];exact q
theorem xz{ns:List Int}(h:lk G a=some (ns.map PV.int))(q:Q (.int ns.sum) G):Ai [.ref a] G Q:=by
 unfold Ai;simp only[h,yd];exact q
theorem qp{z:Str}{zs:List Str}(h:lk G a=some (zs.map PV.str))(hl:(zs.map (·.length)).sum+zs.length*z.length<=16000000)(q:Q (.str (g9 z zs)) G):rq (.str z) [.ref a] G Q:=by
 unfold rq;simp only[h,xA];exact⟨hl,q⟩
end
noncomputable def Ch(l:List Addr)(G G':Gp):Prop:=∀c o,c∉l->G c=some o->G' c=some o
theorem Ch.refl{l:List Addr}{G:Gp}:Ch l G G:=λ_ _ _ h=>h
theorem Ch.trans{l:List Addr}{G G1 G2:Gp}(a:Ch l G G1)(b:Ch l G1 G2):Ch l G G2:=λc o n h=>b c o n (a c o n h)
theorem Ch.new{l:List Addr}{G G1:Gp}{a:Addr}{o:MO}(h:Ch l G G1)(n:G1 a=none):Ch l G (up G1 a o):=λb u hb q=>by
 have:=h b u hb q
 have ne:b≠a:=λz=>by subst z;rw[n]at this;cases this
 rw[aE ne];exact this
theorem Ch.put{l:List Addr}{G G1:Gp}{a:Addr}{o:MO}(h:Ch l G G1)(n:a∈l):Ch l G (up G1 a o):=λb u hb q=>by
 have ne:b≠a:=λz=>by subst z;exact hb n
 rw[aE ne];exact h b u hb q
theorem Ch.mod'{l:List Addr}{G G1:Gp}{a:Addr}{o:MO}(h:Ch l G G1)(n:G a=none):Ch l G (up G1 a o):=λb u hb q=>by
 have ne:b≠a:=λz=>by subst z;rw[n]at q;cases q
 rw[aE ne];exact h b u hb q
theorem Ch.mono{l l':List Addr}{G G1:Gp}(h:Ch l G G1)(s:∀a∈l,a∈l'):Ch l' G G1:=λb u hb q=>h b u (λz=>hb (s b z)) q
theorem GE.ch{l:List Addr}{G G1:Gp}(h:GE G G1):Ch l G G1:=λb u _ q=>h b u q
noncomputable def Pool(G:Gp)(a:Addr):Prop:=∃x y z:Int,G a=some (.lst [.int x,.int y,.int z])/\0<=x
theorem Pool.new{G:Gp}{a b:Addr}{o:MO}(h:Pool G a)(n:G b=none):Pool (up G b o) a:=by
 obtain⟨x,y,z,e,hx⟩:=h
 exact⟨x,y,z,by rw[aE (λq=>by subst q;rw[n]at e;cases e)];exact e,hx⟩
theorem Pool.ne{G:Gp}{a b:Addr}{o:MO}(h:Pool G a)(n:b≠a):Pool (up G b o) a:=by
 obtain⟨x,y,z,e,hx⟩:=h
 exact⟨x,y,z,by rw[aE (aG n)];exact e,hx⟩
theorem aY{G:Gp}{a b:Addr}{o:MO}(h:G a=some o)(n:G b=none):a≠b:=λz=>by subst z;rw[h]at n;cases n
theorem Pool.some{G:Gp}{a:Addr}(h:Pool G a):∃o,G a=some o:=by obtain⟨x,y,z,e,_⟩:=h;exact⟨_,e⟩
theorem kI{P:aK}{w:aX}{K:PySem.W.Frag}{mg:Str->Option ae}{base:Heap}{k:Nat}{f:Addr}{fd:a8}{ps:List Str}{sp:hX}(h:∀as G Q,¬sp as G Q):iL P w K mg base k f fd ps sp:=
 ⟨λvs H Q E ⟨as,G,Q2,_,_,q,_⟩=>absurd q (h as G Q2),λA outer s H args us vs Q E _ _ _ _ ⟨as,G,Q2,_,_,q,_⟩=>absurd q (h as G Q2)⟩
noncomputable def xC:hX:=λps G Q=>∃c:Int,ps=[.int c]/\∀a G',G a=none->Pool G' a->Ch [a] G G'->Q (.ref a) G'
noncomputable def gI:hX:=λps G Q=>∃(a:Addr) (b:Int),ps=[.ref a,.int b]/\Pool G a/\1<=b/\b<=1000000/\∀(n:Int) G',0<=n->n<b->Pool G' a->Ch [a] G G'->Q (.int n) G'
inductive Pt where
 |none|blank|sign (s:Str)|row (ps:List Pt)|pick (ps:List Pt)|again (p:Pt)|held (n:Str) (p:Pt)|price (n:Int) (p:Pt)
mutual
noncomputable def il:Pt->PV
 | .none=> .tup [.str "none"]
 | .blank=> .tup [.str "blank"]
 | .sign s=> .tup [.str "sign",.str s]
 | .row ps=> .tup [.str "row",.tup (cN ps)]
 | .pick ps=> .tup [.str "pick",.tup (cN ps)]
 | .again p=> .tup [.str "again",il p]
 | .held n p=> .tup [.str "held",.str n,il p]
 | .price n p=> .tup [.str "price",.int n,il p]
noncomputable def cN:List Pt->List PV
 |[]=>[]
 |p::ps=>il p::cN ps
end
theorem gx:∀ps:List Pt,cN ps=ps.map il
 |[]=>rfl
 |p::ps=>by show il p::cN ps=_;rw[gx ps];rfl
theorem iI(ps qs:List Pt):cN (ps++qs)=cN ps++cN qs:=by rw[gx,gx,gx,aR]
theorem uW(ps:List Pt):cN ps.reverse=(cN ps).reverse:=by rw[gx,gx,List.map_reverse]
theorem cy(ps:List Pt):(cN ps).length=ps.length:=by rw[gx,ai]
noncomputable def cE:Pt->List Pt
 | .row ps=>ps
 | .pick ps=>ps
 | .again p=>[p]
 | .held _ p=>[p]
 | .price _ p=>[p]
 |_=>[]
mutual
noncomputable def size:Pt->Nat
 | .row ps=>1+cb ps
 | .pick ps=>1+cb ps
 | .again p=>1+size p
 | .held _ p=>1+size p
 | .price _ p=>1+size p
 |_=>1
noncomputable def cb:List Pt->Nat
 |[]=>0
 |p::ps=>size p+cb ps
end
theorem i8(p:Pt):size p=1+cb (cE p):=by
 cases p<;>simp[size,cE,cb]
theorem fH(p:Pt):0<size p:=by rw[i8];ac_nf
theorem nc(ps qs:List Pt):cb (ps++qs)=cb ps+cb qs:=by
 induction ps with
 |nil=>simp[cb]
 |cons p ps ih=>simp[cb,ih];ac_nf
theorem cK:∀ps:List Pt,ps.length<=cb ps
 |[]=>bn _
 |p::ps=>by
  have:=cK ps
  have:=fH p
  simp[cb];ac_nf
mutual
noncomputable def makes:Pt->List Pt
 | .row ps=> .row ps::dJ ps
 | .pick ps=> .pick ps::dJ ps
 | .again p=> .again p::makes p
 | .held n p=> .held n p::makes p
 | .price n p=> .price n p::makes p
 |p=>[p]
noncomputable def dJ:List Pt->List Pt
 |[]=>[]
 |p::ps=>makes p++dJ ps
end
theorem ju(p:Pt):makes p=p::dJ (cE p):=by
 cases p<;>simp[makes,cE,dJ]
theorem lG(ps qs:List Pt):dJ (ps++qs)=dJ ps++dJ qs:=by
 induction ps with
 |nil=>simp[dJ]
 |cons p ps ih=>simp[dJ,ih]
mutual
theorem bW:∀p:Pt,(makes p).length=size p
 | .row ps=>by simp[makes,size,fM ps];ac_nf
 | .pick ps=>by simp[makes,size,fM ps];ac_nf
 | .again p=>by simp[makes,size,bW p];ac_nf
 | .held n p=>by simp[makes,size,bW p];ac_nf
 | .price n p=>by simp[makes,size,bW p];ac_nf
 | .none=>rfl
 | .blank=>rfl
 | .sign s=>rfl
theorem fM:∀ps:List Pt,(dJ ps).length=cb ps
 |[]=>rfl
 |p::ps=>by simp[dJ,cb,bW p,fM ps]
end
noncomputable def eM(c:Nat):Str:=⟨#[c]⟩
theorem wA:∀zs:List Str,(Str.join (aD "") zs).cps.toList=(zs.map λz=>z.cps.toList).flatten
 |[]=>rfl
 |[z]=>by simp[Str.join]
 |z::y::r=>by
  show(z++aD "" ++Str.join (aD "") (y::r)).cps.toList=_
  have h:=wA (y::r)
  rw[aw,c8,<-h]
  show(z.cps++(aD "").cps++(Str.join (aD "") (y::r)).cps).toList=_
  rw[Array.toList_append,Array.toList_append]
  simp[show(aD "").cps.toList=[]from rfl]
theorem oZ(zs:List Str):(g9 (aD "") zs).cps.toList=(zs.map λz=>z.cps.toList).flatten:=by
 have e:g9 (aD "") zs=Str.join (aD "") zs:=StrLaws.glued_eq_join _ _
 rw[e,wA]
theorem j6(cs:List Nat):(g9 (aD "") (cs.map eM)).cps.toList=cs:=by
 rw[oZ]
 induction cs with
 |nil=>rfl
 |cons c cs ih=>rw[aw,aw,c8,ih];rfl
theorem B1{z:Str}{i:Nat}{x:PV}(h:(jA z)[i]? =some x):∃c,z.cps.toList[i]? =some c/\x= .str (eM c):=by
 unfold jA at h
 rw[aC]at h
 cases e:z.cps.toList[i]? with
 |none=>rw[e]at h;cases h
 |some c=>rw[e]at h;cases h;exact⟨c,rfl,rfl⟩
theorem Ap(cs:List Nat):dI 100 (cs.map λc=> .str (eM c))=true:=by
 induction cs with
 |nil=>rfl
 |cons c cs ih=>rw[aw];unfold dI;rw[ih];rfl
theorem vJ(cs:List Nat):((cs.map eM).map (·.length)).sum=cs.length:=by
 induction cs with
 |nil=>rfl
 |cons c cs ih=>rw[aw,aw,ba,ih,aM];show 1+cs.length=_;ac_nf
mutual
noncomputable def depth:Pt->Nat
 | .row ps=>1+a9 ps
 | .pick ps=>1+a9 ps
 | .again p=>1+depth p
 | .held _ p=>1+depth p
 | .price _ p=>1+depth p
 |_=>1
noncomputable def a9:List Pt->Nat
 |[]=>0
 |p::ps=>max (depth p) (a9 ps)
end
mutual
noncomputable def bN:Pt->Bool
 | .none=>false
 | .blank=>true
 | .sign _=>false
 | .row ps=>iJ ps
 | .pick ps=>jk ps
 | .again _=>true
 | .held _ p=>bN p
 | .price _ p=>bN p
noncomputable def iJ:List Pt->Bool
 |[]=>true
 |p::ps=>bN p&&iJ ps
noncomputable def jk:List Pt->Bool
 |[]=>false
 |p::ps=>bN p||jk ps
end
theorem lJ(ps qs:List Pt):a9 (ps++qs)=max (a9 ps) (a9 qs):=by
 induction ps with
 |nil=>simp[a9]
 |cons p ps ih=>simp[a9,ih,Nat.max_assoc]
theorem wW(ps qs:List Pt):jk (ps++qs)=(jk ps||jk qs):=by
 induction ps with
 |nil=>simp[jk]
 |cons p ps ih=>simp[jk,ih,Bool.or_assoc]
theorem zW:∀{ps:List Pt} {i:Nat} {p:Pt},ps[i]? =some p->iJ ps=true->bN p=true
 |[],_,_,h,_=>by simp at h
 |p::ps,0,q,h,e=>by
  simp at h;subst h
  simp[iJ]at e;exact e.1
 |p::ps,i+1,q,h,e=>by
  simp[iJ]at e
  exact zW (i:=i) (by simpa using h) e.2
theorem jO(p:Pt):depth p=1+a9 (cE p):=by
 cases p<;>simp[depth,cE,a9]
theorem mr{α:Type}{xs:List α}{n:Int}(h0:0<=n)(h1:n<xs.length):∃x,qv xs n=some x/\x∈xs:=by
 have hl:n.toNat<xs.length:=by ac_nf
 refine⟨xs[n.toNat],?_,List.getElem_mem hl⟩
 have:=bI (xs:=xs) (j:=n.toNat) (v:=xs[n.toNat]) (ak hl)
 rwa [show((n.toNat:Nat):Int)=n by ac_nf]at this
theorem pe(p:Pt):1<=depth p:=by rw[jO];ac_nf
noncomputable def cO:Nat->List Pt->List Nat
 |_,[]=>[]
 |b,p::ps=>b::cO (b+size p) ps
theorem lK(b:Nat)(ps qs:List Pt):cO b (ps++qs)=cO b ps++cO (b+cb ps) qs:=by
 induction ps generalizing b with
 |nil=>simp[cO,cb]
 |cons p ps ih=>simp[cO,cb,ih,Nat.add_assoc]
theorem eO(b:Nat)(ps:List Pt):(cO b ps).length=ps.length:=by
 induction ps generalizing b with
 |nil=>rfl
 |cons p ps ih=>simp[cO,ih]
mutual
theorem K4:∀(p:Pt) (j:Nat) (q:Pt),(makes p)[j]? =some q->∃r,(makes p).drop j=makes q++r
 | .row ps,j,q,h=>by
  cases j with
  |zero=>simp[makes]at h;subst h;exact⟨[],by simp⟩
  |succ j=>simp[makes]at h⊢;exact Iy ps j q h
 | .pick ps,j,q,h=>by
  cases j with
  |zero=>simp[makes]at h;subst h;exact⟨[],by simp⟩
  |succ j=>simp[makes]at h⊢;exact Iy ps j q h
 | .again p,j,q,h=>by
  cases j with
  |zero=>simp[makes]at h;subst h;exact⟨[],by simp⟩
  |succ j=>simp[makes]at h⊢;exact K4 p j q h
 | .held n p,j,q,h=>by
  cases j with
  |zero=>simp[makes]at h;subst h;exact⟨[],by simp⟩
  |succ j=>simp[makes]at h⊢;exact K4 p j q h
 | .price n p,j,q,h=>by
  cases j with
  |zero=>simp[makes]at h;subst h;exact⟨[],by simp⟩
  |succ j=>simp[makes]at h⊢;exact K4 p j q h
 | .none,j,q,h=>by
  cases j with
  |zero=>simp[makes]at h;subst h;exact⟨[],by simp⟩
  |succ j=>simp[makes]at h
 | .blank,j,q,h=>by
  cases j with
  |zero=>simp[makes]at h;subst h;exact⟨[],by simp⟩
  |succ j=>simp[makes]at h
 | .sign s,j,q,h=>by
  cases j with
  |zero=>simp[makes]at h;subst h;exact⟨[],by simp⟩
  |succ j=>simp[makes]at h
theorem Iy:∀(ps:List Pt) (j:Nat) (q:Pt),(dJ ps)[j]? =some q->∃r,(dJ ps).drop j=makes q++r
 |[],j,q,h=>by simp[dJ]at h
 |p::ps,j,q,h=>by
  simp only[dJ]at h⊢
  by_cases hj:j<(makes p).length
  ·rw[bT hj]at h
   obtain⟨r,e⟩:=K4 p j q h
   refine⟨r++dJ ps,?_⟩
   rw[List.drop_append_of_le_length (iN hj),e,cx]
  ·rw[bO (by ac_nf)]at h
   obtain⟨r,e⟩:=Iy ps _ q h
   refine⟨r,?_⟩
   rw[List.drop_append,List.drop_of_length_le (by ac_nf),List.nil_append,e]
end
theorem An{p q:Pt}{j:Nat}(h:(makes p)[j]? =some q):∃r,(makes p).drop (j+1)=dJ (cE q)++r:=by
 obtain⟨r,e⟩:=K4 p j q h
 refine⟨r,?_⟩
 have:(makes p).drop (j+1)=((makes p).drop j).drop 1:=by rw[List.drop_drop]
 rw[this,e,ju q]
 rfl
theorem vR{p q c:Pt}{j:Nat}{pre post:List Pt}(h:(makes p)[j]? =some q)(hi:cE q=pre++c::post):(makes p)[j+1+cb pre]? =some c:=by
 obtain⟨r,e⟩:=An h
 have e2:((makes p).drop (j+1))[cb pre]? =some c:=by
  rw[e,hi,lG,cx,bO (by rw[fM];exact am _),fM,lz]
  simp only[dJ]
  rw[ju c]
  rfl
 rw[List.getElem?_drop]at e2
 exact e2
theorem vQ{p q:Pt}{j:Nat}(h:(makes p)[j]? =some q):j+size q<=size p:=by
 obtain⟨r,e⟩:=K4 p j q h
 have:=congrArg ib e
 rw[List.length_drop,aL,bW,bW]at this
 have hj:=(aq.mp h).1
 rw[bW]at hj
 ac_nf
noncomputable def fR(n:Nat):PV:= .int n
noncomputable def gK(p:Pt):List PV:=(bE (size p)).map λj=> .tup ((cO (j+1) (cE ((makes p).getD j .none))).map fR)
theorem sh(p:Pt):(gK p).length=size p:=by unfold gK;simp
theorem fW{p q:Pt}{j:Nat}(h:(makes p)[j]? =some q):(gK p)[j]? =some (.tup ((cO (j+1) (cE q)).map fR)):=by
 have hj:=(aq.mp h).1
 rw[bW]at hj
 unfold gK
 rw[aC,dA hj]
 show some (PV.tup ((cO (j+1) (cE ((makes p).getD j .none))).map fR))=_
 rw[eB,h]
 rfl
section
variable{G:Gp}{a:Addr}{xs:List PV}{x y p:PV}{i:Int}{j:Nat}{Q:K2}
theorem DR(f1:kM p=true)(f2:xs.all kM=true)(q:Q (.bl (Kw p xs)) G):MQ false p (.tup xs) G Q:=⟨f1,f2,q⟩
theorem rE{ty T:String}(h:NX p G=some ty)(hT:T∈OQ)(q:Q (.bl (NI ty T)) G):wF [p,.ty T] G Q:=by
 unfold wF;simp only[h];exact⟨hT,q⟩
theorem L7(f1:dQ 100 x=true)(f2:dQ 100 y=true)(q:Q (.bl (!mh x y)) G):Jv x y G Q:=by
 cases x with
 |ref a=>cases f1
 |ty a=>cases f1
 |ro a=>cases f1
 |_=>cases y with
  |ref a=>cases f2
  |ty a=>cases f2
  |ro a=>cases f2
  |_=>exact⟨f1,f2,q⟩
theorem fz(f1:dQ 100 x=true)(f2:dQ 100 y=true)(q:Q (.bl (mh x y)) G):GY x y G Q:=by
 cases x with
 |ref a=>cases f1
 |ty a=>cases f1
 |ro a=>cases f1
 |_=>cases y with
  |ref a=>cases f2
  |ty a=>cases f2
  |ro a=>cases f2
  |_=>exact⟨f1,f2,q⟩
theorem vo{i j:Int}(q:Q (.int (i+j)) G):yw (.int i) (.int j) G Q:=q
end
end L3
namespace PyProof.Rows
open PySem
section
end
end PyProof.Rows
namespace PySem
open Sem (wp)
open Builtin
end PySem
namespace L3
open PySem L2
theorem Aa{ns:List Str}{us:List ae}(h:PyProof.Rows.StrsAre us ns):Vals (ns.map V.str) us:=by
 induction h with
 |nil=>exact .nil
 |cons n t _ ih=>exact .cons ⟨t,rfl⟩ ih
theorem BU{K:PySem.W.Frag}{H:Hp}:∀(l:List Str),Dvs K H (l.map PV.str) (l.map V.str)
 |[]=>rfl
 |i::l=>⟨_,_,rfl,rfl,BU l⟩
section
noncomputable def lg:ae->Bool
 | .none=>true
 |_=>false
theorem Dp{K:PySem.W.Frag}{H:Hp}{p:PV}{v:V}{u:ae}(f:dQ 100 p=true)(d:Dv K H p v)(r:RelV v u):lg u=mh p .non:=by
 cases p with
 |non=>obtain rfl:v= .non:=d;cases r;rfl
 |bl b=>obtain rfl:v= .bl b:=d;cases r;rfl
 |int b=>obtain rfl:v= .int b:=d;obtain⟨t,rfl⟩:=r;rfl
 |str b=>obtain rfl:v= .str b:=d;obtain⟨t,rfl⟩:=r;rfl
 |tup ps=>obtain⟨a,vs,rfl,_⟩:=d;cases r;rfl
 |ref a=>cases f
 |ty a=>cases f
 |ro a=>cases f
end
end L3
namespace PySem
open PyProof.Rows (StrsAre)
theorem pA:∀{vs:List ae} {ss:List Str},StrsAre vs ss->vs.length=ss.length
 |_,_,.nil=>rfl
 |_,_,.cons _ _ h=>by rw[aM,aM,pA h]
section
end
end PySem
namespace PySem
open PyProof.Rows (StrsAre)
section
end
section
end
end PySem
namespace PySem
open PyProof.Rows (StrsAre)
section
end
namespace F
end F
end PySem
namespace PySem
open PyProof.Rows (StrsAre)
section
end
end PySem
namespace PySem
open PyProof.Rows (StrsAre)
section
end
end PySem
namespace PySem
open PyProof.Rows (StrsAre)
section
end
end PySem
namespace PySem
open PyProof.Rows
section
variable{prog:aK}{w:aX}{A:Around}{E:ae->al->Prop}{s:al}{ks:List Str}
theorem Ak{Q:ae->al->Prop}(v:ae)
  (hc:∀(R:List ae->al->Prop),(∀(s':al) (acc:Array ae) (ks':List Str),(∀b o,s.heap.get? b=some o->s'.heap.get? b=some o)->s'.gens=s.gens->s'.os=s.os->StrsAre acc.toList ks'->ks'.Perm ks->R acc.toList s')->wpAny (aT prog w) A.in1 (collect v) R E s)
  (h64:ks.length<64)
  (h:∀(s':al) (l:Addr) (out:Array ae) (ss':List Str) (e:Nat),(∀b o,s.heap.get? b=some o->s'.heap.get? b=some o)->s'.gens=s.gens->s'.os=s.os->s.heap.get? l=none->s'.heap.get? l=some (seqObj "list" out e)->StrsAre out.toList ss'->ss'.Perm ks->sortedS ss'=true->Q (.ref l) s'):
  wpAny (aT prog w) A (call (.builtin "sorted") [v]) Q E s:=by
 refine Calls.call_function_entry kind_sorted plain_sorted entry_sorted (args_sorted1 _) ?_
 unfold cw.«sorted»
 refine aa (m:=checkCount "sorted" 1 1 _) (ao ?_)
 refine aa (hc _ λs' acc ks' hk hg ho hS hp=> ?_)
 have hl:acc.toList.length<64:=by rw[pA hS,hp.length_eq];exact h64
 refine aa (wpAny_newList ?_)
 have hoL:(s'.heap.push (seqObj "list" acc.toList.toArray 0)).get? s'.heap.objs.size=some (seqObj "list" acc.toList.toArray 0):=aJ _ rfl
 have hle:s.heap.get? s'.heap.objs.size=none:=by
  cases e:s.heap.get? s'.heap.objs.size with
  |none=>rfl
  |some o=>
   have:=hk _ o e
   rw[Heap.get?_none_of_le (am _)]at this
   cases this
 show wpAny _ _ _ _ _ {s' with heap:=s'.heap.push (seqObj "list" acc.toList.toArray 0)}
 refine aa (cJ (cZ slot_list_sort ⟨_,hoL,rfl⟩ entry_list_sort (list_sort_treeK strKind_oneLt hoL hS.keysOf (λv₁ v₂ rest e=>keyKind_strs (by rw[<-e];exact hS)) hl λst' a1 a2=>⟨_,rfl,?_⟩) (args_list_sort _)))
 obtain⟨ss',h1,h2,h3⟩:=sorted_out_str hS a1 a2
 obtain⟨e,he⟩:=sortedHeap_at (out:=(arrOf st').map (·.2)) hoL
 refine ao ⟨_,rfl,h _ s'.heap.objs.size _ ss' e (λb o q=> ?_) hg ho hle he h1 (h2.trans hp) h3⟩
 have q':=hk b o q
 have hb:b<s'.heap.objs.size:=aF q'
 show(sortedHeap _ _ _ _).get? b=some o
 rw[sortedHeap_old (aS hb) (aF (aj _ q'))]
 exact aj _ q'
end
end PySem
namespace L3
open PySem L2
section
end
end L3
namespace PySem
open Sem (wp)
open Builtin
end PySem
namespace L3
open PySem L2
section
end
noncomputable abbrev K6(t:E2):sw:=λτ G R=>t τ G λp G1=>match p with
 | .ref a=>match lk G1 a with
  |some ps=>R ps (λG=>lk G a=some ps) G1
  |none=>False
 |_=>False
theorem zI{X:Cx}{l tg:Expr}{t:E2}(hl:JE X l t):JI X tg l (K6 t):= .of (Fn hl.h) λσ H R hPl=>by
 obtain⟨τ,G,R2,rs,rp,h,cl⟩:=hPl
 refine⟨τ,G,_,rs,rp,h,λp G1 v H1 q d r k=> ?_⟩
 cases p with
 |ref a=>
  obtain rfl:v= .ref a:=d
  dsimp only at q
  split at q
  ·rename_i ps e
   obtain⟨vs,sq,dv⟩:=gf r e
   exact⟨a,rfl,⟨vs,sq⟩,cl _ _ _ _ _ q r k DN⟩
  ·exact q.elim
 |_=>exact q.elim
theorem vP:∀{ps:List Pt} {c:Pt},c∈ps->size c<=cb ps
 |p::ps,c,h=>by
  rcases aI.mp h with rfl|h
  ·simp only[cb];ac_nf
  ·have:=vP h;simp only[cb];ac_nf
theorem fO:∀{ps:List Pt} {c:Pt},c∈ps->depth c<=a9 ps
 |p::ps,c,h=>by
  rcases aI.mp h with rfl|h
  ·simp only[a9];ac_nf
  ·have:=fO h;simp only[a9];ac_nf
inductive Tr where
 |blank|sign (s:Str)|row (ts:List Tr)|pick (k:Int) (t:Tr)|again (ts:List Tr)|held (n:Str) (t:Tr)|price (n:Int) (t:Tr)
mutual
noncomputable def ic:Tr->PV
 | .blank=> .tup [.str "blank"]
 | .sign s=> .tup [.str "sign",.str s]
 | .row ts=> .tup [.str "row",.tup (eI ts)]
 | .pick k t=> .tup [.str "pick",.int k,ic t]
 | .again ts=> .tup [.str "again",.tup (eI ts)]
 | .held n t=> .tup [.str "held",.str n,ic t]
 | .price n t=> .tup [.str "price",.int n,ic t]
noncomputable def eI:List Tr->List PV
 |[]=>[]
 |t::ts=>ic t::eI ts
end
theorem dL:∀ts:List Tr,eI ts=ts.map ic
 |[]=>rfl
 |t::ts=>by show ic t::eI ts=_;rw[dL ts];rfl
theorem gR(ts us:List Tr):eI (ts++us)=eI ts++eI us:=by rw[dL,dL,dL,aR]
theorem uV(ts:List Tr):eI ts.reverse=(eI ts).reverse:=by rw[dL,dL,List.map_reverse]
theorem fA(ts:List Tr):(eI ts).length=ts.length:=by rw[dL,ai]
theorem GZ{ps:List Tr}{i:Nat}{x:PV}(h:(eI ps)[i]? =some x):∃c,ps[i]? =some c/\x=ic c:=by
 rw[dL,aC]at h
 cases e:ps[i]? with
 |none=>rw[e]at h;cases h
 |some c=>rw[e]at h;exact⟨c,rfl,(bc h).symm⟩
noncomputable def fP:Tr->List Tr
 | .row ts=>ts
 | .again ts=>ts
 | .pick _ t=>[t]
 | .held _ t=>[t]
 | .price _ t=>[t]
 |_=>[]
mutual
noncomputable def lD:Tr->Nat
 | .row ts=>1+fU ts
 | .again ts=>1+fU ts
 | .pick _ t=>1+lD t
 | .held _ t=>1+lD t
 | .price _ t=>1+lD t
 |_=>1
noncomputable def fU:List Tr->Nat
 |[]=>0
 |t::ts=>lD t+fU ts
end
mutual
noncomputable def ui:Tr->Nat
 | .row ts=>1+qH ts
 | .again ts=>1+qH ts
 | .pick _ t=>1+ui t
 | .held _ t=>1+ui t
 | .price _ t=>1+ui t
 |_=>1
noncomputable def qH:List Tr->Nat
 |[]=>0
 |t::ts=>max (ui t) (qH ts)
end
theorem mQ(t:Tr):lD t=1+fU (fP t):=by cases t<;>simp[lD,fP,fU]
theorem yM(t:Tr):0<lD t:=by rw[mQ];ac_nf
theorem vC(ts us:List Tr):fU (ts++us)=fU ts+fU us:=by
 induction ts with
 |nil=>simp[fU]
 |cons p ps ih=>simp[fU,ih];ac_nf
theorem mO:∀ts:List Tr,ts.length<=fU ts
 |[]=>bn _
 |t::ts=>by
  have:=mO ts
  have:=yM t
  simp[fU];ac_nf
mutual
noncomputable def vI:Tr->List Tr
 | .row ts=> .row ts::gW ts
 | .again ts=> .again ts::gW ts
 | .pick k t=> .pick k t::vI t
 | .held n t=> .held n t::vI t
 | .price n t=> .price n t::vI t
 |t=>[t]
noncomputable def gW:List Tr->List Tr
 |[]=>[]
 |t::ts=>vI t++gW ts
end
theorem qh(t:Tr):vI t=t::gW (fP t):=by cases t<;>simp[vI,fP,gW]
theorem vH(ps qs:List Tr):gW (ps++qs)=gW ps++gW qs:=by
 induction ps with
 |nil=>simp[gW]
 |cons p ps ih=>simp[gW,ih]
theorem qg:∀(n:Nat) (t:Tr),lD t<=n->(vI t).length=lD t
 |0,t,h=>by have:=yM t;ac_nf
 |n+1,t,h=>by
  have key:∀ts:List Tr,fU ts<=n->(gW ts).length=fU ts:=by
   intro ts
   induction ts with
   |nil=>intro _;rfl
   |cons a l ih=>
    intro h
    simp only[fU]at h⊢
    simp only[gW,aL]
    rw[qg n a (by ac_nf),ih (by ac_nf)]
  have e:=mQ t
  rw[qh,aM,key _ (by ac_nf)]
  ac_nf
noncomputable def Lb:Tr->Prop
 | .sign s=>s.length=1
 | .held n _=>n.length<=100
 |_=>True
noncomputable abbrev wt(t:Tr):Prop:=∀c∈vI t,Lb c
theorem vG:∀{ts:List Tr} {c:Tr},c∈gW ts↔∃t∈ts,c∈vI t
 |[],c=>by simp[gW]
 |p::ps,c=>by
  show c∈vI p++gW ps↔_
  rw[aZ,vG (ts:=ps)]
  simp
theorem La{t:Tr}(h:Lb t)(hi:∀c∈fP t,wt c):wt t:=λd hd=>by
 rw[qh]at hd
 rcases aI.mp hd with rfl|hd
 ·exact h
 ·obtain⟨c,hc,hd⟩:=vG.mp hd
  exact hi c hc d hd
noncomputable def Ix:Tr->Option Str
 | .sign s=>some s
 |_=>none
noncomputable def i4(l:List Tr):List Nat:=((l.filterMap Ix).map λz=>z.cps.toList).flatten
noncomputable abbrev uk(t:Tr):List Nat:=i4 (vI t)
theorem pr(a b:List Tr):i4 (a++b)=i4 a++i4 b:=by unfold i4;rw[List.filterMap_append,aR,List.flatten_append]
theorem BP(s:Str):uk (.sign s)=s.cps.toList:=by simp[uk,i4,vI,Ix]
theorem mS{t:Tr}(h:Ix t=none):uk t=i4 (gW (fP t)):=by
 unfold uk
 rw[qh]
 unfold i4
 rw[fF,h]
theorem qI(t:Tr)(ts:List Tr):i4 (gW (t::ts))=uk t++i4 (gW ts):=pr _ _
noncomputable def tx(t:Tr):Str:=⟨(uk t).toArray⟩
theorem DF(zs:List Str):g9 (aD "") zs=⟨((zs.map λz=>z.cps.toList).flatten).toArray⟩:=by
 have h:=oZ zs
 generalize g9 (aD "") zs=y at h
 obtain⟨⟨l⟩⟩:=y
 have h':l=_:=h
 rw[h']
theorem yU:∀{l:List Tr},(∀c∈l,Lb c)->(i4 l).length<=l.length
 |[],_=>bn _
 |c::l,h=>by
  have ih:=yU (l:=l) λd hd=>h d (by simp[hd])
  have e:i4 (c::l)=i4 [c]++i4 l:=pr [c] l
  rw[e,aL,aM]
  have:(i4 [c]).length<=1:=by
   cases c with
   |sign s=>
    have hs:s.length=1:=h (.sign s) (by simp)
    have e1:s.cps.toList.length=s.length:=by simp[Str.length]
    simp only[i4,Ix,fF,List.filterMap_nil,aw,iz,c8,List.flatten_nil,cr]
    ac_nf
   |_=>exact bn 1
  ac_nf
mutual
theorem kN:∀(p:Tr) (n:Nat),2*ui p<=n->dQ n (ic p)=true
 | .blank,n,h=>by
  simp[ui]at h
  obtain⟨n,rfl⟩:∃m,n=m+1:=⟨n-1,by ac_nf⟩
  simp[ic,dQ,dI]
 | .sign s,n,h=>by
  simp[ui]at h
  obtain⟨n,rfl⟩:∃m,n=m+1:=⟨n-1,by ac_nf⟩
  simp[ic,dQ,dI]
 | .row ps,n,h=>by
  simp[ui]at h
  obtain⟨n,rfl⟩:∃m,n=m+2:=⟨n-2,by ac_nf⟩
  simp[ic,dQ,dI,o8 ps n (by ac_nf)]
 | .again ps,n,h=>by
  simp[ui]at h
  obtain⟨n,rfl⟩:∃m,n=m+2:=⟨n-2,by ac_nf⟩
  simp[ic,dQ,dI,o8 ps n (by ac_nf)]
 | .pick s p,n,h=>by
  simp[ui]at h
  obtain⟨n,rfl⟩:∃m,n=m+1:=⟨n-1,by ac_nf⟩
  simp[ic,dQ,dI,kN p n (by ac_nf)]
 | .held s p,n,h=>by
  simp[ui]at h
  obtain⟨n,rfl⟩:∃m,n=m+1:=⟨n-1,by ac_nf⟩
  simp[ic,dQ,dI,kN p n (by ac_nf)]
 | .price s p,n,h=>by
  simp[ui]at h
  obtain⟨n,rfl⟩:∃m,n=m+1:=⟨n-1,by ac_nf⟩
  simp[ic,dQ,dI,kN p n (by ac_nf)]
theorem o8:∀(ps:List Tr) (n:Nat),2*qH ps<=n->dI n (eI ps)=true
 |[],n,h=>by simp[eI,dI]
 |p::ps,n,h=>by
  simp[qH]at h
  simp[eI,dI,kN p n (by ac_nf),o8 ps n (by ac_nf)]
end
section
end
end L3
namespace L2
open PySem PySem.Spec PyProof.Rows
section
end
end L2
namespace L3
open PySem L2
section
end
section
variable{prog:aK}{w:aX}{A:Around}{E:ae->al->Prop}{s:al}
theorem jr{it l:Addr}{i:Nat}{items:Array ae}{x:ae}{Q:ae->al->Prop}(hit:s.heap.IsTupleIter it l i)
  (hl:s.heap.IsTuple l items) (hx:items[i]? =some x)
  (hQ:∀h':Heap,h'.IsTupleIter it l (i+1)->e8 it s.heap h'->Q x {s with heap:=h'}):
  wpAny (aT prog w) A (bM (.ref it)) Q E s:=by
 obtain⟨o,ho,hc,hd⟩:=id hit
 obtain⟨ol,hol,_,nl,hdl⟩:=hl
 unfold bM
 refine aa (cH (name:=aD "__next__") hit.typeIs gP
  (cZ gP hit.typeIs xi ?_ (w9 _)))
 show wpAny _ _ (field (.ref it) 0>>=_) _ _ s
 refine aa (bS ho hd (x:= .ref l) rfl ?_)
 show wpAny _ _ (if(aH l==bA)=true then _ else _) _ _ s
 rw[if_neg (show¬((aH l==bA)=true)from bx)]
 show wpAny _ _ (field (.ref it) 1>>=_) _ _ s
 refine aa (bS ho hd (x:= .int i 0) rfl ?_)
 show wpAny _ _ (seqItems? (.ref l)>>=_) _ _ s
 refine aa (dU hol hdl ?_)
 simp only[kq,hx]
 refine aa (wpAny_setField ho hd (by simp) (ao ⟨x,rfl,ao (hQ _ ?_ (e8.update ..))⟩))
 exact⟨_,dH _ ho (Obj.isFreed_of_fields (Obj.data_mapFields hd _)),(Obj.cls_mapFields ..).trans hc,by
  rw[Obj.data_mapFields hd];simp[rawInt]⟩
theorem oR{it l:Addr}{i:Nat}{items:Array ae}{Q:ae->al->Prop}(hh:A.handled=none)
  (hit:s.heap.IsTupleIter it l i) (hl:s.heap.IsTuple l items) (hx:items[i]? =none)
  (hE:∀(h':Heap) (e:Addr),Heap.ExtBut it s.heap h'->(∃o,h'.get? e=some o/\o.cls= .type "StopIteration")->E (.ref e) {s with heap:=h'}):
  wpAny (aT prog w) A (bM (.ref it)) Q E s:=by
 obtain⟨o,ho,hc,hd⟩:=id hit
 obtain⟨ol,hol,_,nl,hdl⟩:=hl
 unfold bM
 refine aa (cH (name:=aD "__next__") hit.typeIs gP
  (cZ gP hit.typeIs xi ?_ (w9 _)))
 show wpAny _ _ (field (.ref it) 0>>=_) _ _ s
 refine aa (bS ho hd (x:= .ref l) rfl ?_)
 show wpAny _ _ (if(aH l==bA)=true then _ else _) _ _ s
 rw[if_neg (show¬((aH l==bA)=true)from bx)]
 show wpAny _ _ (field (.ref it) 1>>=_) _ _ s
 refine aa (bS ho hd (x:= .int i 0) rfl ?_)
 show wpAny _ _ (seqItems? (.ref l)>>=_) _ _ s
 refine aa (dU hol hdl ?_)
 simp only[kq,hx]
 refine aa (iB (aa (wpAny_setField ho hd (by simp) ?_)))
 show wpAny _ _ (newExc (.type "StopIteration") []>>=_) _ _ _
 refine aa ?_
 simp only[newExc,newTuple]
 refine aa (bG ?_ (by size_fits))
 refine aa (m:=firstArgMember _ _) (wpAny_of_eq (a:=bA) (by first|rfl|(simp only[firstArgMember];rfl)) ?_)
 refine bG ?_ (by size_fits)
 simp only[raiseNew]
 refine aa (wpAny_handled ?_)
 first|rw[show A.in1.handled=none from hh]|rw[hh]
 refine aa (ao (wpAny_throw ?_))
 exact hE _ _ (((e8.update ..).extBut.push _).push _) ⟨_,aJ _ rfl,rfl⟩
end
theorem Bk{prog:aK}{w:aX}{A:Around}{E:ae->al->Prop}{s:al}{z TI TO i1 i2 l1:Addr}{k:Nat}{xs:Array ae}{a b:ae}{Q:Fin->al->Prop}
  (hh:A.handled=none) (d:[z,TI,TO,i1,i2].Nodup) (hz:IsZip s.heap z TI TO .none) (hTI:er s.heap TI (.ref i1) (.ref i2)) (hTO:er s.heap TO a b)
  (h1:s.heap.IsTupleIter i1 l1 k) (t1:s.heap.IsTuple l1 xs) (n1:l1∉[z,TI,TO,i1,i2]) (hx:xs[k]? =none)
  (hE:∀(h':Heap) (e:Addr),(∀c o,c≠z->c≠TO->c≠i1->c≠i2->s.heap.get? c=some o->h'.get? c=some o)->(∃o,h'.get? e=some o/\o.cls= .type "StopIteration")->E (.ref e) {s with heap:=h'}):
  wpAny (aT prog w) A (cw.«zip.__next__» {pos:=[.ref z]}) Q E s:=by
 simp only[bi,aI,bF,or_false,not_or]at d n1
 obtain⟨⟨zTI,zTO,z1,z2⟩,⟨TITO,TI1,sw⟩,⟨TO1,TO2⟩,i12,_⟩:=d
 obtain⟨lz1,_,lO1,l11,l12⟩:=n1
 refine aa (show wpAny _ _ (pure (aH z,([]:List ae))) _ _ _ from ao ?_)
 refine aa (bS hz rfl rfl ?_)
 refine aa (bS hz rfl rfl ?_)
 refine aa (dU hTI rfl ?_)
 refine aa (aa (bS hz rfl rfl (ao ?_)))
 simp only[if_true]
 refine aa (iB (aa (bS hz rfl rfl ?_)))
 refine aa (eQ hz (by simp) λh₁ hz₁ hs₁=> ?_)
 have hz1:IsZip h₁ z TI TO .ellipsis:=hz₁
 refine aa ?_
 simp only[List.zipIdx_cons,List.zipIdx_nil,lB,List.forIn_nil]
 refine aa (aa (lp ?_))
 change wpAny _ _ (bind (bM (aH i1)) λx=>pure (some x)) _ _ _
 refine aa (oR hh (h1.extBut hs₁.extBut (aG z1)) (t1.extBut hs₁.extBut lz1) hx λh₄ e sb4 he=> ?_)
 have hz4:IsZip h₄ z TI TO .ellipsis:=sb4 _ _ z1 hz1
 obtain⟨o,ho,hc⟩:=he
 refine eQ hz4 (by simp) λh₅ hz5 sb5=>hE h₅ e (λc u n1 n2 n3 n4 q=> ?_) ⟨o,sb5.extBut _ _ (λq=> ?_) ho,hc⟩
 ·exact sb5.extBut _ _ n1 (sb4 _ _ n3 (hs₁.extBut _ _ n1 q))
 ·subst q
  rw[show h₄.get? e=_ from hz4]at ho
  cases ho
  exact absurd (bD.inj hc) (by decide)
theorem uE{prog:aK}{w:aX}{A:Around}{E:ae->al->Prop}{s:al}{z TI TO i1 i2 l1:Addr}{k:Nat}{xs:Array ae}{a b:ae}{Q:Option ae->al->Prop}
  (hh:A.handled=none) (d:[z,TI,TO,i1,i2].Nodup) (hz:IsZip s.heap z TI TO .none) (hTI:er s.heap TI (.ref i1) (.ref i2)) (hTO:er s.heap TO a b)
  (h1:s.heap.IsTupleIter i1 l1 k) (t1:s.heap.IsTuple l1 xs) (n1:l1∉[z,TI,TO,i1,i2]) (hx:xs[k]? =none)
  (hQ:∀h':Heap,(∀c o,c≠z->c≠TO->c≠i1->c≠i2->s.heap.get? c=some o->h'.get? c=some o)->Q none {s with heap:=h'}):
  wpAny (aT prog w) A (pyNext (.ref z)) Q E s:=by
 have hT:s.TypeIs (.ref z) "zip" :=⟨_,hz,rfl⟩
 exact aa (lr (cH hT ie (cZ ie hT F.entry_zip_next
  (Bk hh d hz hTI hTO h1 t1 n1 hx λh' e hk ⟨o,ho,hc⟩=>aa (lU ⟨o,ho,hc⟩ isSubtype_stop (ao (hQ h' hk)))) (sA (aH z)))))
noncomputable def jD:List PV->List PV->List PV
 |x::xs,y::ys=> .tup [x,y]::jD xs ys
 |_,_=>[]
theorem oO:∀{xs ys:List PV} {i:Nat} {x y:PV},xs[i]? =some x->ys[i]? =some y->(jD xs ys)[i]? =some (.tup [x,y])
 |a::xs,b::ys,0,x,y,h,g=>by
  cases h;cases g;rfl
 |a::xs,b::ys,i+1,x,y,h,g=>by
  show(jD xs ys)[i]? =_
  exact oO (by simpa using h) (by simpa using g)
section
end
@[reducible] noncomputable def ig (kvs:List (Key×PV)) (k:Key):Option PV:=(kvs.find? λkv=>decide (kv.1=k)).map (·.2)
noncomputable def iE(kvs:List (Key×PV))(k:Key)(v:PV):List (Key×PV):=
 if(kvs.any λkv=>decide (kv.1=k))=true then kvs.map (λkv=>if kv.1=k then(kv.1,v)else kv)else kvs++[(k,v)]
@[reducible] noncomputable def uM:PV->Option Key
 | .int i=>some (.inl i)
 | .str x=>some (.inr x)
 |_=>none
noncomputable def kP:Key->PV
 | .inl i=> .int i
 | .inr x=> .str x
theorem uL{K:PySem.W.Frag}{H:Hp}{p:PV}{v:V}{k:Key}(h:uM p=some k)(d:Dv K H p v):v=kV k:=by
 cases p with
 |int i=>cases h;exact d
 |str x=>cases h;exact d
 |_=>cases h
theorem Md{K:PySem.W.Frag}{H:Hp}(k:Key):Dv K H (kP k) (kV k):=by cases k<;>rfl
section
variable{K:PySem.W.Frag}{H:Hp}
theorem DKv.val:∀{ps:List (Key×PV)} {vs:List (Key×V)},DKv K H ps vs->∀k,(∀p,ig ps k=some p->∃v,pO vs k=some v/\Dv K H p v)/\(ig ps k=none->pO vs k=none)
 |[],vs,h,k=>by
  obtain rfl:vs=[]:=h
  exact⟨(λp e=>nomatch (show(none:Option PV)=some p from e)),λ_=>rfl⟩
 |(x,p)::ps,vs,h,k=>by
  obtain⟨v,r,rfl,d,z⟩:=h
  by_cases e:x=k
  ·have e1:ig ((x,p)::ps) k=some p:=by simp[ig,eU,e]
   rw[e1,mL (p:=(x,v)) e]
   exact⟨λq hq=>by cases hq;exact⟨v,rfl,d⟩,λh=>by cases h⟩
  ·have e1:ig ((x,p)::ps) k=ig ps k:=by simp[ig,eU,e]
   rw[e1,mM (p:=(x,v)) e]
   exact DKv.val z k
theorem DKv.any:∀{ps:List (Key×PV)} {vs:List (Key×V)},DKv K H ps vs->∀k,(ps.any λkv=>decide (kv.1=k))=(vs.any λkv=>decide (kv.1=k))
 |[],vs,h,k=>by obtain rfl:vs=[]:=h;rfl
 |(x,p)::ps,vs,h,k=>by
  obtain⟨v,r,rfl,d,z⟩:=h
  rw[cT,cT,DKv.any z k]
theorem DKv.map{k:Key}{q:PV}{u:V}(dq:Dv K H q u):∀{ps:List (Key×PV)} {vs:List (Key×V)},DKv K H ps vs->DKv K H (ps.map λkv=>if kv.1=k then(kv.1,q)else kv) (vs.map λkv=>if kv.1=k then(kv.1,u)else kv)
 |[],vs,h=>by obtain rfl:vs=[]:=h;rfl
 |(x,p)::ps,vs,h=>by
  obtain⟨v,r,rfl,d,z⟩:=h
  rw[aw,aw]
  by_cases e:x=k
  ·rw[if_pos e,if_pos e]
   exact⟨u,_,rfl,dq,DKv.map dq z⟩
  ·rw[if_neg e,if_neg e]
   exact⟨v,_,rfl,d,DKv.map dq z⟩
theorem DKv.snoc{k:Key}{q:PV}{u:V}(dq:Dv K H q u):∀{ps:List (Key×PV)} {vs:List (Key×V)},DKv K H ps vs->DKv K H (ps++[(k,q)]) (vs++[(k,u)])
 |[],vs,h=>by obtain rfl:vs=[]:=h;exact⟨u,[],rfl,dq,rfl⟩
 |(x,p)::ps,vs,h=>by
  obtain⟨v,r,rfl,d,z⟩:=h
  exact⟨v,_,rfl,d,DKv.snoc dq z⟩
theorem DKv.put{k:Key}{q:PV}{u:V}(dq:Dv K H q u){ps:List (Key×PV)}{vs:List (Key×V)}(h:DKv K H ps vs):DKv K H (iE ps k q) (kr vs k u):=by
 unfold iE kr
 rw[h.any k]
 split
 ·exact h.map dq
 ·exact h.snoc dq
theorem DKv.length:∀{ps:List (Key×PV)} {vs:List (Key×V)},DKv K H ps vs->vs.length=ps.length
 |[],vs,h=>by obtain rfl:vs=[]:=h;rfl
 |(x,p)::ps,vs,h=>by
  obtain⟨v,r,rfl,d,z⟩:=h
  rw[aM,aM,DKv.length z]
theorem Rep.dK{G:Gp}{a:Addr}{kvs:List (Key×PV)}(r:Rep K H G)(e:G a=some (.dK kvs)):∃vs,H a=some (.dK vs)/\DKv K H kvs vs:=r a _ e
theorem Rep.newD{G:Gp}{p:Addr}{vs:List (Key×V)}{ps:List (Key×PV)}(r:Rep K H G)(h:H p=Option.none)(d:DKv K H ps vs):Rep K (L2.upd H p (.dK vs)) (up G p (.dK ps)):=by
 refine r.upd (bQ h) (λa o e ne=>by rw[aE ne]at e;exact e) λo e=> ?_
 rw[af]at e;cases e
 exact⟨vs,cG,d.keep (bQ h)⟩
theorem Rep.putD{G:Gp}{p:Addr}{vs vs0:List (Key×V)}{ps:List (Key×PV)}(r:Rep K H G)(h:H p=jW (.dK vs0))(d:DKv K H ps vs):Rep K (L2.upd H p (.dK vs)) (up G p (.dK ps)):=by
 refine r.upd (lc h) (λa o e ne=>by rw[aE ne]at e;exact e) λo e=> ?_
 rw[af]at e;cases e
 exact⟨vs,cG,d.keep (lc h)⟩
end
noncomputable abbrev Nm:E2:=λ_ G Q=>∀p,G p=none->Q (.ref p) (up G p (.dK []))
noncomputable def EY:yy:=λo i v G Q=>match o with
 | .ref a=>match G a,uM i with
  |some (.dK kvs),some k=>kvs.length<16000000/\Q (up G a (.dK (iE kvs k v)))
  |_,_=>False
 |_=>False
theorem qU{a:Addr}{G:Gp}{q v:PV}{kvs:List (Key×PV)}{k:Key}{Q:Gp->Prop}(h:G a=some (.dK kvs))(hk:uM q=some k)(hl:kvs.length<16000000)(hq:Q (up G a (.dK (iE kvs k v)))):EY (.ref a) q v G Q:=by
 unfold EY
 simp only[h,hk]
 exact⟨hl,hq⟩
section
variable{X:Cx}{pos p:Pos}
theorem Km:JE X (.Dict [] [] pos) Nm:= .of CU λσ H Q ⟨τ,G,Q2,rs,rp,q,cl⟩ p hp=>
 cl _ _ _ _ (q p (rp.none hp)) rfl (rp.newD hp rfl) (bQ hp)
theorem y4(hu:X.A.units+200<im):PSet X (uI X.K EY):=λpins s σ H o i v ov iv z Q I r1 r2 r3 q=>by
 obtain⟨po,pi,pv,G,Q2,d1,d2,d3,rp,q,cl⟩:=q
 unfold EY at q
 split at q
 ·rename_i a
  split at q
  ·rename_i kvs k eg ek
   obtain rfl:o= .ref a:=d1
   obtain rfl:=uL ek d2
   cases r1
   obtain⟨vs,hv,dv⟩:=rp.dK eg
   exact A4 (by ac_nf) I (DPut.k hv (by rw[dv.length,jz];ac_nf)) r2 r3 λs' I'=>⟨_,I',cl _ _ q.2 (rp.putD hv (dv.put d3)) (lc hv)⟩
  ·exact q.elim
 ·exact q.elim
end
section
end
noncomputable def jd:B2:=λp q G Q=>match p,q with
 | .tup [],.tup ys=>Q (.tup ys) G
 |p,q=>yw p q G Q
theorem vp{xs ys:List PV}{G:Gp}{Q:K2}(hl:xs.length+ys.length<=16000000)(q:Q (.tup (xs++ys)) G):jd (.tup xs) (.tup ys) G Q:=by
 cases xs with
 |nil=>exact q
 |cons x xs=>exact⟨by simp,hl,q⟩
theorem Hl{x y:Str}{G:Gp}{Q:K2}(hl:x.length+y.length<=16000000)(q:Q (.str (x++y)) G):jd (.str x) (.str y) G Q:=⟨hl,q⟩
theorem kg{x y:Int}{G:Gp}{Q:K2}(q:Q (.int (x+y)) G):jd (.int x) (.int y) G Q:=q
section
variable{X:Cx}{a b:Expr}{ta tb:E2}{pos:Pos}
theorem Jt:jl X (dO .Add) (ik X.K jd):=by
 intro pins s σ H x y v u Q I rx ry h
 obtain⟨p,q,G,Q2,d1,d2,rp,h,cl⟩:=h
 unfold jd at h
 split at h
 ·rename_i ys
  obtain⟨a,vs,rfl,sa,da⟩:=d1
  obtain⟨b,us,rfl,sb,db⟩:=d2
  obtain rfl:vs=[]:=da
  cases rx
  cases ry
  obtain⟨its,r1,p1,_⟩:=I.tuple sa
  obtain⟨its2,r2,p2,_⟩:=I.tuple sb
  obtain rfl:its=[]:=r1.nil_iff.mpr rfl
  obtain⟨⟨cls,dd,data,sl⟩,ho,hc,n,hd⟩:=id p1
  obtain⟨⟨cls2,dd2,data2,Bf⟩,ho2,hc2,n2,hd2⟩:=id p2
  simp only at hc hd hc2 hd2
  subst hc hd hc2 hd2
  exact PySem.concat_meets ⟨_,ho,rfl⟩ ⟨_,ho2,rfl⟩ PySem.noFill_tuple_add PySem.seq_tuple_add PySem.F.slot_tuple_add PySem.F.entry_tuple_add (PySem.F.args_tuple_add_2 _ _)
   (PyProof.Rows.tuple_addW0 a b _ _ n n2 dd dd2 sl Bf rfl) ⟨ho,ho2,.ref b,H,I,rfl,cl _ _ _ _ h ⟨b,us,rfl,sb,db⟩ rp .refl⟩
 ·exact HJ pins s σ H x y v u Q I rx ry ⟨p,q,G,Q2,d1,d2,rp,h,cl⟩
theorem GA(ha:JE X a ta)(hb:JE X b tb):JE X (.BinOp a .Add b pos) (iT jd ta tb):=ya Jt ha hb
end
end L3
namespace PySem
open PyProof.Rows (StrsAre)
theorem pz:∀{vs:List ae} {zs:List Str},vs.length=zs.length->(∀(j:Nat) (v:ae) (z:Str),vs[j]? =some v->zs[j]? =some z->∃t,v= .str z t)->StrsAre vs zs
 |[],[],_,_=> .nil
 |v::vs,z::zs,hl,h=>by
  obtain⟨t,rfl⟩:=h 0 v z rfl rfl
  exact .cons z t (pz (by simpa using hl) λj v z hv hz=>h (j+1) v z (by simpa using hv) (by simpa using hz))
 |[],_::_,h,_=>by simp at h
 |_::_,[],h,_=>by simp at h
section
variable{prog:aK}{w:aX}{A:Around}{E:ae->al->Prop}{s:al}{d:Addr}
theorem vg{Q:List ae->al->Prop}{kvs:List (L2.Key×ae)}{ep:Nat}{zs:List Str}(hh:A.handled=none)(hd:(d==eS)=false)(hm:s.heap.DictAt (L2.mixKind prog w) d kvs ep)(hz:kvs.map (·.1)=zs.map dG)(hn:kvs.length<=aQ)
  (hQ:∀(s':al) (acc:Array ae),(∀b o,s.heap.get? b=some o->s'.heap.get? b=some o)->s'.gens=s.gens->s'.os=s.os->StrsAre acc.toList zs->Q acc.toList s'):
  wpAny (aT prog w) A (collect (.ref d)) Q E s:=by
 have hTy:s.TypeIs (.ref d) "dict" :=hm.dictOf.typeIs
 have hlt:d<s.heap.objs.size:=by obtain⟨o,es,ho,_⟩:=hm;exact aF ho
 unfold collect
 refine aa (wpAny_runValue (codeAny_builtin F.entry_proto_collect ?_))
 rw[Around.under_plainId F.plain_proto_collect _]
 show wpAny _ A.in1 (newList []>>=λl=>again (.builtin "list.__iadd__" ⟨[l,.ref d],[]⟩)) _ _ s
 refine aa (bG ?_)
 refine ao ⟨plainId_quiet F.plain_list_iadd _,codeAny_builtin F.entry_list_iadd ?_⟩
 rw[Around.under_plainId F.plain_list_iadd _]
 have hne:s.heap.objs.size≠d:=iM hlt
 have h1:gh (.ref s.heap.objs.size) (.ref d)=false:=by simp[gh,hne]
 show wpAny _ A.in1 (cR (.ref s.heap.objs.size) (.ref d) (.ref s.heap.objs.size)) _ _ _
 unfold cR
 have hm1:(s.heap.push {cls:= .type "list",data:= .seq ([]:List ae).toArray}).DictAt (L2.mixKind prog w) d kvs ep:=hm.at' λo e=>aj _ e
 have hL1:(s.heap.push {cls:= .type "list",data:= .seq ([]:List ae).toArray}).get? s.heap.objs.size=some {cls:= .type "list",data:= .seq ([]:List ae).toArray}:=aJ _ rfl
 have kp1:∀b o,s.heap.get? b=some o->(s.heap.push {cls:= .type "list",data:= .seq ([]:List ae).toArray}).get? b=some o:=λb o q=>aj _ q
 have sz1:=cU s.heap {cls:= .type "list",data:= .seq ([]:List ae).toArray}
 generalize s.heap.push {cls:= .type "list",data:= .seq ([]:List ae).toArray}=g1 at hm1 hL1 kp1 sz1⊢
 have hT1:al.TypeIs {s with heap:=g1} (.ref d) "dict" :=hm1.dictOf.typeIs
 refine aa (gX hT1 ?_)
 rw[if_neg (by rw[h1];decide)]
 refine aa (uf (s:={s with heap:=g1}) hd hm1 ?_)
 have hm2:(g1.push {cls:= .type "dict_keyiterator",data:= .fields #[.ref d,.int 0 0,.int kvs.length 0,.int ep 0]}).DictAt (L2.mixKind prog w) d kvs ep:=hm1.at' λo e=>aj _ e
 have hI:(g1.push {cls:= .type "dict_keyiterator",data:= .fields #[.ref d,.int 0 0,.int kvs.length 0,.int ep 0]}).IsKeyIter g1.objs.size d 0 kvs.length ep:=⟨_,aJ _ rfl,rfl,rfl⟩
 have kp2:∀b o,g1.get? b=some o->(g1.push {cls:= .type "dict_keyiterator",data:= .fields #[.ref d,.int 0 0,.int kvs.length 0,.int ep 0]}).get? b=some o:=λb o q=>aj _ q
 generalize g1.push {cls:= .type "dict_keyiterator",data:= .fields #[.ref d,.int 0 0,.int kvs.length 0,.int ep 0]}=g2 at hm2 hI kp2⊢
 refine aa (cJ ?_)
 unfold pq
 have hT2:al.TypeIs {s with heap:=g2} (.ref d) "dict" :=hm2.dictOf.typeIs
 refine aa (wpAny_specialOf hT2 F.slot_dict_len.lookup ?_)
 wp_delta
 refine aa (lU (T:= "dict") (v:= .ref d) (b:=true) hT2 (by rw[isSubtype_type];kernel_rfl) ?_)
 show wpAny _ A.in1 (typeOf (aH d)>>=_) _ _ _
 refine aa (gX hT2 ?_)
 refine ao ?_
 have nI:d≠g1.objs.size:=aS (by rw[sz1];exact dj hlt)
 have nL:s.heap.objs.size≠g1.objs.size:=by rw[sz1];exact aS (fL _)
 have hSf:s.heap.objs.size∉[g1.objs.size,d]:=by
  simp only[aI,bF,or_false,not_or]
  exact⟨nL,hne⟩
 show wpAny _ A.in1 (rule "list.extend.makes-room" >>=λ_=>cw.List.listTouch (.ref s.heap.objs.size)>>=λ_=>
  again (.builtin "list.extend.loop" ⟨[.ref s.heap.objs.size,.ref g1.objs.size,.ref s.heap.objs.size],[]⟩)) _ _ _
 refine aa (iB ?_)
 refine aa ?_
 show wpAny _ A.in1 (updateSeq s.heap.objs.size (·.push .none)>>=λ_=>updateSeq s.heap.objs.size (·.pop)) _ _ _
 have hL2:=kp2 _ _ hL1
 refine aa (iu (s:={s with heap:=g2}) hL2 rfl ?_)
 have hL3:=dH (c9 (·.push bA)) hL2 rfl
 refine iu (hz:=by seq_fits) hL3 rfl ?_
 have hL4:=dH (c9 (·.pop)) hL3 rfl
 have oth:∀b o,b≠s.heap.objs.size->g2.get? b=some o->((g2.update s.heap.objs.size (c9 (·.push bA))).update s.heap.objs.size (c9 (·.pop))).get? b=some o:=
  λb o hb e=>(ck _ _ (aG hb)).trans ((ck _ _ (aG hb)).trans e)
 have hh1:A.in1.handled=none:=by simp[hh]
 have W:=(Walks.dictKeys (prog:=prog) (w:=w) (knd:=L2.mixKind prog w) hh1 g1.objs.size d nI kvs ep).toS
 refine ao ⟨plainId_quiet F.plain_extend_loop _,codeAny_extend_loopS W hn _ hSf _ kvs.length 0 _ _ _ rfl (bn _)
  (W.frame 0 {s with heap:=g2} _ s.toks ⟨hI,hm2⟩ (am _) λb hb o e=>oth b o (λh=>hSf (h▸hb)) e) hL4 (ItemsOf.nil _) λs' acc' c' hmv hS'' hacc=> ?_⟩
 show wpAny _ A (load s.heap.objs.size>>=_) _ _ s'
 refine aa (wpAny_load hS'' ?_)
 have hzl:zs.length=kvs.length:=by
  have:=congrArg ib hz
  simpa using this.symm
 refine ao (hQ s' acc' (λb o e=> ?_) hmv.gens hmv.os (pz (by rw[br,hacc.1,hzl]) λj v z hv hzz=> ?_))
 ·have hbl:b<s.heap.objs.size:=aF e
  refine hmv.heap b o ?_ (oth b o (aS hbl) (kp2 b o (kp1 b o e)))
  simp only[aI,bF,or_false,not_or]
  exact⟨aS hbl,aS (by rw[sz1];exact dj hbl)⟩
 ·obtain⟨k,x,hkx,hkv⟩:=hacc.2 j v (by rw[<-lC];exact hv)
  have e1:(kvs.map (·.1))[j]? =some k:=by rw[aC,hkx];rfl
  rw[hz,aC,hzz]at e1
  obtain rfl:dG z=k:=by simpa using e1
  have hkv':og z v=true:=hkv
  cases v with
  |str y t=>
   have:y=z:=beq_iff_eq.mp hkv'
   subst this
   exact⟨t,rfl⟩
  |_=>simp[og]at hkv'
end
end PySem
namespace L3
open PySem L2
theorem FZ{a b:Nat}:PySem.Spec.ltCps [a] [b]=decide (a<b):=by
 rw[PyProof.Rows.ltCps_eq]
 by_cases h:a<b
 ·rw[decide_eq_true h]
  exact decide_eq_true (List.Lex.rel h)
 ·rw[decide_eq_false h]
  refine decide_eq_false λhl=> ?_
  cases hl with
  |rel h'=>exact h h'
  |cons h'=>cases h'
theorem v8:∀{cs:List Nat} {a:Nat},PyProof.Rows.risingS (eM a) (cs.map eM)=true->(a::cs).Nodup->(a::cs).Pairwise (· <·)
 |[],a,_,_=>by simp
 |b::cs,a,h,hn=>by
  have h':(!PySem.Spec.ltCps [b] [a]&&PyProof.Rows.risingS (eM b) (cs.map eM))=true:=h
  rw[bC,FZ]at h'
  have hab:a<b:=by
   have h1:¬b<a:=by simpa using h'.1
   have h2:a≠b:=by
    have:=(bi.mp hn).1
    intro e;subst e;simp at this
   ac_nf
  have ih:=v8 h'.2 (bi.mp hn).2
  refine List.pairwise_cons.mpr ⟨λc hc=> ?_,ih⟩
  rcases aI.mp hc with rfl|hc
  ·exact hab
  ·have:=(List.pairwise_cons.mp ih).1 c hc
   ac_nf
theorem xE{cs:List Nat}(h:PyProof.Rows.sortedS (cs.map eM)=true)(hn:cs.Nodup):cs.Pairwise (· <·):=by
 cases cs with
 |nil=>simp
 |cons a l=>exact v8 h hn
theorem FC{ss:List Str}(h:∀z∈ss,∃c,z=eM c):∃cs:List Nat,ss=cs.map eM:=by
 induction ss with
 |nil=>exact⟨[],rfl⟩
 |cons z ss ih=>
  obtain⟨c,rfl⟩:=h z (by simp)
  obtain⟨cs,rfl⟩:=ih λy hy=>h y (by simp[hy])
  exact⟨c::cs,rfl⟩
theorem wc{a b:Nat}(h:eM a=eM b):a=b:=by
 have:=congrArg (λz:Str=>z.cps.getD 0 0) h
 exact this
theorem xR{cs:List Nat}(h:(cs.map eM).Nodup):cs.Nodup:=by
 induction cs with
 |nil=>exact .nil
 |cons a l ih=>
  rw[aw,bi]at h
  exact bi.mpr ⟨λha=>h.1 (av.mpr ⟨a,ha,rfl⟩),ih h.2⟩
theorem lF{α:Type}[DecidableEq α]:∀{a b:List α},a.Nodup->(∀x∈a,x∈b)->a.length<=b.length
 |[],_,_,_=>bn _
 |x::a,b,hn,h=>by
  obtain⟨h1,h2⟩:=bi.mp hn
  have hx:=h x (by simp)
  have ih:=lF (a:=a) (b:=b.erase x) h2 λy hy=>by
   have hne:y≠x:=λe=>by subst e;exact h1 hy
   exact(List.mem_erase_of_ne hne).mpr (h y (by simp[hy]))
  rw[List.length_erase_of_mem hx]at ih
  have:0<b.length:=List.length_pos_of_mem hx
  rw[aM]
  ac_nf
theorem nq{α β:Type}{f:α->β}:∀{l:List α},(l.map f).Nodup->l.Nodup
 |[],_=> .nil
 |a::l,h=>by
  rw[aw,bi]at h
  exact bi.mpr ⟨λha=>h.1 (av.mpr ⟨a,ha,rfl⟩),nq h.2⟩
theorem Ge{kvs:List (Key×V)}{vs:List (Key×ae)}(h:KV kvs vs):vs.map (·.1)=kvs.map (·.1):=by
 induction h with
 |nil=>rfl
 |cons h _ ih=>rw[aw,aw,ih,h.1]
theorem wK{K:PySem.W.Frag}{H:Hp}:∀{ps:List (Key×PV)} {vs:List (Key×V)},DKv K H ps vs->vs.map (·.1)=ps.map (·.1)
 |[],vs,h=>by obtain rfl:vs=[]:=h;rfl
 |(x,p)::ps,vs,h=>by
  obtain⟨v,r,rfl,d,z⟩:=h
  rw[aw,aw,wK z]
noncomputable def iD:C2:=λps G Q=>match ps with
 |[.ref a]=>match G a with
  |some (.dK kvs)=>kvs.length<64/\(∀kv∈kvs,∃c,kv.1=dG (eM c))/\∀(cs:List Nat) c,cs.Pairwise (· <·)->(∀x,x∈cs↔dG (eM x)∈kvs.map (·.1))->G c=none->Q (.ref c) (up G c (.lst (cs.map λc=> .str (eM c))))
  |_=>False
 |_=>False
section
variable{X:Cx}{e:Expr}
theorem xF{pins:List (Addr×Obj)}{σ:L2.St}{H:Hp}{s s':al}{l:Addr}{out:Array ae}{cs:List Nat}{ev:Nat}{G:Gp}{Q:VK}{Q2:K2}{H0:Hp}(I:L2.Inv X pins σ H s)(hk:∀b o,s.heap.get? b=some o->s'.heap.get? b=some o)(hg:s'.gens=s.gens)(ho:s'.os=s.os)
  (hn:s.heap.get? l=none) (he:s'.heap.get? l=some (PyProof.Rows.seqObj "list" out ev)) (hs:PyProof.Rows.StrsAre out.toList (cs.map eM)) (hl:cs.length<64) (rp:Rep X.K H G) (cl:Cl X.K H0 Q2 Q) (k0:Keep X.K H0 H)
  (h:G l=none->Q2 (.ref l) (up G l (.lst (cs.map λc=> .str (eM c))))):EP X pins σ Q (.ref l) s':=by
 have hHl:H l=none:=I.hok.none_of hn
 obtain⟨hp',g',d',t',o'⟩:=s'
 obtain rfl:g'=s.gens:=hg
 obtain rfl:o'=s.os:=ho
 have e1:(cs.map eM).map V.str=cs.map λc=>V.str (eM c):=by rw[bp];rfl
 have e2:(cs.map eM).map PV.str=cs.map λc=>PV.str (eM c):=by rw[bp];rfl
 refine⟨.ref l,upd H l (.lst ((cs.map eM).map V.str)),I.call (ch:=[]) (Un.laidN hk hn hHl) (I.hok.laidN hk hHl ?_) I.bare (λb z=>absurd z (by simp)),rfl,cl _ _ _ _ (h (rp.none hHl)) rfl ?_ (k0.trans (bQ hHl))⟩
 ·exact⟨by rw[ai,ai];exact big (by ac_nf),out.toList,ev,Aa hs,by simpa using he⟩
 ·rw[<-e2]
  exact rp.new hHl (BU _)
theorem vk(hc:X.calm=true):hV X (.builtin "sorted") (pT X.K iD):=by
 intro pins s σ H xs us Q I rs h
 obtain⟨ps,G,Q2,d,rp,h,cl⟩:=h
 unfold iD at h
 split at h
 ·rename_i a
  split at h
  ·rename_i kvs eg
   obtain⟨h64,hall,h⟩:=h
   obtain⟨v,rfl,dv⟩:=fC d
   obtain rfl:v= .ref a:=dv
   obtain⟨u,rfl,ru⟩:=rs.one
   cases ru
   obtain⟨vs,hv,dvs⟩:=rp.dK eg
   obtain⟨hz,hsys,ws,kv,dd⟩:=(show ObjOk X.prog X.w H s.heap a (.dK vs)from I.hok a _ hv)
   obtain⟨o,es,ep,ho,hex,hdat,hkeys,hpairs,hnd⟩:=id dd
   have hkeys1:ws.map (·.1)=kvs.map (·.1):=by
    rw[Ge kv]
    exact wK dvs
   obtain⟨cs0,e0⟩:∃cs0:List Nat,kvs.map (·.1)=(cs0.map eM).map dG:=by
    clear h eg dvs hkeys1
    induction kvs with
    |nil=>exact⟨[],rfl⟩
    |cons p l ih=>
     obtain⟨c,hc'⟩:=hall p (by simp)
     obtain⟨cs,hcs⟩:=ih (by simp at h64;ac_nf) λq hq=>hall q (by simp[hq])
     exact⟨c::cs,by rw[aw,hc',hcs];rfl⟩
   have hlk:cs0.length=kvs.length:=by
    have:=congrArg ib e0
    simpa using this.symm
   have hlw:ws.length=kvs.length:=by
    have:=congrArg ib hkeys1
    simpa using this
   have hnd0:(cs0.map eM).Nodup:=by
    rw[hkeys1,e0]at hnd
    exact nq hnd
   have hda:s.heap.DictAt (mixKind X.prog X.w) a ws ep:=⟨o,es,ho,hex,hdat,hkeys,hpairs,hnd⟩
   refine Ak (ks:=cs0.map eM) (.ref a) (λR hR=>vg (zs:=cs0.map eM) (by simp[I.ok.hd hc]) hsys hda (by rw[hkeys1,e0]) (by rw[hlw];exact big (by ac_nf)) λs' acc k g o hst=>hR s' acc _ k g o hst (.refl _)) (by rw[ai];ac_nf) λs' l out ss ev hk hg' ho' hn' he' hst hp hsrt=> ?_
   obtain⟨cs,rfl⟩:=FC (ss:=ss) λy hy=>by
    obtain⟨c,_,e⟩:=av.mp (hp.mem_iff.mp hy)
    exact⟨c,e.symm⟩
   have hlen2:cs.length<64:=by
    have:=hp.length_eq
    rw[ai,ai]at this
    ac_nf
   refine xF I hk hg' ho' hn' he' hst hlen2 rp cl .refl λhGl=>h cs l (xE hsrt (xR (hp.nodup_iff.mpr hnd0))) (λx=> ?_) hGl
   rw[e0]
   constructor
   ·intro hx
    exact av.mpr ⟨eM x,hp.mem_iff.mp (av.mpr ⟨x,hx,rfl⟩),rfl⟩
   ·intro hx
    obtain⟨y,hy,ey⟩:=av.mp hx
    have:y=eM x:=by simpa using ey
    subst this
    obtain⟨c,hc',ec⟩:=av.mp (hp.mem_iff.mpr hy)
    rw[<-wc ec]
    exact hc'
  ·exact h.elim
 ·exact h.elim
theorem sk{es:List Expr}{t:A2}{p pos:Pos}(B:BN X.mg)(hc:X.calm=true)(ha:JA X (e::es) t)(hg:Gl X "sorted" :=by rfl)(he:aB (e::es) X.env=(false,eval e X.env)::aB es X.env:=by rfl)(hpl:(ce pos (aB es X.env)).any (·.1)=false:=by rfl):JE X (.Call (.Name "sorted" p) (e::es) [] pos) (tJ iD t):=lf (vk hc) B.sorted wV ha hg (by decide) (by decide) he hpl
end
end L3
namespace L2
open PySem PySem.Spec PyProof.Rows
theorem MZ(h:Heap):∀S:List Addr,∃b:Heap,(∀a∈S,b.get? a=none)/\∀a,a∉S->b.get? a=h.get? a
 |[]=>⟨h,by simp,λ_ _=>rfl⟩
 |x::S=>by
  obtain⟨b,h1,h2⟩:=MZ h S
  refine⟨b.update x λo=>{o with data:= .freed},λa ha=> ?_,λa ha=> ?_⟩
  ·by_cases e:x=a
   ·subst e
    cases hq:(b.update x λo=>{o with data:= .freed}).get? x with
    |none=>rfl
    |some o=>
     obtain⟨e1,e2⟩:=Heap.get?_some_iff.mp hq
     obtain⟨objs,l⟩:=b
     have e3:(objs.modify x λo=>{o with data:= .freed})[x]? =some o:=e1
     rw[Array.getElem?_modify,if_pos rfl]at e3
     cases hx:objs[x]? with
     |none=>rw[hx]at e3;cases e3
     |some u=>
      rw[hx]at e3
      cases e3
      cases e2
   ·rw[ck _ _ e]
    exact h1 a ((aI.mp ha).resolve_left (aG e))
  ·rw[ck _ _ λe=>ha (by simp[e])]
   exact h2 a λhm=>ha (by simp[hm])
noncomputable def XTr(h:Heap)(e T:Addr)(cls:ae):Prop:=∃oe vs oT ts,h.get? e=some oe/\oe.cls=cls/\oe.data= .fields vs/\vs[1]? =some (.ref T)/\T≠e/\h.get? T=some oT/\oT.data= .fields ts/\ts[3]? =some .none
section
end
noncomputable def CX1(P:aK)(w:aX)(C:Addr):Bi:=λouter H s E e s'=>∃x T H',e= .ref x/\XTr s'.heap x T (.ref C)/\s.heap.get? x=none/\s.heap.get? T=none/\H' x=none/\H' T=none/\s'.os=s.os/\lm s'.gens/\
 Un (xc outer) [] H H' s.heap s'.heap/\HOk P w H' s'.heap/\E (.ref C) none H'
section
end
section
end
section
end
section
end
end L2
namespace L3
open PySem L2 PySem.Spec PyProof.Rows
noncomputable abbrev OR:=List PV->Gp->K2->(Gp->Prop)->Prop
noncomputable def spX(K:PySem.W.Frag)(C:Addr)(sp:OR):Sp:=λvs H Q E=>∃ps G Q2 EX,Dvs K H ps vs/\Rep K H G/\sp ps G Q2 EX/\Cl K H Q2 Q/\∀G' H',EX G'->Rep K H' G'->E (.ref C) none H'
noncomputable abbrev OkX(P:aK)(w:aX)(K:PySem.W.Frag)(mg:Str->Option ae)(base:Heap)(C:Addr)(k:Nat)(f:Addr)(fd:a8)(ps:List Str)(sp:OR):Prop:=FnOk P w K mg base (CX1 P w C) k f fd ps (spX K C sp)
section
end
section
end
section
variable{K:PySem.W.Frag}{H:Hp}{G:Gp}{p C dx:Addr}
theorem rO:∀{fs:List (Str×PV)} {vs:List (Str×V)} {f:Str} {q:PV},DFv K H fs vs->fs.lookup f=some q->∃v,vs.lookup f=some v/\Dv K H q v
 |[],_,_,_,_,e=>by cases e
 |(k,q0)::fs,vs,f,q,h,e=>by
  obtain⟨v,r,rfl,d,z⟩:=h
  rw[fG]at e⊢
  cases hk:(f==k)with
  |true=>rw[hk]at e;cases e;exact⟨v,rfl,d⟩
  |false=>rw[hk]at e;exact rO z e
theorem rN:∀{fs:List (Str×PV)} {vs:List (Str×V)} {f:Str},DFv K H fs vs->fs.lookup f=none->vs.lookup f=none
 |[],_,_,h,_=>by rw[show _=[]from h];rfl
 |(k,q0)::fs,vs,f,h,e=>by
  obtain⟨v,r,rfl,d,z⟩:=h
  rw[fG]at e⊢
  cases hk:(f==k)with
  |true=>rw[hk]at e;cases e
  |false=>rw[hk]at e;exact rN z e
theorem ve:∀{fs:List (Str×PV)} {vs:List (Str×V)},DFv K H fs vs->vs.length=fs.length
 |[],_,h=>by rw[show _=[]from h];rfl
 |(k,q0)::fs,vs,h=>by
  obtain⟨v,r,rfl,d,z⟩:=h
  rw[aM,aM,ve z]
theorem nA{vs:List (Str×V)}{o:HO}(h:H p=some (.ins C dx vs)):Keep K H (L2.upd H p o):=nz (λxs q=>by rcases q with q|⟨_,q⟩<;>(rw[h]at q;cases q)) λo u q=>by rw[h]at q;cases q
theorem Rep.putI{vs vs0:List (Str×V)}{fs:List (Str×PV)}(r:Rep K H G)(h:H p=some (.ins C dx vs0))(d:DFv K H fs vs):Rep K (L2.upd H p (.ins C dx vs)) (up G p (.ins C dx fs)):=by
 refine r.upd (nA h) (λa o e ne=>by rw[aE ne]at e;exact e) λo e=> ?_
 rw[af]at e;cases e
 exact⟨vs,cG,DFv.keep (nA h) _ d⟩
end
noncomputable def GT(C:Addr)(f:Str)(x:PV)(G:Gp)(Q:K2):Prop:=match x with
 | .ref a=>match G a with
  |some (.ins C' _ fs)=>C'=C/\match fs.lookup f with
   |some q=>Q q G
   |none=>False
  |_=>False
 |_=>False
theorem cI{C a dx:Addr}{f:Str}{G:Gp}{Q:K2}{fs:List (Str×PV)}{q:PV}(h:G a=some (.ins C dx fs))(e:fs.lookup f=some q)(hq:Q q G):GT C f (.ref a) G Q:=by
 unfold GT;simp only[h,e];exact⟨trivial,hq⟩
noncomputable abbrev Nk(C:Addr)(t:E2)(f:Str):E2:=λτ G Q=>t τ G λx G1=>GT C f x G1 Q
theorem HN{X:Cx}{C:Addr}{e:Expr}{f:Str}{t:E2}{pos:Pos}(c:Cls X.K C)(n:NoAttr X.K C f)(he:JE X e t)(hb:cz e f X.env (eval e X.env)=eval e X.env:=by rfl):JE X (.Attribute e f pos) (Nk C t f):=
 .of (Jb he.h hb) λσ H Q hPl=>by
  obtain⟨τ,G,Q2,rs,rp,q,cl⟩:=hPl
  refine⟨τ,G,_,rs,rp,q,λp G1 v H1 q1 d1 r1 k1=> ?_⟩
  unfold GT at q1
  split at q1
  ·rename_i a
   split at q1
   ·rename_i C' dx fs hG
    obtain⟨rfl,q1⟩:=q1
    split at q1
    ·rename_i y hl
     obtain rfl:v= .ref a:=d1
     obtain⟨vs,hH,df⟩:=r1 a _ hG
     obtain⟨w',hw,dw⟩:=rO df hl
     exact⟨a,_,dx,vs,w',rfl,hH,c,n,hw,cl _ _ _ _ q1 dw r1 k1⟩
    ·exact q1.elim
   ·exact q1.elim
  ·exact q1.elim
noncomputable def i9(f:Str)(v:PV):List (Str×PV)->List (Str×PV)
 |[]=>[(f,v)]
 |(g,x)::r=>if g=f then(g,v)::r else(g,x)::i9 f v r
theorem vd{K:PySem.W.Frag}{H:Hp}{f:Str}{q:PV}{v:V}(d:Dv K H q v):∀{fs:List (Str×PV)} {vs:List (Str×V)},DFv K H fs vs->DFv K H (i9 f q fs) (jC f v vs)
 |[],_,h=>by rw[show _=[]from h];exact⟨v,[],rfl,d,rfl⟩
 |(k,q0)::fs,vs,h=>by
  obtain⟨v0,r,rfl,d0,z⟩:=h
  unfold i9 jC
  by_cases hk:k=f
  ·rw[if_pos hk,if_pos hk];exact⟨v,r,rfl,d,z⟩
  ·rw[if_neg hk,if_neg hk];exact⟨v0,_,rfl,d0,vd d z⟩
noncomputable def y6(C:Addr)(f:Str)(x y:PV)(G:Gp)(Q:Gp->Prop):Prop:=match x with
 | .ref a=>match G a with
  |some (.ins C' dx fs)=>C'=C/\fs.length<1000/\Q (up G a (.ins C dx (i9 f y fs)))
  |_=>False
 |_=>False
theorem jB{C a dx:Addr}{f:Str}{G:Gp}{Q:Gp->Prop}{fs:List (Str×PV)}{y:PV}(h:G a=some (.ins C dx fs))(hl:fs.length<1000)(hq:Q (up G a (.ins C dx (i9 f y fs)))):y6 C f (.ref a) y G Q:=by
 unfold y6;simp only[h];exact⟨trivial,hl,hq⟩
noncomputable abbrev Lz(C:Addr)(ta tv:E2)(f:Str):S2:=λD τ G=>tv τ G λy G1=>ta τ G1 λx G2=>y6 C f x y G2 λG3=>D.nx τ G3
theorem JU{X:Cx}{C:Addr}{o value:Expr}{f:Str}{ta tv:E2}{pos pos':Pos}(c:Cls X.K C)(n:NoAttr X.K C f)(ha:JE X o ta)(hv:JE X value tv)(hs:jh value (some (.Attribute o f pos')) pos.line X.env=pure false:=by rfl):
  JS X (.Assign [.Attribute o f pos'] value pos) (Lz C ta tv f):= .of (IN ha.h hv.h hs) λD σ H ⟨τ,G,D2,rs,rp,q,cl⟩=>by
 refine⟨τ,G,_,rs,rp,q,λy G1 v H1 q1 d1 r1 k1=>⟨τ,G1,_,rs.keep k1,r1,q1,λx G2 u H2 q2 d2 r2 k2=> ?_⟩⟩
 unfold y6 at q2
 split at q2
 ·rename_i a
  split at q2
  ·rename_i C' dx fs hG
   obtain⟨rfl,hl,q2⟩:=q2
   obtain rfl:u= .ref a:=d2
   obtain⟨vs,hH,df⟩:=r2 a _ hG
   have kk:Keep X.K H2 (L2.upd H2 a (.ins C' dx (jC f v vs))):=nA hH
   refine⟨a,_,dx,vs,rfl,hH,c,n,by rw[ve df];exact hl,cl.nx _ _ _ _ q2 (rs.keep ((k1.trans k2).trans kk)) (r2.putI hH (vd (d1.keep k2) df)) ((k1.trans k2).trans kk)⟩
  ·exact q2.elim
 ·exact q2.elim
noncomputable def tT(C:Addr)(f:Str)(x:PV)(tv:E2)(τ:je)(G:Gp)(Q:Gp->Prop):Prop:=match x with
 | .ref a=>match G a with
  |some (.ins C' _ fs)=>C'=C/\match fs.lookup f with
   |some (.int i)=>tv τ G λy G1=>match y with
    | .int j=>match G1 a with
     |some (.ins C'' dx' fs')=>C''=C/\fs'.length<1000/\Q (up G1 a (.ins C dx' (i9 f (.int (i+j)) fs')))
     |_=>False
    |_=>False
   |_=>False
  |_=>False
 |_=>False
noncomputable abbrev vZ(C:Addr)(ta tv:E2)(f:Str):S2:=λD τ G=>ta τ G λx G1=>tT C f x tv τ G1 λG3=>D.nx τ G3
theorem tE{X:Cx}{C:Addr}{o value:Expr}{f:Str}{ta tv:E2}{pos tpos:Pos}(c:Cls X.K C)(n:NoAttr X.K C f)(ha:JE X o ta)(hv:JE X value tv):
  JS X (.AugAssign (.Attribute o f tpos) .Add value pos) (vZ C ta tv f):= .of (Aq ha.h hv.h Kv) λD σ H ⟨τ,G,D2,rs,rp,q,cl⟩=>by
 refine⟨τ,G,_,rs,rp,q,λx G1 u H1 q1 d1 r1 k1=> ?_⟩
 unfold tT at q1
 split at q1
 ·rename_i a
  split at q1
  ·rename_i C' dx fs hG
   obtain⟨rfl,q1⟩:=q1
   split at q1
   ·rename_i i hl
    obtain rfl:u= .ref a:=d1
    obtain⟨vs,hH,df⟩:=r1 a _ hG
    obtain⟨w',hw,dw⟩:=rO df hl
    obtain rfl:w'= .int i:=dw
    refine⟨a,_,dx,vs,_,rfl,hH,c,n,hw,τ,G1,_,rs.keep k1,r1,q1,λy G2 v H2 q2 d2 r2 k2=> ?_⟩
    split at q2
    ·rename_i j
     split at q2
     ·rename_i C'' dx' fs' hG2
      obtain⟨rfl,hl2,q2⟩:=q2
      obtain rfl:v= .int j:=d2
      obtain⟨vs2,hH2,df2⟩:=r2 a _ hG2
      have kk:Keep X.K H2 (L2.upd H2 a (.ins C'' dx' (jC f (.int (i+j)) vs2))):=nA hH2
      exact⟨i,j,rfl,rfl,dx',vs2,hH2,by rw[ve df2];exact hl2,cl.nx _ _ _ _ q2 (rs.keep ((k1.trans k2).trans kk)) (r2.putI hH2 (vd (q:= .int (i+j)) rfl df2)) ((k1.trans k2).trans kk)⟩
     ·exact q2.elim
    ·exact q2.elim
   ·exact q1.elim
  ·exact q1.elim
 ·exact q1.elim
noncomputable def isI(C:Addr)(m:Str)(x:PV)(G:Gp):Prop:=∃a dx fs,x= .ref a/\G a=some (.ins C dx fs)/\fs.lookup m=none
structure MetX(P:aK)(w:aX)(K:PySem.W.Frag)(mg:Str->Option ae)(base:Heap)(D C:Addr)(k:Nat)(m:Str)(f:Addr)(fd:a8)(ps:List Str)(sp:OR):Prop where
 ok:OkX P w K mg base D k f fd ps sp
 b:Binds K fd ps []
 c:Cls K C
 m:jo K C m f
structure fq(P:aK)(w:aX)(K:PySem.W.Frag)(mg:Str->Option ae)(base:Heap)(C:Addr)(k:Nat)(m:Str)(f:Addr)(fd:a8)(ps:List Str)(sp:hX):Prop where
 ok:iL P w K mg base k f fd ps sp
 b:Binds K fd ps []
 c:Cls K C
 m:jo K C m f
noncomputable abbrev Ni(C:Addr)(m:Str)(sp:hX)(to:E2)(t:A2):E2:=λτ G Q=>to τ G λx G1=>isI C m x G1/\t τ G1 λps G2=>sp (x::ps) G2 Q
section
end
section
variable{X:Cx}{C:Addr}{k k':Nat}{m x:Str}{f':Addr}{fd:a8}{ps:List Str}{o e:Expr}{es:List Expr}{to:E2}{t:A2}{pos apos p:Pos}{pl:Sem Bool}
theorem Kh{sp:hX}(M:fq X.prog X.w X.K X.mg X.base C k m f' fd ps sp)(hr:Room k' X.A)(hk:k<=k')(ho:JE X o to)
  (ht:eval (.Call (.Attribute o m apos) [] [] pos) X.env=(do
   let ov <-eval o X.env
   standAt apos.atName
   let(fv,first) <-holding [ov] (getMethod ov m pl)
   callWith pos fv first (ce pos (aB [] X.env)) (io pos (eK [] X.env))):=by rfl):
  JE X (.Call (.Attribute o m apos) [] [] pos) (λτ G Q=>to τ G λx G1=>isI C m x G1/\sp [x] G1 Q):=
 .of (CJ (pl:=pl) ho.h M.c M.m (M.ok.mono hk) hr M.b .nil zw ht) λσ H1 Q q=>by
  obtain⟨τ,G,Q2,rs,rp,q,cl⟩:=q
  refine⟨τ,G,_,rs,rp,q,λx G1 v H2 q1 d1 r1 k1=> ?_⟩
  obtain⟨⟨a,dx,fs,rfl,hG,hl⟩,q1⟩:=q1
  obtain rfl:v= .ref a:=d1
  obtain⟨vs,hH,df⟩:=r1 a _ hG
  exact⟨a,dx,vs,rfl,hH,rN df hl,[.ref a],G1,Q2,⟨.ref a,[],rfl,rfl,rfl⟩,r1,q1,cl.keep k1⟩
noncomputable abbrev HV(C:Addr)(sp:hX)(t:A2):E2:=λτ G Q=>t τ G λps G1=>∀x dx,G1 x=none->G1 dx=none->dx≠x->sp (.ref x::ps) (up G1 x (.ins C dx [])) λv G2=>v= .non/\Q (.ref x) G2
theorem DM{sp:hX}(M:Mk X.K C f')(ok:iL X.prog X.w X.K X.mg X.base k f' fd ps sp)(hb:Binds X.K fd ps [])(hr:Room k' X.A)(hk:k+1<=k')(hm:X.mg x=some (.ref C))(ha:JA X (e::es) t)(hg:Gl X x:=by rfl)
  (hdb:(x==("__debug__" :Str))=false:=by decide) (he:aB (e::es) X.env=(false,eval e X.env)::aB es X.env:=by rfl) (hpl:(ce pos (aB es X.env)).any (·.1)=false:=by rfl):
  JE X (.Call (.Name x p) (e::es) [] pos) (HV C sp t):= .of (Fq M ok (hr.mono hk) hg hm hb .nil zw ha.h hdb he hpl) λσ H Q q=>by
 obtain⟨τ,G,Q2,rs,rp,q,cl⟩:=q
 refine⟨τ,G,_,rs,rp,q,λps G1 vs H1 q1 d1 r1 k1=>λa dx ha hdx ne=> ?_⟩
 have k2:Keep X.K H1 (L2.upd H1 dx (.own a)):=bQ hdx
 have ha':L2.upd H1 dx (.own a) a=none:=by rw[bH (aG ne)];exact ha
 have k3:Keep X.K (L2.upd H1 dx (.own a)) (L2.upd (L2.upd H1 dx (.own a)) a (.ins C dx [])):=bQ ha'
 have rp2:Rep X.K (L2.upd H1 dx (.own a)) G1:=r1.upd k2 (λ_ _ e _=>e) λo e=>by rw[r1.none hdx]at e;cases e
 have rp3:Rep X.K (L2.upd (L2.upd H1 dx (.own a)) a (.ins C dx [])) (up G1 a (.ins C dx [])):=by
  refine rp2.upd k3 (λb o e ne=>by rw[aE ne]at e;exact e) λo e=> ?_
  rw[af]at e;cases e
  exact⟨[],cG,rfl⟩
 show Hv X.K sp (.ref a::(vs++[])) _ _ _
 rw[cr]
 refine⟨.ref a::ps,_,_,⟨.ref a,vs,rfl,rfl,d1.keep (k2.trans k3)⟩,rp3,q1 a dx (r1.none ha) (r1.none hdx) ne,λv G2 u H2 q2 d2 r2 k4=> ?_⟩
 obtain⟨rfl,q2⟩:=q2
 exact⟨d2,cl _ _ _ _ q2 rfl r2 (((k1.trans k2).trans k3).trans k4)⟩
end
end L3
namespace L2
open PySem PySem.Spec PyProof.Rows
section
end
section
end
section
end
end L2
namespace L3
open PySem L2 PySem.Spec PyProof.Rows
section
end
section
end
section
end
end L3
namespace L2
open PySem PySem.Spec PyProof.Rows
theorem qE{prog:aK}{w:aX}{A:Around}{E:ae->al->Prop}{s:al}{t:Addr}{items:Array ae}{Q:Bool->al->Prop}(ht:IsTup s.heap t items)(h:Q true s):wpAny (aT prog w) A (pj (.ref t)) Q E s:=by
 unfold pj
 exact aa (gX ht.typeIs (ao h))
theorem lx{prog:aK}{w:aX}{A:Around}{E:ae->al->Prop}{s:al}{t sl:Addr}{items:Array ae}{vl vu:ae}{lo hi:Option Int}{Q:ae->al->Prop}(ht:IsTup s.heap t items)(hs:s.heap.IsSliceOf sl vl vu .none)(pl:IsPart vl lo)(pu:IsPart vu hi)
  (hw:HT.sIx items.size 0 lo=0/\HT.sIx items.size items.size hi=items.size) (h:Q (.ref t) s):wpAny (aT prog w) A (iS (.ref t) (.ref sl)) Q E s:=by
 obtain⟨os,hos,hcs,hds⟩:=id hs
 have hTs:s.TypeIs (.ref sl) "slice" :=⟨os,hos,hcs⟩
 unfold iS
 try with_reducible refine cJ ?_
 first|refine aa (ao ?_)|skip
 refine aa (ud ht.typeIs (by decide) ?_)
 refine aa (cH (name:=aD "__getitem__") ht.typeIs bw
  (cZ bw ht.typeIs rL ?_ (su _ _)))
 show wpAny _ _ (iP (.ref t)>>=_) _ _ s
 refine aa (tupleItemsOf_ ht ?_)
 refine aa (gX hTs ?_)
 rw[if_pos (by decide)]
 refine aa (HT.sliceApplied_gen hs pl pu ?_)
 have hyes:(((HT.sIx items.size 0 lo:Nat):Int)==0&&(1:Int)==1&&(HT.sIx items.size items.size hi-HT.sIx items.size 0 lo)==items.size)=true:=by
  rw[hw.1,hw.2];simp
 show wpAny _ _ (if(((HT.sIx items.size 0 lo:Nat):Int)==0&&(1:Int)==1&&(HT.sIx items.size items.size hi-HT.sIx items.size 0 lo)==items.size)=true then _ else _) _ _ s
 rw[if_pos hyes]
 refine aa (qE ht ?_)
 rw[if_pos rfl]
 first
  |exact aa (iB (ao ⟨_,rfl,ao h⟩))
  |exact aa (aa (iB (ao ⟨_,rfl,ao h⟩)))
  |exact aa (iB ⟨_,rfl,ao h⟩)
noncomputable def Oh(K:PySem.W.Frag):V->Option Int->Option Int->Hp->VK->Prop:=λx lo hi H Q=>∃a xs,x= .ref a/\SqT K H a xs/\(HT.sIx xs.length 0 lo=0/\HT.sIx xs.length xs.length hi=xs.length)/\Q (.ref a) H
theorem BZ{X:Cx}:KY X (Oh X.K):=by
 intro pins s σ H x v vl vu lo hi sl Q I rx hs pl pu h
 obtain⟨a,xs,rfl,hx,hw,q⟩:=h
 cases rx
 obtain⟨its,r,ht,hz⟩:=I.tuple hx
 have hlen:its.toArray.size=xs.length:=by rw[aA];exact r.length.symm
 refine⟨"tuple",_,bw.lookup,ht.typeIs,?_⟩
 exact lx ht hs pl pu (by rw[hlen];exact hw) ⟨.ref a,H,I,rfl,q⟩
end L2
namespace L3
open PySem L2 PySem.Spec PyProof.Rows
noncomputable def B0:PV->Option Int->Option Int->Gp->K2->Prop:=λp lo hi G Q=>match p with
 | .tup xs=>Q (.tup (pf xs lo hi)) G
 | .str z=>z.length<=16000000/\Q (.str (Txt.slice z lo hi)) G
 |_=>False
noncomputable abbrev D8(te:E2)(tl th:O2):E2:=λτ G Q=>te τ G λx G1=>tl τ G1 λl G2=>th τ G2 λu G3=>B0 x l u G3 Q
section
variable{X:Cx}{e:Expr}{te:E2}{lo hi:Option Expr}{tl th:O2}{pos p2:Pos}
theorem Iz:KY X (HL X.K B0):=by
 intro pins s σ H x v vl vu lo hi sl Q I rx hs pl pu h
 obtain⟨p,G,Q2,d,rp,h,cl⟩:=h
 unfold B0 at h
 split at h
 ·rename_i xs
  by_cases hw:HT.sIx xs.length 0 lo=0/\HT.sIx xs.length xs.length hi=xs.length
  ·have e:pf xs lo hi=xs:=by
    unfold pf
    rw[hw.1,hw.2]
    simp
   rw[e]at h
   have d0:=d
   obtain⟨a,vs,rfl,sa,da⟩:=d
   exact BZ pins s σ H _ v vl vu lo hi sl Q I rx hs pl pu ⟨a,vs,rfl,sa,by rw[da.length];exact hw,cl _ _ _ _ h d0 rp .refl⟩
  ·exact Cj pins s σ H x v vl vu lo hi sl Q I rx hs pl pu ⟨.tup xs,G,Q2,d,rp,⟨hw,h⟩,cl⟩
 ·rename_i z
  exact Cj pins s σ H x v vl vu lo hi sl Q I rx hs pl pu ⟨.str z,G,Q2,d,rp,h,cl⟩
 ·exact h.elim
theorem DL(he:JE X e te)(hl:JO X lo tl)(hu:JO X hi th):JE X (.Subscript e (.Slice lo hi none p2) pos) (D8 te tl th):= .of (wa Iz he.h hl.h hu.h) λσ H Q hPl=>by
 obtain⟨τ,G,Q2,rs,rp,q,cl⟩:=hPl
 refine⟨τ,G,_,rs,rp,q,λp G1 v H1 q1 d1 r1 k1=>⟨τ,G1,_,rs.keep k1,r1,q1,λl G2 H2 q2 r2 k2=>⟨τ,G2,_,rs.keep (k1.trans k2),r2,q2,λu G3 H3 q3 r3 k3=> ?_⟩⟩⟩
 exact⟨p,G3,Q2,d1.keep (k2.trans k3),r3,q3,cl.keep ((k1.trans k2).trans k3)⟩
end
end L3
namespace L3
open PySem L2
inductive pV:Prop
 |mk
section
variable{X:Cx}{a b e:Expr}{ta tb te:E2}{pos pos' p p2:Pos}{x y:Str}{i k:Nat}{lo hi:Option Expr}{tl th:O2}
theorem jaE(u:pV)(ha:JE X a ta)(hb:JE X b tb):JE X (.BinOp a .Add b pos) (iT jd ta tb):=GA ha hb
theorem jsE(u:pV)(he:JE X e te)(hl:JO X lo tl)(hu:JO X hi th):JE X (.Subscript e (.Slice lo hi none p2) pos) (D8 te tl th):=DL he hl hu
theorem EG(i:Nat)(he:JE X e ta)(hN:X.N.Nodup)(hi:X.N[i]? =some x:=by rfl)(hx:xh X.env.scope x:=by first|exact Or.inl rfl|exact Or.inr rfl)(hs:jh e (some (.Name x pos')) pos.line X.env=pure false:=by rfl)
  (hf:X.fn x=true\/X.env.scope.names.lookup x=some .local:=by first|exact .inl rfl|exact .inr rfl):JS X (.Assign [.Name x pos'] e pos) (oI ta (gN i)):=JQ he hN hi hx hs hf
theorem EH(i:Nat)(hN:X.N.Nodup)(hi:X.N[i]? =some x:=by rfl)(hx:xh X.env.scope x:=by first|exact Or.inl rfl|exact Or.inr rfl)(hf:X.fn x=true\/X.env.scope.names.lookup x=some .local:=by first|exact .inl rfl|exact .inr rfl):JG X (.Name x pos) (gN i):=Gr hN hi hx hf
theorem uO(i:Nat)(hN:X.N.Nodup)(hc:X.calm=true:=by rfl)(hi:X.N[i]? =some x:=by rfl)(hx:xh X.env.scope x:=by first|exact Or.inl rfl|exact Or.inr rfl)(hj:X.N[i+1]? =some y:=by rfl)(hy:xh X.env.scope y:=by first|exact Or.inl rfl|exact Or.inr rfl)
  (hf:X.fn x=true\/X.env.scope.names.lookup x=some .local:=by first|exact .inl rfl|exact .inr rfl) (hf2:X.fn y=true\/X.env.scope.names.lookup y=some .local:=by first|exact .inl rfl|exact .inr rfl):
  JG X (.Tuple [.Name x p,.Name y p2] k pos) (NL i (i+1)):=DH hc hN hi hx hj hy hf hf2
end
end L3
namespace L2
open PySem PySem.Spec PyProof.Rows
section
end
end L2
namespace L3
open PySem L2 PySem.Spec PyProof.Rows
section
theorem yK:∀{xs:List V} {us:List ae},us.length=xs.length->(∀(i:Nat) (x:V) (u:ae),xs[i]? =some x->us[i]? =some u->RelV x u)->Vals xs us
 |[],[],_,_=> .nil
 |x::xs,u::us,hl,h=> .cons (h 0 x u rfl rfl) (yK (by simpa using hl) λi y v hy hv=>h (i+1) y v (by simpa using hy) (by simpa using hv))
 |[],_::_,hl,_=>by cases hl
 |_::_,[],hl,_=>by cases hl
end
end L3
namespace L2
open PySem PySem.Spec PyProof.Rows
section
end
end L2
namespace L3
open PySem L2 PySem.Spec PyProof.Rows
section
end
end L3
namespace PySem
open PyProof.Rows (StrsAre)
section
end
end PySem
namespace L3
open PySem L2
section
end
noncomputable def rF:B2:=λp q G Q=>match p,q with
 | .non,.ref a=>∃ps,lk G a=some ps/\dI 100 ps=true/\Q (.bl (ps.any λy=>mh y .non)) G
 |_,_=>False
section
variable{X:Cx}{a e:Expr}{p:Pos}
theorem AF(hu:X.A.units+200<im):jl X (cL .In) (ik X.K rF):=by
 intro pins s σ H x y v u Q I rx ry h
 obtain⟨p,q,G,Q2,d1,d2,rp,h,cl⟩:=h
 unfold rF at h
 split at h
 ·rename_i a
  obtain⟨ps,e1,f,hq⟩:=h
  obtain rfl:x= .non:=d1
  cases rx
  obtain rfl:y= .ref a:=d2
  cases ry
  obtain⟨vs,sa,da⟩:=gf rp e1
  obtain⟨its,r,pl,hz⟩:=I.list sa
  have main:∀{ps:List PV} {vs:List V} {its:List ae},dI 100 ps=true->Dvs X.K H ps vs->Vals vs its->(∀y∈its,SeqAt.EqAt X.A.in1 s y .none (lg y))/\its.any lg=ps.any λy=>mh y .non:=by
   intro ps
   induction ps with
   |nil=>
    intro vs its _ d r
    obtain rfl:vs=[]:=d
    cases r
    exact⟨λy hy=>by simp at hy,rfl⟩
   |cons p ps ih=>
    intro vs its f d r
    obtain⟨v,vr,rfl,dp,d⟩:=d
    cases r with
    |cons r1 r2=>
     unfold dI at f
     rw[bC]at f
     obtain⟨h1,h2⟩:=ih f.2 d r2
     have e:=Dp f.1 dp r1
     refine⟨λy hy=> ?_,by rw[cT,cT,e,h2]⟩
     rcases aI.mp hy with rfl|hy
     ·rw[e]
      exact Ng I 100 1 p .non X.A.in1 dp r1 rfl rfl f.1 rfl (by rw[PySem.Around.in1_units];ac_nf)
     ·exact h1 y hy
  obtain⟨h1,h2⟩:=main f da r
  refine SeqAt.in_listAt lg pl.isList (λy hy=>h1 y (by simpa using hy)) ⟨.bl _,H,I,rfl,?_⟩
  rw[show its.toArray.any lg=its.any lg by simp,h2]
  exact cl _ _ _ _ hq rfl rp .refl
 ·exact h.elim
end
end L3
namespace PySem
open AutoSeq1 (wpAny_loadPart')
section
end
end PySem
namespace L2
open PySem
section
end
end L2
namespace L3
open PySem L2
section
end
section
end
section
end
end L3
namespace L2
open PySem PySem.Spec PyProof.Rows
section
end
end L2
namespace L3
open PySem L2
section
end
theorem l5:∀{xs ys:List PV},(jD xs ys).length=min xs.length ys.length
 |[],ys=>by simp[jD]
 |x::xs,[]=>by simp[jD]
 |x::xs,y::ys=>by
  show(jD xs ys).length+1=_
  rw[l5];simp only[aM];ac_nf
section
end
end L3
namespace L3
open PySem L2 PySem.Spec PyProof.Rows
section
variable{X:Cx}{C:Addr}{k k':Nat}{m x:Str}{f':Addr}{fd:a8}{ps:List Str}{o e:Expr}{es:List Expr}{to:E2}{t:A2}{pos apos:Pos}{pl:Sem Bool}
theorem Kg{sp:hX}(M:fq X.prog X.w X.K X.mg X.base C k m f' fd ps sp)(hr:Room k' X.A)(hk:k<=k')(ho:JE X o to)(ha:JA X (e::es) t)
  (hst:aB (e::es) X.env=(false,eval e X.env)::aB es X.env:=by rfl) (hpl:(ce pos (aB es X.env)).any (·.1)=false:=by rfl)
  (ht:eval (.Call (.Attribute o m apos) (e::es) [] pos) X.env=(do
   let ov <-eval o X.env
   standAt apos.atName
   let(fv,first) <-holding [ov] (getMethod ov m pl)
   callWith pos fv first (ce pos (aB (e::es) X.env)) (io pos (eK [] X.env))):=by rfl):
  JE X (.Call (.Attribute o m apos) (e::es) [] pos) (Ni C m sp to t):=
 .of (Fp (pl:=pl) ho.h M.c M.m (M.ok.mono hk) hr M.b .nil zw ha.h hst hpl ht) λσ H1 Q q=>by
  obtain⟨τ,G,Q2,rs,rp,q,cl⟩:=q
  refine⟨τ,G,_,rs,rp,q,λx G1 v H2 q1 d1 r1 k1=> ?_⟩
  obtain⟨⟨a,dx,fs,rfl,hG,hl⟩,q1⟩:=q1
  obtain rfl:v= .ref a:=d1
  obtain⟨vs,hH,df⟩:=r1 a _ hG
  refine⟨a,dx,vs,rfl,hH,rN df hl,τ,G1,_,rs.keep k1,r1,q1,λps G2 us H3 q2 d2 r2 k2=> ?_⟩
  show Hv X.K sp (.ref a::(us++[])) H3 Q _
  rw[cr]
  exact⟨.ref a::ps,G2,Q2,⟨.ref a,us,rfl,rfl,d2⟩,r2,q2,cl.keep (k1.trans k2)⟩
end
end L3
namespace L2
open PySem PySem.Spec PyProof.Rows
section
end
section
end
section
end
end L2
namespace L3
open PySem L2 PySem.Spec PyProof.Rows
noncomputable def GL(K:PySem.W.Frag):C2:=λps G Q=>match ps with
 |[.ref x,.ref c]=>∃D b,G x=some (.exc D)/\Bc K D/\PySem.W.kitOne K (.ref D) (.ref c)=some b/\Q (.bl b) G
 |[.ref x,.ty T]=>∃D b,G x=some (.exc D)/\Bc K D/\PySem.W.kitOne K (.ref D) (.type T)=some b/\Q (.bl b) G
 |[.ref x,.tup cs]=>∃(D:Addr) (az:List Addr) (b:Bool),cs=az.map PV.ref/\G x=some (.exc D)/\Bc K D/\PySem.W.kitAny K (.ref D) (az.map aH)=some b/\Q (.bl b) G
 |_=>False
theorem zr{K:PySem.W.Frag}{H:Hp}:∀{az:List Addr} {vs:List V} {us:List ae},Dvs K H (az.map PV.ref) vs->Vals vs us->us=az.map aH
 |[],vs,us,d,r=>by
  obtain rfl:vs=[]:=d
  cases r;rfl
 |a::az,vs,us,d,r=>by
  obtain⟨v,vr,rfl,d1,d2⟩:=d
  obtain rfl:v= .ref a:=d1
  cases r with
  |cons r1 r2=>
   cases r1
   rw[zr d2 r2];rfl
section
variable{X:Cx}{a b e:Expr}{t:A2}{es:List Expr}{p pos:Pos}
theorem Nu:hV X (.builtin "isinstance") (pT X.K (GL X.K)):=by
 intro pins s σ H xs us Q I rs h
 obtain⟨ps,G,Q2,d,rp,h,cl⟩:=h
 unfold GL at h
 split at h
 ·rename_i x c
  obtain⟨v,vr,rfl,d1,v2,vr2,rfl,d2,d3⟩:=d
  obtain rfl:vr2=[]:=d3
  obtain rfl:v= .ref x:=d1
  obtain rfl:v2= .ref c:=d2
  obtain⟨D,b,hG,hx,hk,q⟩:=h
  exact nU pins s σ H _ us Q I rs ⟨x,D,.ref c,.ref c,b,rfl,rp x _ hG,hx,rfl,hk,cl _ _ _ _ q rfl rp .refl⟩
 ·rename_i x T
  obtain⟨v,vr,rfl,d1,v2,vr2,rfl,d2,d3⟩:=d
  obtain rfl:vr2=[]:=d3
  obtain rfl:v= .ref x:=d1
  obtain rfl:v2= .ty T:=d2
  obtain⟨D,b,hG,hx,hk,q⟩:=h
  exact nU pins s σ H _ us Q I rs ⟨x,D,.ty T,.type T,b,rfl,rp x _ hG,hx,rfl,hk,cl _ _ _ _ q rfl rp .refl⟩
 ·rename_i x cs
  obtain⟨v,vr,rfl,d1,v2,vr2,rfl,d2,d3⟩:=d
  obtain rfl:vr2=[]:=d3
  obtain rfl:v= .ref x:=d1
  obtain⟨a,ws,rfl,hs,dw⟩:=d2
  obtain⟨D,az,b,rfl,hG,hx,hk,q⟩:=h
  obtain⟨u,u2,rfl,ru,ru2⟩:=rs.two
  cases ru
  cases ru2
  obtain⟨its,rv,⟨o,ho,hc,n,hd⟩,_⟩:=I.tuple hs
  have hE:=rp x _ hG
  have pX:KU x D s.heap:=(I.hok x _ hE).1
  have ei:=zr dw rv
  subst ei
  obtain⟨oc,odd,oda,osl⟩:=o
  dsimp only at hc hd
  subst hc hd
  exact PySem.W.kia_tup (wu hx) I.kIn pX ho hk (λz=>nomatch z) λtk=>⟨.bl b,H,I.tok tk,rfl,cl _ _ _ _ q rfl rp .refl⟩
 ·exact h.elim
theorem DK(B:BN X.mg)(ha:JA X (e::es) t)(hg:Gl X "isinstance" :=by rfl)(he:aB (e::es) X.env=(false,eval e X.env)::aB es X.env:=by rfl)(hpl:(ce pos (aB es X.env)).any (·.1)=false:=by rfl):JE X (.Call (.Name "isinstance" p) (e::es) [] pos) (tJ (GL X.K) t):=lf Nu B.isinstance pI ha hg (by decide) (by decide) he hpl
end
end L3
namespace L2
open PySem PySem.Spec PyProof.Rows
noncomputable def OV(a:Addr)(o:Obj)(kvs:List (Key×V)):It:=
 ⟨λi H=>H a=some (.frz o (.dK kvs))/\i<kvs.length,λi H x H'=>H'=H/\∃k v,kvs[i]? =some (k,v)/\x=kV k,λi H=>H a=some (.frz o (.dK kvs))/\kvs.length<=i⟩
theorem DD{P:aK}{w:aX}{k:Key}{u:ae}(h:(mixKind P w).is k u=true):RelV (kV k) u:=by
 rcases dS h with⟨i,t,rfl,rfl⟩|⟨x,t,rfl,rfl⟩
 ·exact⟨t,rfl⟩
 ·exact⟨t,rfl⟩
theorem DX{P:aK}{w:aX}{H:Hp}{h:Heap}{a:Addr}{o:Obj}{kvs:List (Key×V)}{es:Array DictEntry}{ep:Nat}(ok:HOk P w H h)(e:H a=some (.frz o (.dK kvs)))(he:o.data= .dict es ep):∃vs,KV kvs vs/\h.DictAt (mixKind P w) a vs ep:=by
 obtain⟨hg,z,_,vs,kv,dd⟩:=(show ObjOk P w H h a (.frz o (.dK kvs))from ok a _ e)
 refine⟨vs,kv,?_⟩
 obtain⟨o',es',ep',h1,h2,h3,h4⟩:=dd
 rw[hg]at h1;cases h1
 rw[he]at h3;cases h3
 exact⟨o,es,hg,h2,he,h4⟩
theorem Ae{P:aK}{w:aX}{K:PySem.W.Frag}{tg:Expr}(a it:Addr){o:Obj}{kvs:List (Key×V)}{es:Array DictEntry}{ep:Nat}(he:o.data= .dict es ep):sv P w K tg (OV a o kvs) [it] it (λi h=>h.IsKeyIter it a i kvs.length ep) where
 mem:=by simp
 obj:=λi h st b hb=>by
  have e:b=it:=by simpa using hb
  subst e
  obtain⟨o,e,c,d⟩:=st
  exact⟨o,e,λv z=>by rw[d]at z;cases z⟩
 keep:=λi h h' st k=>by
  obtain⟨o,e,c,d⟩:=st
  exact⟨o,k it (by simp) o e,c,d⟩
 item:=by
  intro X hP hw hK hc i pins s σ H E I hf st hg
  subst hP hw hK
  obtain⟨hq,hx⟩:=hg
  obtain⟨vs,kv,dd⟩:=DX I.hok hq he
  have hl:=kv.length
  obtain⟨f0,f1,f2,f3,f4,f5⟩:=hf it (by simp)
  have hx':i<vs.length:=by ac_nf
  have e1:vs[i]? =some (vs[i].1,vs[i].2):=by rw[ak hx']
  have e2:kvs[i]? =some (kvs[i].1,kvs[i].2):=by rw[ak hx]
  have e3:kvs[i].1=vs[i].1:=by
   have:=congrArg (λl=>l[i]?) kv.keys
   simp only[aC,e1,e2,Option.map_some]at this
   exact bc this
  refine wpAny_pyNext_dict_item (by rw[<-hl];exact st) dd e1 λkey h' hk st' sb=> ?_
  have I1:Inv X pins σ H {s with heap:=h'}:=I.turned (t':=s.toks) (λb o hb e=>(sb.2 b hb).trans e) f0 f1 f3 f4 f5
  obtain⟨o,e,c,d⟩:=id st'
  exact⟨key,rfl,wG (s:={s with heap:=h'}) e c d (by decide) ⟨_,H,I1,DD hk,⟨rfl,_,_,e2,by rw[e3]⟩,by rw[hl];exact st',λb hb=>(hf b hb).1⟩⟩
 done:=by
  intro X hP hw hK hc i pins s σ H E I hf st hg
  subst hP hw hK
  obtain⟨hq,hx⟩:=hg
  obtain⟨vs,kv,dd⟩:=DX I.hok hq he
  have hl:=kv.length
  obtain⟨f0,f1,f2,f3,f4,f5⟩:=hf it (by simp)
  exact wpAny_pyNext_dict_end (I.ok.hd hc) (by rw[<-hl];exact st) dd (cQ (by ac_nf)) λh' eb=>⟨rfl,I.turned (t':=s.toks) (λb o hb e=>eb b o hb e) f0 f1 f3 f4 f5⟩
 self:=λA i s Q E st h=>by
  exact wpAny_pyIter_slot st.typeIs w8 (cZ w8 st.typeIs F.entry_dict_keyiterator_iter (ao ⟨_,rfl, "dict_keyiterator",_,st.typeIs,F.slot_dict_keyiterator_next.lookup,h⟩) (F.args_dict_keyiterator_iter_1 _))
noncomputable def OG(tl:TE):TI:=λσ H R=>tl σ H λx H1=>∃a kvs,x= .ref a/\Rd H1 a (.dK kvs)/\∀o H2,H2 a=some (.frz o (.dK kvs))->(H2=H1\/H1 a=some (.dK kvs)/\H2=upd H1 a (.frz o (.dK kvs)))->R (OV a o kvs) H2
theorem Fo{X:Cx}{tg l:Expr}{tl:TE}(hl:PE X l tl):PI X tg l (OG tl):=by
 intro pins s σ H R I h
 refine eR (hl pins s σ H _ I h) λv s1 hPl=> ?_
 obtain⟨x,H1,I1,r1,q1⟩:=hPl
 obtain⟨a,kvs,e,hq,q⟩:=q1
 subst e
 cases r1
 obtain⟨z,hd,vs,kv,dd⟩:=pF I1.hok hq
 have hlen:=kv.length
 obtain⟨o,es,ep,h1,h2,h3,h4⟩:=id dd
 have hdt:s1.heap.DictAt (mixKind X.prog X.w) a vs ep:=⟨o,es,h1,h2,h3,h4⟩
 have key:∃H2,Inv X pins σ H2 s1/\H2 a=some (.frz o (.dK kvs))/\(H2=H1\/H1 a=some (.dK kvs)/\H2=upd H1 a (.frz o (.dK kvs))):=by
  rcases hq with hq|⟨o',hq⟩
  ·refine⟨_,nN (h':=s1.heap) (t':=s1.toks) I1 (by rw[hq];exact cF) ⟨rfl,λ_ _=>rfl⟩ ⟨o,h1⟩ (ob:= .frz o (.dK kvs)) ⟨h1,vb z hd kv dd⟩,cG,.inr ⟨hq,rfl⟩⟩
  ·have:o'=o:=by
    obtain⟨hg,_⟩:=(show ObjOk X.prog X.w H1 s1.heap a (.frz o' (.dK kvs))from I1.hok a _ hq)
    rw[h1]at hg;exact(bc hg).symm
   subst this
   exact⟨H1,I1,hq,.inl rfl⟩
 obtain⟨H2,I2,e2,w2⟩:=key
 refine uf hd hdt ?_
 refine⟨s1.heap.objs.size,[s1.heap.objs.size],_,_,H2,rfl,I2.kept (t':=s1.toks) λb o e=>aj _ e,Ae a _ h3,⟨_,aJ _ rfl,rfl,by simp[hlen]⟩,λb hb=> ?_,q o H2 e2 w2⟩
 have e:b=s1.heap.objs.size:=by simpa using hb
 subst e
 exact I2.fpOk (am _) (I2.hok.fresh (am _))
end L2
namespace L3
open PySem L2
theorem yk{K:PySem.W.Frag}{H:Hp}:∀{ps:List (Key×PV)} {vs:List (Key×V)},DKv K H ps vs->ps.map (·.1)=vs.map (·.1)
 |[],vs,h=>by obtain rfl:vs=[]:=h;rfl
 |(x,p)::ps,vs,h=>by
  obtain⟨v,r,rfl,d,z⟩:=h
  rw[aw,aw,yk z]
noncomputable def wD(t:E2):sw:=λτ G R=>t τ G λp G1=>match p with
 | .ref a=>match G1 a with
  |some (.dK kvs)=>R (kvs.map λkv=>kP kv.1) (λG=>G a=some (.rd kvs)) (up G1 a (.rd kvs))
  |some (.rd kvs)=>R (kvs.map λkv=>kP kv.1) (λG=>G a=some (.rd kvs)) G1
  |_=>False
 |_=>False
theorem wv{K:PySem.W.Frag}{H:Hp}{a:Addr}{o:Obj}{kvs:List (Key×V)}(h:H a=some (.dK kvs)):Keep K H (L2.upd H a (.frz o (.dK kvs))):=lc h
theorem yc{K:PySem.W.Frag}{H1:Hp}{a:Addr}{o:Obj}{vs:List (Key×V)}{kvs:List (Key×PV)}(e:H1 a=some (.frz o (.dK vs)))(d:DKv K H1 kvs vs):w6 K H1 (OV a o vs) (kvs.map λkv=>kP kv.1) (λG=>G a=some (.rd kvs)):=by
 intro i H G kp rp hc
 have e':=kp.2 _ _ _ e
 have hl:=d.length
 refine⟨λh=>⟨e',by simp at h;ac_nf⟩,λh=>⟨e',by simp at h;ac_nf⟩,λx H' hi hy=> ?_⟩
 obtain⟨rfl,k,v,ek,rfl⟩:=hy
 have hk:(kvs.map (·.1))[i]? =some k:=by rw[yk d,aC,ek];rfl
 refine⟨kP k,?_,.refl,rp,Md k⟩
 have:(kvs.map λkv=>kP kv.1)=(kvs.map (·.1)).map kP:=by rw[bp];rfl
 rw[this,aC,hk];rfl
theorem uN{X:Cx}{tg l:Expr}{t:E2}(hl:JE X l t):JI X tg l (wD t):= .of (Fo hl.h) λσ H R hPl=>by
 obtain⟨τ,G,R2,rs,rp,q,cl⟩:=hPl
 refine⟨τ,G,_,rs,rp,q,λp G1 v H1 q1 d1 r1 k1=> ?_⟩
 cases p with
 |ref a=>
  obtain rfl:v= .ref a:=d1
  cases eg:G1 a with
  |none=>simp only[eg]at q1
  |some o=>
   cases o with
   |dK kvs=>
    simp only[eg]at q1
    obtain⟨vs,hH,dv⟩:=r1.dK eg
    refine⟨a,vs,rfl,.inl hH,λob H2 e2 w2=> ?_⟩
    rcases w2 with rfl|⟨_,rfl⟩
    ·rw[hH]at e2;cases e2
    ·have kk:Keep X.K H1 (L2.upd H1 a (.frz ob (.dK vs))):=wv hH
     have r2:Rep X.K (L2.upd H1 a (.frz ob (.dK vs))) (up G1 a (.rd kvs)):=by
      refine r1.upd kk (λb o e ne=>by rw[aE ne]at e;exact e) λo e=> ?_
      rw[af]at e;cases e
      exact⟨vs,.inr ⟨ob,cG⟩,dv.keep kk⟩
     exact cl _ _ _ _ _ q1 r2 (k1.trans kk) (yc cG (dv.keep kk))
   |rd kvs=>
    simp only[eg]at q1
    obtain⟨vs,hH,dv⟩:=r1 a _ eg
    refine⟨a,vs,rfl,hH,λob H2 e2 w2=> ?_⟩
    rcases w2 with rfl|⟨hD,rfl⟩
    ·exact cl _ _ _ _ _ q1 r1 k1 (yc e2 dv)
    ·have kk:Keep X.K H1 (L2.upd H1 a (.frz ob (.dK vs))):=wv hD
     have r2:Rep X.K (L2.upd H1 a (.frz ob (.dK vs))) G1:=by
      refine r1.upd kk (λb o e ne=>e) λo e=> ?_
      rw[eg]at e;cases e
      exact⟨vs,.inr ⟨ob,cG⟩,dv.keep kk⟩
     exact cl _ _ _ _ _ q1 r2 (k1.trans kk) (yc cG (dv.keep kk))
   |_=>simp only[eg]at q1
 |_=>exact q1.elim
@[reducible] noncomputable def kz (G:Gp) (a:Addr):Option (List (Key×PV)):=match G a with
 |some (.dK kvs)=>some kvs
 |some (.rd kvs)=>some kvs
 |_=>none
theorem kl{G:Gp}{a:Addr}{kvs:List (Key×PV)}(h:G a=some (.dK kvs)):kz G a=some kvs:=by unfold kz;rw[h]
theorem rQ{G:Gp}{a:Addr}{kvs:List (Key×PV)}(h:G a=some (.rd kvs)):kz G a=some kvs:=by unfold kz;rw[h]
theorem Rep.dR{K:PySem.W.Frag}{H:Hp}{G:Gp}{a:Addr}{kvs:List (Key×PV)}(r:Rep K H G)(e:kz G a=some kvs):∃vs,Rd H a (.dK vs)/\DKv K H kvs vs:=by
 cases eg:G a with
 |none=>simp[kz,eg]at e
 |some o=>
  cases o with
  |dK k'=>
   simp[kz,eg]at e;subst e
   obtain⟨vs,h,d⟩:=r a _ eg
   exact⟨vs,.inl h,d⟩
  |rd k'=>simp[kz,eg]at e;subst e;exact r a _ eg
  |_=>simp[kz,eg]at e
noncomputable def GH:B2:=λp q G Q=>match p with
 | .ref a=>match kz G a,uM q with
  |some kvs,some k=>match ig kvs k with
   |some v=>Q v G
   |none=>False
  |_,_=>False
 |_=>False
theorem nG{a:Addr}{G:Gp}{q v:PV}{kvs:List (Key×PV)}{k:Key}{Q:K2}(h:kz G a=some kvs)(hk:uM q=some k)(hv:ig kvs k=some v)(hq:Q v G):GH (.ref a) q G Q:=by
 unfold GH
 simp only[h,hk,hv]
 exact hq
noncomputable def GQ(x y z:PV)(G:Gp)(Q:K2):Prop:=match x with
 | .ref a=>match kz G a,uM y with
  |some kvs,some k=>Q ((ig kvs k).getD z) G
  |_,_=>False
 |_=>False
theorem yg{a:Addr}{G:Gp}{q z:PV}{kvs:List (Key×PV)}{k:Key}{Q:K2}(h:kz G a=some kvs)(hk:uM q=some k)(hq:Q ((ig kvs k).getD z) G):GQ (.ref a) q z G Q:=by
 unfold GQ
 simp only[h,hk]
 exact hq
noncomputable def Ks(x:PV)(G:Gp):Prop:=∃a kvs,x= .ref a/\kz G a=some kvs
theorem uR{a:Addr}{G:Gp}{kvs:List (Key×PV)}(h:kz G a=some kvs):Ks (.ref a) G:=⟨a,kvs,rfl,h⟩
noncomputable abbrev Nj(td te tf:E2):E2:=λτ G Q=>td τ G λx G1=>Ks x G1/\te τ G1 λy G2=>tf τ G2 λz G3=>GQ x y z G3 Q
noncomputable def zS(p:Addr)(x y:PV)(G:Gp)(Q:K2):Prop:=match uM x with
 |some k=>G p=some (.dK [])/\Q (.ref p) (up G p (.dK [(k,y)]))
 |none=>False
noncomputable abbrev Nl(tk tv:E2):E2:=λτ G Q=>∀p,G p=none->tk τ (up G p (.dK [])) λx G1=>tv τ G1 λy G2=>zS p x y G2 Q
section
variable{X:Cx}{d e f:Expr}{td te tf:E2}{pos apos cpos p:Pos}
theorem yb(hu:X.A.units+200<im)(hd:JE X d td)(he:JE X e te)(hs:K0 e:=by exact λ_ _=>rfl):JE X (.Subscript d e pos) (iT GH td te):=
 .of (Fv (by ac_nf) hd.h he.h hs) λσ H Q hPl=>by
  obtain⟨τ,G,Q2,rs,rp,q,cl⟩:=hPl
  refine⟨τ,G,_,rs,rp,q,λp1 G1 v1 H1 q1 d1 r1 k1=>⟨τ,G1,_,rs.keep k1,r1,q1,λp2 G2 v2 H2 q2 d2 r2 k2=> ?_⟩⟩
  unfold GH at q2
  split at q2
  ·rename_i a
   split at q2
   ·rename_i kvs k eg ek
    split at q2
    ·rename_i v ev
     obtain rfl:v1= .ref a:=d1
     obtain rfl:=uL ek d2
     obtain⟨vs,hv,dv⟩:=r2.dR eg
     obtain⟨u,hu,du⟩:=(dv.val k).1 v ev
     exact⟨a,u,rfl,.inl ⟨vs,k,hv,rfl,hu.symm⟩,cl _ _ _ _ q2 du r2 (k1.trans k2)⟩
    ·exact q2.elim
   ·exact q2.elim
  ·exact q2.elim
theorem Kk(hu:X.A.units+200<im)(hd:JE X d td)(he:JE X e te)(hf:JE X f tf)(m:L2.M2 X d "get" apos e f cpos:=by exact⟨rfl,rfl,rfl,rfl⟩):JE X (.Call (.Attribute d "get" apos) [e,f] [] cpos) (Nj td te tf):=
 .of (CV (by ac_nf) hd.h he.h hf.h m) λσ H Q hPl=>by
  obtain⟨τ,G,Q2,rs,rp,q,cl⟩:=hPl
  refine⟨τ,G,_,rs,rp,q,λp1 G1 v1 H1 q1 d1 r1 k1=> ?_⟩
  obtain⟨⟨a,kvs,rfl,ea⟩,q1⟩:=q1
  obtain rfl:v1= .ref a:=d1
  obtain⟨vs,hv,dv⟩:=r1.dR ea
  refine⟨a,rfl,.inl ⟨vs,hv⟩,τ,G1,_,rs.keep k1,r1,q1,λp2 G2 v2 H2 q2 d2 r2 k2=>⟨τ,G2,_,rs.keep (k1.trans k2),r2,q2,λp3 G3 v3 H3 q3 d3 r3 k3=> ?_⟩⟩
  unfold GQ at q3
  dsimp only at q3
  split at q3
  ·rename_i kvs' k eg ek
   obtain rfl:=uL ek (d2.keep k3)
   obtain⟨vs',hv',dv'⟩:=r3.dR eg
   refine⟨_,.inl ⟨vs',k,hv',rfl,rfl⟩,cl _ _ _ _ q3 ?_ r3 ((k1.trans k2).trans k3)⟩
   cases ev:ig kvs' k with
   |none=>rw[(dv'.val k).2 ev];exact d3
   |some w'=>obtain⟨w2,hw,dw⟩:=(dv'.val k).1 w' ev;rw[hw];exact dw
  ·exact q3.elim
theorem GD(he:JE X e te)(hf:JE X f tf):JE X (.Dict [some e] [f] p) (Nl te tf):=
 .of (Fu (Cw he.h hf.h Ff) rfl rfl (by simp) (by simp)) λσ H Q ⟨τ,G,Q2,rs,rp,q,cl⟩ a ha=>by
  have kn:Keep X.K H (L2.upd H a (.dK [])):=bQ ha
  refine⟨τ,_,_,rs.keep kn,rp.newD ha (show DKv X.K H [] []from rfl),q a (rp.none ha),λp1 G1 v1 H1 q1 d1 r1 k1=>⟨τ,G1,_,rs.keep (kn.trans k1),r1,q1,λp2 G2 v2 H2 q2 d2 r2 k2=> ?_⟩⟩
  unfold zS at q2
  split at q2
  ·rename_i k ek
   obtain⟨eg,q2⟩:=q2
   obtain rfl:=uL ek (d1.keep k2)
   obtain⟨vs,hv,dv⟩:=r2.dK eg
   obtain rfl:vs=[]:=dv
   refine⟨hv,[(k,v2)],rfl,by simp,cl _ _ _ _ q2 rfl (r2.putD hv ?_) (((kn.trans k1).trans k2).trans (lc hv))⟩
   exact⟨v2,[],rfl,d2,rfl⟩
  ·exact q2.elim
end
theorem vc{a:Addr}{x y:PV}{k:Key}{G:Gp}{Q:K2}(hk:uM x=some k)(h:G a=some (.dK []))(hq:Q (.ref a) (up G a (.dK [(k,y)]))):zS a x y G Q:=by
 unfold zS;simp only[hk];exact⟨h,hq⟩
theorem yl{a:Addr}{i:Nat}{τ:je}{G:Gp}{R:List PV->(Gp->Prop)->Gp->Prop}{kvs:List (Key×PV)}(e:gt τ i=some (.ref a))(h:G a=some (.rd kvs))(q:R (kvs.map λkv=>kP kv.1) (λG=>G a=some (.rd kvs)) G):wD (eV i) τ G R:=by
 unfold wD eV;simp only[e,h];exact q
theorem KC{a:Addr}{i:Nat}{τ:je}{G:Gp}{R:List PV->(Gp->Prop)->Gp->Prop}{kvs:List (Key×PV)}(e:gt τ i=some (.ref a))(h:G a=some (.dK kvs))(q:R (kvs.map λkv=>kP kv.1) (λG=>G a=some (.rd kvs)) (up G a (.rd kvs))):wD (eV i) τ G R:=by
 unfold wD eV;simp only[e,h];exact q
theorem Dr{i j:Int}{G:Gp}{Q:K2}(c:CMul i j)(q:Q (.int (i*j)) G):FW (.int i) (.int j) G Q:=⟨c,q⟩
noncomputable def GW(G0 G:Gp):Prop:=∀a o,G0 a=some o->G a=some o\/∃kvs,o= .rd kvs/\G a=some (.dK kvs)
theorem GE.gw{G0 G:Gp}(h:GE G0 G):GW G0 G:=λa o e=> .inl (h a o e)
theorem Rep.weak{K:PySem.W.Frag}{H:Hp}{G0 G:Gp}(r:Rep K H G)(h:GW G0 G):Rep K H G0:=λa o e=>by
 rcases h a o e with h|⟨kvs,rfl,h⟩
 ·exact r a o h
 ·obtain⟨vs,hv,d⟩:=r a _ h
  exact⟨vs,.inl hv,d⟩
theorem GW.rd{G0 G:Gp}{a:Addr}{kvs:List (Key×PV)}(h:GE G0 G)(e:G a=some (.dK kvs)):GW (up G0 a (.rd kvs)) G:=λb o q=>by
 by_cases hb:b=a
 ·subst hb;rw[af]at q;cases q;exact .inr ⟨kvs,rfl,e⟩
 ·rw[aE hb]at q;exact .inl (h b o q)
section
variable{P:aK}{w:aX}{K:PySem.W.Frag}{mg:Str->Option ae}{base:Heap}
theorem GS{x qual:Str}{st:Stmt}{f:Addr}{fd:a8}{N ps:List Str}{k:Nat}{sp:hX}(F:Fun K x qual st f fd)(S:bv N ps (aN st))(len:∀vs G Q,sp vs G Q->vs.length=ps.length)
  (hbody:∀(cdv:ae) (A:Around) (outer:List Env) (s:al) (H:Hp) (E:XK) (as:List PV) (G:Gp) (Q:K2),Room k (A.deeper (PyProof.Rows.envOfC qual (aN st) s.heap.objs.size f cdv))->sp as G Q->
   ∃t,JB (wO Hn P w K mg base N qual (aN st) f cdv A outer s H E).nox (iU st) t/\t {nx:=λ_ G'=>∃G0,GW G0 G'/\Q .non G0,rt:=λp G'=>∃G0,GW G0 G'/\Q p G0} (i5 N as) G):iL P w K mg base (k+1) f fd ps sp:=by
 refine F.ok S (λvs H Q E h=> ?_) (λcdv A outer s H vs Q E hr h=> ?_)
 ·obtain⟨as,G,Q2,d,_,h,_⟩:=h
  rw[d.length];exact len _ _ _ h
 obtain⟨as,G,Q2,d,rp,h,cl⟩:=h
 obtain⟨t,j,q⟩:=hbody cdv A outer s H E as G Q2 hr h
 refine⟨_,j.h,i5 N as,G,_,sO d (by rw[len _ _ _ h,<-S.pre,bo];ac_nf),rp,q,⟨λτ G' σ H' ⟨G0,e0,q1⟩ _ r1 k1=>cl _ _ _ _ q1 rfl (r1.weak e0) k1,λp G' v H' ⟨G0,e0,q1⟩ d1 r1 k1=>cl _ _ _ _ q1 d1 (r1.weak e0) k1,λ_ _ _ _ q1=>q1.elim,λ_ _ _ _ q1=>q1.elim⟩⟩
end
noncomputable def Bh(f:Nat->List (Tr×Nat)):Nat->Nat->List (List Tr×Nat)
 |0,e=>[([],e)]
 |n+1,e=>((f e).flatMap λt=>(Bh f n t.2).map λu=>(t.1::u.1,u.2))++[([],e)]
theorem rK{α β:Type}{l:List α}{f g:α->List β}(h:∀x∈l,f x=g x):l.flatMap f=l.flatMap g:=by
 induction l with
 |nil=>rfl
 |cons x l ih=>rw[eZ,eZ,h x (by simp),ih λy hy=>h y (by simp[hy])]
mutual
noncomputable def bf(T:List Nat):Pt->Nat->List (Tr×Nat)
 | .none,_=>[]
 | .blank,e=>[(.blank,e)]
 | .sign s,e=>match T[e]? with
  |some c=>if c∈s.cps.toList then[(.sign ⟨#[c]⟩,e+1)]else[]
  |none=>[]
 | .row ps,e=>(gl T ps [([],e)]).map λs=>(.row s.1,s.2)
 | .pick ps,e=>eE T ps 0 e
 | .again p,e=>(Bh (bf T p) (T.length+1-e) e).map λs=>(.again s.1,s.2)
 | .held n p,e=>(bf T p e).map λt=>(.held n t.1,t.2)
 | .price n p,e=>(bf T p e).map λt=>(.price n t.1,t.2)
noncomputable def gl(T:List Nat):List Pt->List (List Tr×Nat)->List (List Tr×Nat)
 |[],sm=>sm
 |p::ps,sm=>gl T ps (sm.flatMap λs=>(bf T p s.2).map λt=>(s.1++[t.1],t.2))
noncomputable def eE(T:List Nat):List Pt->Nat->Nat->List (Tr×Nat)
 |[],_,_=>[]
 |p::ps,k,e=>((bf T p e).map λt=>(.pick (k:Int) t.1,t.2))++eE T ps (k+1) e
end
theorem Ew{f:Nat->List (Tr×Nat)}(h:∀e x,x∈f e->e<=x.2):∀(n e:Nat) x,x∈Bh f n e->e<=x.2
 |0,e,x,hx=>by cases au.mp hx;exact am _
 |n+1,e,x,hx=>by
  rcases aZ.mp hx with hx|hx
  ·obtain⟨t,ht,hx⟩:=bB.mp hx
   obtain⟨u,hu,rfl⟩:=av.mp hx
   exact aP (h e t ht) (Ew h n t.2 u hu)
  ·cases au.mp hx;exact am _
theorem Ev{L:Nat}{f:Nat->List (Tr×Nat)}(h:∀e,e<=L->∀x,x∈f e->x.2<=L):∀(n e:Nat),e<=L->∀x,x∈Bh f n e->x.2<=L
 |0,e,he,x,hx=>by cases au.mp hx;exact he
 |n+1,e,he,x,hx=>by
  rcases aZ.mp hx with hx|hx
  ·obtain⟨t,ht,hx⟩:=bB.mp hx
   obtain⟨u,hu,rfl⟩:=av.mp hx
   exact Ev h n t.2 (h e he t ht) u hu
  ·cases au.mp hx;exact he
mutual
theorem kF(T:List Nat):∀(p:Pt) (e:Nat) x,x∈bf T p e->e<=x.2
 | .none,e,x,h=>by simp[bf]at h
 | .blank,e,x,h=>by simp[bf]at h;rw[h];exact am _
 | .sign s,e,x,h=>by
  unfold bf at h
  split at h
  ·split at h
   ·cases au.mp h;exact gB _
   ·cases h
  ·cases h
 | .row ps,e,x,h=>by
  unfold bf at h
  obtain⟨s,hs,rfl⟩:=av.mp h
  exact qf T ps [([],e)] e (λs hs=>by cases au.mp hs;exact am _) s hs
 | .pick ps,e,x,h=>by unfold bf at h;exact yR T ps 0 e x h
 | .again p,e,x,h=>by
  unfold bf at h
  obtain⟨s,hs,rfl⟩:=av.mp h
  exact Ew (λe x hx=>kF T p e x hx) _ _ s hs
 | .held n p,e,x,h=>by
  unfold bf at h
  obtain⟨s,hs,rfl⟩:=av.mp h
  exact kF T p e s hs
 | .price n p,e,x,h=>by
  unfold bf at h
  obtain⟨s,hs,rfl⟩:=av.mp h
  exact kF T p e s hs
theorem qf(T:List Nat):∀(ps:List Pt) (sm:List (List Tr×Nat)) (e:Nat),(∀s∈sm,e<=s.2)->∀x,x∈gl T ps sm->e<=x.2
 |[],sm,e,hs,x,h=>by unfold gl at h;exact hs x h
 |p::ps,sm,e,hs,x,h=>by
  unfold gl at h
  refine qf T ps _ e (λs h2=> ?_) x h
  obtain⟨u,hu,h2⟩:=bB.mp h2
  obtain⟨t,ht,rfl⟩:=av.mp h2
  exact aP (hs u hu) (kF T p u.2 t ht)
theorem yR(T:List Nat):∀(ps:List Pt) (k e:Nat) x,x∈eE T ps k e->e<=x.2
 |[],k,e,x,h=>by simp[eE]at h
 |p::ps,k,e,x,h=>by
  unfold eE at h
  rcases aZ.mp h with h|h
  ·obtain⟨t,ht,rfl⟩:=av.mp h
   exact kF T p e t ht
  ·exact yR T ps (k+1) e x h
end
mutual
theorem gH(T:List Nat):∀(p:Pt) (e:Nat),e<=T.length->∀x,x∈bf T p e->x.2<=T.length
 | .none,e,he,x,h=>by simp[bf]at h
 | .blank,e,he,x,h=>by simp[bf]at h;rw[h];exact he
 | .sign s,e,he,x,h=>by
  unfold bf at h
  split at h
  ·rename_i c ec
   split at h
   ·cases au.mp h;exact(aq.mp ec).1
   ·cases h
  ·cases h
 | .row ps,e,he,x,h=>by
  unfold bf at h
  obtain⟨s,hs,rfl⟩:=av.mp h
  exact qe T ps [([],e)] (λs hs=>by cases au.mp hs;exact he) s hs
 | .pick ps,e,he,x,h=>by unfold bf at h;exact yP T ps 0 e he x h
 | .again p,e,he,x,h=>by
  unfold bf at h
  obtain⟨s,hs,rfl⟩:=av.mp h
  exact Ev (λe he x hx=>gH T p e he x hx) _ _ he s hs
 | .held n p,e,he,x,h=>by
  unfold bf at h
  obtain⟨s,hs,rfl⟩:=av.mp h
  exact gH T p e he s hs
 | .price n p,e,he,x,h=>by
  unfold bf at h
  obtain⟨s,hs,rfl⟩:=av.mp h
  exact gH T p e he s hs
theorem qe(T:List Nat):∀(ps:List Pt) (sm:List (List Tr×Nat)),(∀s∈sm,s.2<=T.length)->∀x,x∈gl T ps sm->x.2<=T.length
 |[],sm,hs,x,h=>by unfold gl at h;exact hs x h
 |p::ps,sm,hs,x,h=>by
  unfold gl at h
  refine qe T ps _ (λs h2=> ?_) x h
  obtain⟨u,hu,h2⟩:=bB.mp h2
  obtain⟨t,ht,rfl⟩:=av.mp h2
  exact gH T p u.2 (hs u hu) t ht
theorem yP(T:List Nat):∀(ps:List Pt) (k e:Nat),e<=T.length->∀x,x∈eE T ps k e->x.2<=T.length
 |[],k,e,he,x,h=>by simp[eE]at h
 |p::ps,k,e,he,x,h=>by
  unfold eE at h
  rcases aZ.mp h with h|h
  ·obtain⟨t,ht,rfl⟩:=av.mp h
   exact gH T p e he t ht
  ·exact yP T ps (k+1) e he x h
end
mutual
theorem j3(T:List Nat):∀(p:Pt) (e:Nat),bN p=false->∀x,x∈bf T p e->e<x.2
 | .none,e,hc,x,h=>by simp[bf]at h
 | .blank,e,hc,x,h=>by simp[bN]at hc
 | .sign s,e,hc,x,h=>by
  unfold bf at h
  split at h
  ·split at h
   ·cases au.mp h;exact fL _
   ·cases h
  ·cases h
 | .row ps,e,hc,x,h=>by
  unfold bf at h
  obtain⟨s,hs,rfl⟩:=av.mp h
  exact yO T ps [([],e)] e (by simpa [bN]using hc) (λs hs=>by cases au.mp hs;exact am _) s hs
 | .pick ps,e,hc,x,h=>by unfold bf at h;exact yQ T ps 0 e (by simpa [bN]using hc) x h
 | .again p,e,hc,x,h=>by simp[bN]at hc
 | .held n p,e,hc,x,h=>by
  unfold bf at h
  obtain⟨s,hs,rfl⟩:=av.mp h
  exact j3 T p e (by simpa [bN]using hc) s hs
 | .price n p,e,hc,x,h=>by
  unfold bf at h
  obtain⟨s,hs,rfl⟩:=av.mp h
  exact j3 T p e (by simpa [bN]using hc) s hs
theorem yO(T:List Nat):∀(ps:List Pt) (sm:List (List Tr×Nat)) (e:Nat),iJ ps=false->(∀s∈sm,e<=s.2)->∀x,x∈gl T ps sm->e<x.2
 |[],sm,e,hc,hs,x,h=>by simp[iJ]at hc
 |p::ps,sm,e,hc,hs,x,h=>by
  unfold gl at h
  cases hp:bN p with
  |true=>
   refine yO T ps _ e (by simpa [iJ,hp]using hc) (λs h2=> ?_) x h
   obtain⟨u,hu,h2⟩:=bB.mp h2
   obtain⟨t,ht,rfl⟩:=av.mp h2
   exact aP (hs u hu) (kF T p u.2 t ht)
  |false=>
   refine qf T ps _ (e+1) (λs h2=> ?_) x h
   obtain⟨u,hu,h2⟩:=bB.mp h2
   obtain⟨t,ht,rfl⟩:=av.mp h2
   exact pY (hs u hu) (j3 T p u.2 hp t ht)
theorem yQ(T:List Nat):∀(ps:List Pt) (k e:Nat),jk ps=false->∀x,x∈eE T ps k e->e<x.2
 |[],k,e,hc,x,h=>by simp[eE]at h
 |p::ps,k,e,hc,x,h=>by
  unfold eE at h
  have hc':bN p=false/\jk ps=false:=by simpa [jk]using hc
  rcases aZ.mp h with h|h
  ·obtain⟨t,ht,rfl⟩:=av.mp h
   exact j3 T p e hc'.1 t ht
  ·exact yQ T ps (k+1) e hc'.2 x h
end
theorem Eu{L:Nat}{f:Nat->List (Tr×Nat)}(h:∀e,e<=L->∀x,x∈f e->e<x.2/\x.2<=L):∀(n m e:Nat),e<=L->L+1-e<=n->L+1-e<=m->Bh f n e=Bh f m e
 |0,m,e,he,hn,_=>by ac_nf
 |n+1,0,e,he,_,hm=>by ac_nf
 |n+1,m+1,e,he,hn,hm=>by
  unfold Bh
  congr 1
  refine rK λt ht=> ?_
  obtain⟨h1,h2⟩:=h e he t ht
  rw[Eu h n m t.2 h2 (by ac_nf) (by ac_nf)]
theorem sG{T:List Nat}{p:Pt}{e:Nat}(hc:bN p=false)(he:e<=T.length):bf T (.again p) e=((bf T p e).flatMap λt=>(bf T (.again p) t.2).map λu=>(Tr.again (t.1::(match u.1 with| .again ts=>ts|_=>[])),u.2))++[(.again [],e)]:=by
 have hf:∀e,e<=T.length->∀x,x∈bf T p e->e<x.2/\x.2<=T.length:=λe he x hx=>⟨j3 T p e hc x hx,gH T p e he x hx⟩
 conv=>lhs;unfold bf
 have e1:T.length+1-e=(T.length-e)+1:=by ac_nf
 rw[e1]
 unfold Bh
 rw[aR,List.map_flatMap]
 congr 1
 refine rK λt ht=> ?_
 obtain⟨h1,h2⟩:=hf e he t ht
 conv=>rhs;unfold bf
 rw[Eu hf (T.length-e) (T.length+1-t.2) t.2 h2 (by ac_nf) (by ac_nf),bp,bp]
 rfl
noncomputable def jY{α:Type}(l:List (α×Nat))(j:Nat):Nat:=l.countP λs=>s.2==j
noncomputable def nT(T:List Nat)(p:Pt)(e j:Nat):Nat:=jY (bf T p e) j
noncomputable def c7:Nat->(Nat->Nat)->Nat
 |0,_=>0
 |n+1,f=>c7 n f+f n
theorem dW{n:Nat}{f g:Nat->Nat}(h:∀k,k<n->f k=g k):c7 n f=c7 n g:=by
 induction n with
 |zero=>rfl
 |succ n ih=>simp only[c7];rw[ih λk hk=>h k (by ac_nf),h n (by ac_nf)]
theorem vL{n:Nat}{f g:Nat->Nat}:c7 n (λk=>f k+g k)=c7 n f+c7 n g:=by
 induction n with
 |zero=>rfl
 |succ n ih=>simp only[c7];ac_nf
theorem kU{n:Nat}:c7 n (λ_=>0)=0:=by
 induction n with
 |zero=>rfl
 |succ n ih=>simp only[c7];ac_nf
theorem qK{n i:Nat}{g:Nat->Nat}(h:i<n):c7 n (λk=>if i=k then g k else 0)=g i:=by
 induction n with
 |zero=>ac_nf
 |succ n ih=>
  simp only[c7]
  by_cases e:i=n
  ·subst e
   rw[if_pos rfl,dW (g:=λ_=>0) λk hk=>if_neg (by ac_nf),kU]
   ac_nf
  ·rw[if_neg e,ih (by ac_nf)];ac_nf
theorem ll{α β:Type}(l:List (α×Nat))(f:α->β)(j:Nat):jY (l.map λs=>(f s.1,s.2)) j=jY l j:=by
 unfold jY;rw[List.countP_map];rfl
theorem mn{α:Type}(l m:List (α×Nat))(j:Nat):jY (l++m) j=jY l j+jY m j:=by unfold jY;rw[List.countP_append]
theorem kc{α:Type}(x:α)(e j:Nat):jY [(x,e)] j=if e=j then 1 else 0:=by
 unfold jY
 by_cases h:e=j
 ·rw[if_pos h,List.countP_cons_of_pos (by simpa using h)];rfl
 ·rw[if_neg h,List.countP_cons_of_neg (by simpa using h)];rfl
theorem M0{α:Type}{n:Nat}{g:Nat->Nat}:∀(l:List (α×Nat)),(∀s∈l,s.2<n)->(l.map λs=>g s.2).sum=c7 n λk=>jY l k*g k
 |[],_=>by
  show 0=_
  rw[dW (g:=λ_=>0) λk _=>by simp[jY],kU]
 |s::l,h=>by
  have e:∀k,jY (s::l) k*g k=jY l k*g k+if s.2=k then g k else 0:=λk=>by
   have:jY (s::l) k=jY [s] k+jY l k:=mn [s] l k
   rw[this,kc s.1 s.2 k,Nat.add_mul]
   split<;>simp[gO]
  rw[aw,ba,M0 l λs hs=>h s (by simp[hs]),dW λk _=>e k,vL,qK (h s (by simp))]
  ac_nf
theorem pH{α β:Type}(l:List (α×Nat))(F:α×Nat->List (β×Nat))(j:Nat):jY (l.flatMap F) j=(l.map λs=>jY (F s) j).sum:=by
 unfold jY;rw[List.countP_flatMap];rfl
noncomputable def mW(T:List Nat)(p:Pt)(w:Nat->Nat):Nat->Nat:=λj=>c7 (T.length+1) λk=>w k*nT T p k j
noncomputable def lu(T:List Nat):List Pt->(Nat->Nat)->Nat->Nat
 |[],w=>w
 |p::ps,w=>lu T ps (mW T p w)
theorem qG(T:List Nat):∀(ps:List Pt) (sm:List (List Tr×Nat)),(∀s∈sm,s.2<=T.length)->∀j,jY (gl T ps sm) j=lu T ps (jY sm) j
 |[],sm,_,j=>by unfold gl lu;rfl
 |p::ps,sm,h,j=>by
  unfold gl lu
  rw[qG T ps _ (λs h2=>by
   obtain⟨u,hu,h2⟩:=bB.mp h2
   obtain⟨t,ht,rfl⟩:=av.mp h2
   exact gH T p u.2 (h u hu) t ht) j]
  congr 1
  funext i
  rw[pH]
  have:(sm.map λs=>jY ((bf T p s.2).map λt=>(s.1++[t.1],t.2)) i)=sm.map λs=>nT T p s.2 i:=fE λs _=>ll (bf T p s.2) (λt=>s.1++[t]) i
  rw[this]
  exact M0 (g:=λk=>nT T p k i) sm λs hs=>rZ (h s hs)
theorem Dq{T:List Nat}{ps:List Pt}{e j:Nat}(he:e<=T.length):nT T (.row ps) e j=lu T ps (λk=>if e=k then 1 else 0) j:=by
 show jY (bf T (.row ps) e) j=_
 unfold bf
 rw[ll (gl T ps [([],e)]) Tr.row,qG T ps _ (λs hs=>by cases au.mp hs;exact he)]
 congr 1
 funext k
 exact kc _ e k
theorem vD(T:List Nat):∀(ps:List Pt) (k e j:Nat),jY (eE T ps k e) j=(ps.map λp=>nT T p e j).sum
 |[],k,e,j=>by unfold eE;rfl
 |p::ps,k,e,j=>by
  unfold eE
  rw[mn,ll (bf T p e) (Tr.pick (k:Int)),vD T ps (k+1) e j,aw,ba]
  rfl
theorem qm{T:List Nat}{ps:List Pt}{e j:Nat}:nT T (.pick ps) e j=(ps.map λp=>nT T p e j).sum:=by
 show jY (bf T (.pick ps) e) j=_
 unfold bf
 exact vD T ps 0 e j
theorem iG{T:List Nat}{p:Pt}{e j:Nat}(hc:bN p=false)(he:e<=T.length):nT T (.again p) e j=(if e=j then 1 else 0)+c7 (T.length+1) λk=>nT T p e k*nT T (.again p) k j:=by
 show jY (bf T (.again p) e) j=_
 rw[sG hc he,mn,kc,pH]
 have:((bf T p e).map λt=>jY ((bf T (.again p) t.2).map λu=>(Tr.again (t.1::(match u.1 with| .again ts=>ts|_=>[])),u.2)) j)=(bf T p e).map λt=>nT T (.again p) t.2 j:=fE λt _=>ll (bf T (.again p) t.2) (λu=>Tr.again (t.1::(match u with| .again ts=>ts|_=>[]))) j
 rw[this,M0 (g:=λk=>nT T (.again p) k j) (bf T p e) λs hs=>rZ (gH T p e he s hs)]
 exact gO _ _
theorem uG{T:List Nat}{n:Str}{p:Pt}{e j:Nat}:nT T (.held n p) e j=nT T p e j:=by
 show jY (bf T (.held n p) e) j=_
 unfold bf
 exact ll (bf T p e) (Tr.held n) j
theorem rc{T:List Nat}{n:Int}{p:Pt}{e j:Nat}:nT T (.price n p) e j=nT T p e j:=by
 show jY (bf T (.price n p) e) j=_
 unfold bf
 exact ll (bf T p e) (Tr.price n) j
theorem FV{T:List Nat}{e j:Nat}:nT T .none e j=0:=rfl
theorem wj{T:List Nat}{e j:Nat}:nT T .blank e j=if e=j then 1 else 0:=kc _ e j
theorem jE{T:List Nat}{p:Pt}{e j:Nat}(he:e<=T.length)(hj:T.length<j):nT T p e j=0:=by
 show List.countP _ _=0
 rw[List.countP_eq_zero]
 intro x hx
 have:=gH T p e he x hx
 simp;ac_nf
theorem jP{T:List Nat}{p:Pt}{e j:Nat}(hc:bN p=false)(hj:j<=e):nT T p e j=0:=by
 show List.countP _ _=0
 rw[List.countP_eq_zero]
 intro x hx
 have:=j3 T p e hc x hx
 simp;ac_nf
noncomputable abbrev Ws:=List (Nat×Nat)
noncomputable def fk(ws:Ws):List (Key×PV):=ws.map λw=>(.inl (w.1:Int),.int (w.2:Int))
noncomputable def ku:Ws->Nat->Nat
 |[],_=>0
 |w::ws,j=>if w.1=j then w.2 else ku ws j
noncomputable def ji:Ws->Nat->Nat->Ws
 |[],j,c=>[(j,c)]
 |w::ws,j,c=>if w.1=j then(j,c)::ws else w::ji ws j c
theorem li(w:Nat×Nat)(ws:Ws):fk (w::ws)=(.inl (w.1:Int),.int (w.2:Int))::fk ws:=rfl
theorem rn{i j:Nat}(h:¬i=j):¬(iK (i:Int):Key)=iK (j:Int):=λe=>h (i0.mp (iK.inj e))
theorem ff(k:Key)(p:PV)(kvs:List (Key×PV))(x:Key):ig ((k,p)::kvs) x=if k=x then some p else ig kvs x:=by
 unfold ig
 by_cases h:k=x
 ·rw[if_pos h,List.find?_cons_of_pos (by simpa using h)];rfl
 ·rw[if_neg h,List.find?_cons_of_neg (by simpa using h)]
theorem mN:∀(ws:Ws) (j:Nat),(∀w∈ws,0<w.2)->ig (fk ws) (.inl (j:Int))=if ku ws j=0 then none else some (.int (ku ws j:Int))
 |[],j,_=>rfl
 |w::ws,j,h=>by
  rw[li,ff]
  unfold ku
  by_cases e:w.1=j
  ·have:=h w (by simp)
   rw[if_pos (by rw[e]),if_pos e,if_neg (by ac_nf)]
  ·rw[if_neg (rn e),if_neg e]
   exact mN ws j λx hx=>h x (by simp[hx])
theorem BD{ws:Ws}{j:Nat}(h:∀w∈ws,0<w.2):(ig (fk ws) (.inl (j:Int))).getD (.int 0)= .int (ku ws j:Int):=by
 rw[mN ws j h]
 split
 ·rename_i e;rw[e];rfl
 ·rfl
theorem sf{k:Key}{p v:PV}{kvs:List (Key×PV)}(h:k∉kvs.map (·.1)):iE ((k,p)::kvs) k v=(k,v)::kvs:=by
 unfold iE
 rw[if_pos (by simp)]
 rw[aw,if_pos rfl]
 congr 1
 have:∀kv∈kvs,(if kv.1=k then(kv.1,v)else kv)=kv:=λkv hk=>if_neg λe=>h (av.mpr ⟨kv,hk,e⟩)
 rw[fE this,List.map_id']
theorem lE{k x:Key}{p v:PV}{kvs:List (Key×PV)}(h:¬k=x):iE ((k,p)::kvs) x v=(k,p)::iE kvs x v:=by
 unfold iE
 have e:(((k,p)::kvs).any λkv=>decide (kv.1=x))=(kvs.any λkv=>decide (kv.1=x)):=by
  rw[cT];simp[h]
 rw[e]
 split
 ·rw[aw,if_neg h]
 ·rfl
theorem qY:∀(ws:Ws) (j c:Nat),(ws.map (·.1)).Nodup->iE (fk ws) (.inl (j:Int)) (.int (c:Int))=fk (ji ws j c)
 |[],j,c,_=>rfl
 |w::ws,j,c,h=>by
  have h':=bi.mp (show(w.1::ws.map (·.1)).Nodup from h)
  rw[li]
  unfold ji
  by_cases e:w.1=j
  ·rw[if_pos e,e,sf,li]
   intro hm
   obtain⟨kv,hk,e2⟩:=av.mp hm
   obtain⟨x,hx,rfl⟩:=av.mp hk
   have:x.1=j:=i0.mp (iK.inj e2)
   exact h'.1 (av.mpr ⟨x,hx,by rw[this,e]⟩)
  ·rw[if_neg e,lE (rn e),qY ws j c h'.2,li]
theorem zD:∀(ws:Ws) (j c i:Nat),ku (ji ws j c) i=if j=i then c else ku ws i
 |[],j,c,i=>by unfold ji ku;rfl
 |w::ws,j,c,i=>by
  unfold ji
  by_cases e:w.1=j
  ·rw[if_pos e]
   unfold ku
   by_cases e2:j=i
   ·rw[if_pos e2,if_pos e2]
   ·rw[if_neg e2,if_neg e2,if_neg (by rw[e];exact e2)]
  ·rw[if_neg e]
   unfold ku
   rw[zD ws j c i]
   by_cases e2:w.1=i
   ·rw[if_pos e2,if_pos e2,if_neg (λz=>e (by rw[e2,z]))]
   ·rw[if_neg e2,if_neg e2]
theorem nh:∀{ws:Ws} {j c:Nat} {x:Nat×Nat},x∈ji ws j c->x=(j,c)\/x∈ws
 |[],j,c,x,h=>by unfold ji at h;exact .inl (au.mp h)
 |w::ws,j,c,x,h=>by
  unfold ji at h
  split at h
  ·rcases aI.mp h with h|h
   ·exact .inl h
   ·exact .inr (by simp[h])
  ·rcases aI.mp h with h|h
   ·exact .inr (by simp[h])
   ·rcases nh h with h|h
    ·exact .inl h
    ·exact .inr (by simp[h])
theorem kX:∀{ws:Ws} {j c:Nat},(ws.map (·.1)).Nodup->((ji ws j c).map (·.1)).Nodup
 |[],j,c,h=>by unfold ji;simp
 |w::ws,j,c,h=>by
  have h':=bi.mp (show(w.1::ws.map (·.1)).Nodup from h)
  unfold ji
  by_cases e:w.1=j
  ·rw[if_pos e]
   exact bi.mpr ⟨by rw[<-e];exact h'.1,h'.2⟩
  ·rw[if_neg e]
   refine bi.mpr ⟨λhm=> ?_,kX h'.2⟩
   obtain⟨x,hx,ex⟩:=av.mp hm
   rcases nh hx with rfl|hx
   ·exact e ex.symm
   ·exact h'.1 (av.mpr ⟨x,hx,ex⟩)
structure Wy(ws:Ws)(n:Nat)(f:Nat->Nat):Prop where
 nd:(ws.map (·.1)).Nodup
 lt:∀w∈ws,w.1<n
 pos:∀w∈ws,0<w.2
 val:∀j,ku ws j=f j
theorem Wy.nil{n:Nat}:Wy [] n λ_=>0:=⟨by simp,by simp,by simp,λ_=>rfl⟩
theorem Wy.one{n e:Nat}(h:e<n):Wy [(e,1)] n λk=>if e=k then 1 else 0:=⟨by simp,by simpa using h,by simp,λj=>rfl⟩
theorem Wy.congr{ws:Ws}{n:Nat}{f g:Nat->Nat}(h:Wy ws n f)(e:∀j,f j=g j):Wy ws n g:=⟨h.nd,h.lt,h.pos,λj=>(h.val j).trans (e j)⟩
theorem nr:∀(n:Nat) (l:List Nat),l.Nodup->(∀x∈l,x<n)->l.length<=n
 |0,l,_,hl=>by
  cases l with
  |nil=>exact am _
  |cons x l=>exact absurd (hl x (by simp)) (jm _)
 |n+1,l,hn,hl=>by
  have h1:=nr n (l.filter (· !=n)) (hn.filter _) λx hx=>by
   have:=hl x (hJ.mp hx).1
   have h2:=(hJ.mp hx).2
   simp at h2
   ac_nf
  have h2:=List.nodup_iff_count.mp hn n
  have h3:=List.length_eq_countP_add_countP (p:=(· !=n)) (l:=l)
  rw[List.countP_eq_length_filter (p:=(· !=n))]at h3
  have h4:l.countP (λa=>decide (¬(a !=n)=true))=l.count n:=by
   unfold List.count
   congr 1
   funext a
   by_cases e:a=n<;>simp[e]
  ac_nf
theorem Wy.len{ws:Ws}{n:Nat}{f:Nat->Nat}(h:Wy ws n f):ws.length<=n:=by
 have:=nr n (ws.map (·.1)) h.nd λx hx=>by obtain⟨w,hw,rfl⟩:=av.mp hx;exact h.lt w hw
 simpa using this
theorem Wy.put{ws:Ws}{n k c:Nat}{f:Nat->Nat}(h:Wy ws n f)(hk:k<n)(hc:0<c):Wy (ji ws k (ku ws k+c)) n λj=>f j+if k=j then c else 0:=
 ⟨kX h.nd,λw hw=>by rcases nh hw with rfl|hw;exact hk;exact h.lt w hw,λw hw=>by rcases nh hw with rfl|hw;(show 0<ku ws k+c;ac_nf);exact h.pos w hw,λj=>by
  rw[zD]
  by_cases e:k=j
  ·rw[if_pos e,if_pos e,e,h.val]
  ·rw[if_neg e,if_neg e,h.val];ac_nf⟩
noncomputable def mv(t:Nat):Ws->Ws->Ws
 |ws,[]=>ws
 |ws,w::ms=>mv t (ji ws w.1 (ku ws w.1+w.2*t)) ms
theorem tU(t:Nat):∀(ms ws:Ws) (w:Nat×Nat),mv t ws (ms++[w])=ji (mv t ws ms) w.1 (ku (mv t ws ms) w.1+w.2*t)
 |[],ws,w=>rfl
 |m::ms,ws,w=>by
  show mv t (ji ws m.1 (ku ws m.1+m.2*t)) (ms++[w])=_
  rw[tU t ms]
  rfl
theorem nv:∀{ms:Ws} {j:Nat},j∉ms.map (·.1)->ku ms j=0
 |[],_,_=>rfl
 |w::ms,j,h=>by
  unfold ku
  rw[aw,aI,not_or]at h
  rw[if_neg (aG h.1),nv h.2]
theorem Wy.add{t n:Nat}(ht:0<t):∀{ms ws:Ws} {f:Nat->Nat},Wy ws n f->(ms.map (·.1)).Nodup->(∀w∈ms,w.1<n)->(∀w∈ms,0<w.2)->Wy (mv t ws ms) n λj=>f j+ku ms j*t
 |[],ws,f,h,_,_,_=>h.congr λj=>by simp[ku]
 |m::ms,ws,f,h,nd,lt,ps=>by
  have nd':=bi.mp (show(m.1::ms.map (·.1)).Nodup from nd)
  refine(Wy.add ht (ms:=ms) (h.put (lt m (by simp)) (Nat.mul_pos (ps m (by simp)) ht)) nd'.2 (λw hw=>lt w (by simp[hw])) λw hw=>ps w (by simp[hw])).congr λj=> ?_
  show f j+(if m.1=j then m.2*t else 0)+ku ms j*t=f j+(if m.1=j then m.2 else ku ms j)*t
  by_cases e:m.1=j
  ·rw[if_pos e,if_pos e,nv (by rw[<-e];exact nd'.1)];ac_nf
  ·rw[if_neg e,if_neg e];ac_nf
theorem Wy.put_part{t n i:Nat}{ms ws:Ws}{f g:Nat->Nat}(ht:0<t)(h:Wy ws n f)(hm:Wy ms n g):Wy (mv t ws (ms.take i)) n λj=>f j+ku (ms.take i) j*t:=
 h.add ht (hm.nd.sublist ((List.take_sublist i ms).map _)) (λw hw=>hm.lt w (mE hw)) λw hw=>hm.pos w (mE hw)
theorem Bb{t i:Nat}{ms ws:Ws}{w:Nat×Nat}(h:ms[i]? =some w):mv t ws (ms.take (i+1))=ji (mv t ws (ms.take i)) w.1 (ku (mv t ws (ms.take i)) w.1+w.2*t):=by
 rw[mD,h]
 exact tU t _ ws w
theorem oV:∀{ms:Ws} {i:Nat} {w:Nat×Nat},(ms.map (·.1)).Nodup->ms[i]? =some w->ku ms w.1=w.2
 |[],i,w,_,h=>by simp at h
 |m::ms,0,w,nd,h=>by
  simp at h;subst h
  unfold ku;rw[if_pos rfl]
 |m::ms,i+1,w,nd,h=>by
  have nd':=bi.mp (show(m.1::ms.map (·.1)).Nodup from nd)
  have h':ms[i]? =some w:=by simpa using h
  have hm:w∈ms:=ax h'
  unfold ku
  rw[if_neg (λe=>nd'.1 (av.mpr ⟨w,hm,e.symm⟩))]
  exact oV nd'.2 h'
theorem KA{n:Nat}{h:Nat->Nat}:∀{ws:Ws},(ws.map (·.1)).Nodup->(∀w∈ws,w.1<n)->(ws.map λw=>h w.1*w.2).sum=c7 n λk=>ku ws k*h k
 |[],_,_=>by
  show 0=_
  rw[dW (g:=λ_=>0) λk _=>by simp[ku],kU]
 |w::ws,nd,lt=>by
  have nd':=bi.mp (show(w.1::ws.map (·.1)).Nodup from nd)
  rw[aw,ba,KA nd'.2 λx hx=>lt x (by simp[hx])]
  have e:∀k,ku (w::ws) k*h k=ku ws k*h k+if w.1=k then w.2*h k else 0:=λk=>by
   show(if w.1=k then w.2 else ku ws k)*h k=_
   by_cases e:w.1=k
   ·rw[if_pos e,if_pos e,nv (by rw[<-e];exact nd'.1)];ac_nf
   ·rw[if_neg e,if_neg e];ac_nf
  rw[dW λk _=>e k,vL,qK (g:=λk=>w.2*h k) (lt w (by simp)),Nat.mul_comm]
  ac_nf
noncomputable def pR(l:List Nat):Str:=⟨l.toArray⟩
theorem eW(l:List Nat):(pR l).length=l.length:=by
 show l.toArray.size=_
 rw[aA]
theorem qo(l:List Nat):(pR l).cps.toList=l:=List.toList_toArray
theorem Jx(s:Str):pR s.cps.toList=s:=by
 show(⟨s.cps.toList.toArray⟩:Str)=s
 rw[Array.toArray_toList]
theorem mT{n:Nat}{f:Nat->Nat}(h:c7 n f≠0):∃k,k<n/\f k≠0:=by
 induction n with
 |zero=>exact absurd rfl h
 |succ n ih=>
  by_cases e:f n=0
  ·obtain⟨k,hk,h2⟩:=ih (by intro z;apply h;show c7 n f+f n=0;ac_nf)
   exact⟨k,by ac_nf,h2⟩
  ·exact⟨n,by ac_nf,e⟩
theorem tz{T:List Nat}{p:Pt}{e j:Nat}(h:nT T p e j≠0):e<=j:=by
 have:0<nT T p e j:=eJ h
 obtain⟨x,hx,hp⟩:=jp.mp this
 have h1:=kF T p e x hx
 have h2:x.2=j:=by simpa using hp
 ac_nf
noncomputable def dl(e:Nat):Nat->Nat:=λk=>if e=k then 1 else 0
theorem uA{T:List Nat}{lo:Nat}:∀(ps:List Pt) {w:Nat->Nat},(∀k,w k≠0->lo<=k)->∀k,lu T ps w k≠0->lo<=k
 |[],w,h,k,hk=>h k hk
 |p::ps,w,h,k,hk=>by
  refine uA ps (w:=mW T p w) (λj hj=> ?_) k hk
  obtain⟨i,_,hi⟩:=mT hj
  have h1:w i≠0:=λz=>hi (by rw[z,gL])
  have h2:nT T p i j≠0:=λz=>hi (by rw[z,gM])
  exact aP (h i h1) (tz h2)
theorem HW{e k:Nat}(h:dl e k≠0):e<=k:=by
 unfold dl at h
 split at h
 ·ac_nf
 ·exact absurd rfl h
theorem oJ(T:List Nat)(c:Pt):∀(ps:List Pt) (w:Nat->Nat),lu T (ps++[c]) w=mW T c (lu T ps w)
 |[],w=>rfl
 |p::ps,w=>oJ T c ps (mW T p w)
theorem mV{T:List Nat}{p:Pt}{e j:Nat}(he:e<=T.length):mW T p (dl e) j=nT T p e j:=by
 show c7 (T.length+1) (λk=>dl e k*nT T p k j)=_
 rw[dW (g:=λk=>if e=k then nT T p k j else 0) λk _=>by unfold dl;split<;>simp]
 exact qK (by ac_nf)
noncomputable def ID:Pt->Bool
 | .row _=>true
 | .held _ _=>true
 | .price _ _=>true
 | .blank=>true
 |_=>false
theorem kZ{T:List Nat}{q:Pt}{e j:Nat}(h:ID q=true)(he:e<=T.length):nT T q e j=lu T (cE q) (dl e) j:=by
 cases q with
 |row ps=>exact Dq he
 |held n p=>rw[uG];exact(mV he).symm
 |price n p=>rw[rc];exact(mV he).symm
 |blank=>exact wj
 |_=>cases h
theorem Wy.key{ws:Ws}{n:Nat}{f:Nat->Nat}{i:Nat}{w:Nat×Nat}(h:Wy ws n f)(e:ws[i]? =some w):f w.1=w.2/\0<w.2/\w.1<n:=by
 have hm:=ax e
 exact⟨by rw[<-h.val,oV h.nd e],h.pos w hm,h.lt w hm⟩
theorem Wy.read{ws:Ws}{n:Nat}{f:Nat->Nat}{i:Nat}{w:Nat×Nat}(h:Wy ws n f)(e:ws[i]? =some w):ig (fk ws) (.inl (w.1:Int))=some (.int (w.2:Int)):=by
 rw[mN ws w.1 h.pos,oV h.nd e,if_neg (by have:=h.pos w (ax e);ac_nf)]
structure Cs(T:List Nat)(p:Pt):Prop where
 len:T.length<=900
 siz:size p<=10000
 big:∀q∈makes p,∀e,e<=T.length->∀j,nT T q e j<2^64
 ag:∀q,Pt.again q∈makes p->bN q=false
noncomputable def K7(T:List Nat)(m pa tb:Addr):List (Str×PV):=[("signs",.str (pR T)),("makes",.ref m),("parts",.ref pa),("table",.ref tb)]
structure Tb(C:Addr)(G:Gp)(a:Addr)(T:List Nat)(p:Pt)(D:Nat->Nat->Prop)(dx m pa tb:Addr)(ts:List Addr):Prop where
 ins:G a=some (.ins C dx (K7 T m pa tb))
 mks:G m=some (.lst (cN (makes p)))
 pts:G pa=some (.lst (gK p))
 tbl:G tb=some (.lst (ts.map PV.ref))
 tl:ts.length=size p
 row:∀(i:Nat) (t:Addr),ts[i]? =some t->∃kvs,G t=some (.dK kvs)/\∀q,(makes p)[i]? =some q->∀e,D i e->e<=T.length->∃d ws,ig kvs (.inl (e:Int))=some (.ref d)/\G d=some (.rd (fk ws))/\Wy ws (T.length+1) (nT T q e)
theorem Tb.ge{C a dx m pa tb:Addr}{G G':Gp}{T:List Nat}{p:Pt}{D:Nat->Nat->Prop}{ts:List Addr}(h:Tb C G a T p D dx m pa tb ts)(g:GE G G'):Tb C G' a T p D dx m pa tb ts:=
 ⟨g _ _ h.ins,g _ _ h.mks,g _ _ h.pts,g _ _ h.tbl,h.tl,λi t e=>by
  obtain⟨kvs,h1,h3⟩:=h.row i t e
  refine⟨kvs,g _ _ h1,λq hq e he hl=> ?_⟩
  obtain⟨d,ws,h4,h5,h6⟩:=h3 q hq e he hl
  exact⟨d,ws,h4,g _ _ h5,h6⟩⟩
noncomputable def Dn(n e:Nat):Nat->Nat->Prop:=λi k=>e<k\/k=e/\n<i
theorem Ep{α:Type}{ts:List Addr}{i:Nat}{t:Addr}(h:ts[i]? =some t):(ts.map PV.ref)[i]? =some (.ref t):=by rw[aC,h];rfl
theorem ES{α:Type}{l:List α}{i:Nat}{x:α}(h:l[i]? =some x):l=l.take i++x::l.drop (i+1):=by
 obtain⟨hi,rfl⟩:=aq.mp h
 rw[List.getElem_cons_drop hi,cP]
theorem gY{p qq cc:Pt}{n i:Nat}{x:PV}(hq:(makes p)[n]? =some qq)(hcc:(cE qq)[i]? =some cc)(hx:((cO (n+1) (cE qq)).map fR)[i]? =some x):∃j:Nat,x= .int (j:Int)/\(makes p)[j]? =some cc/\n<j:=by
 have e1:=ES hcc
 have hi:=(aq.mp hcc).1
 refine⟨n+1+cb ((cE qq).take i),?_,vR hq e1,by ac_nf⟩
 rw[e1,lK,aR,bO (by rw[ai,eO,bo];ac_nf),ai,eO,bo,lQ (by ac_nf),lz]at hx
 simp only[cO,aw,yA]at hx
 exact(bc hx).symm
theorem Tb.read{C a dx m pa tb:Addr}{G:Gp}{T:List Nat}{p cc:Pt}{D:Nat->Nat->Prop}{ts:List Addr}{j k:Nat}(h:Tb C G a T p D dx m pa tb ts)(hj:(makes p)[j]? =some cc)(hd:D j k)(hk:k<=T.length):
  ∃t d kvs ms,(ts.map PV.ref)[j]? =some (.ref t)/\G t=some (.dK kvs)/\ig kvs (.inl (k:Int))=some (.ref d)/\G d=some (.rd (fk ms))/\Wy ms (T.length+1) (nT T cc k):=by
 have hjl:=(aq.mp hj).1
 rw[bW,<-h.tl]at hjl
 obtain⟨kvs,h1,h3⟩:=h.row j ts[j] (ak hjl)
 obtain⟨d,ws,h4,h5,h6⟩:=h3 cc hj k hd hk
 exact⟨ts[j],d,kvs,ws,by rw[aC,ak hjl];rfl,h1,h4,h5,h6⟩
theorem Wy.big{T:List Nat}{p cc:Pt}{ms:Ws}{k:Nat}(cs:Cs T p)(hc:cc∈makes p)(hk:k<=T.length)(h:Wy ms (T.length+1) (nT T cc k)):∀w∈ms,w.2<2^64:=λw hw=>by
 obtain⟨i,hi⟩:=iO.mp hw
 rw[<-(h.key hi).1]
 exact cs.big cc hc k hk _
theorem jS(ws:Ws):(fk ws).map (λkv=>kP kv.1)=ws.map λw=>PV.int (w.1:Int):=by unfold fk;rw[bp];rfl
theorem zG{ws:Ws}{i:Nat}{x:PV}(h:(ws.map λw=>PV.int (w.1:Int))[i]? =some x):∃w,ws[i]? =some w/\x= .int (w.1:Int):=by
 rw[aC]at h
 cases e:ws[i]? with
 |none=>rw[e]at h;cases h
 |some w=>rw[e]at h;cases h;exact⟨w,rfl,rfl⟩
noncomputable def xM(T:List Nat)(c:Pt)(ws:Ws)(j:Nat):Nat:=(ws.map λw=>nT T c w.1 j*w.2).sum
theorem tq{T:List Nat}{c:Pt}{ws:Ws}{i j:Nat}{w:Nat×Nat}(h:ws[i]? =some w):xM T c (ws.take (i+1)) j=xM T c (ws.take i) j+nT T c w.1 j*w.2:=by
 unfold xM
 rw[mD,h]
 simp
theorem wb{T:List Nat}{c:Pt}{ws:Ws}{f:Nat->Nat}{j:Nat}(h:Wy ws (T.length+1) f):xM T c ws j=mW T c f j:=by
 unfold xM
 rw[KA (h:=λk=>nT T c k j) h.nd h.lt]
 exact dW λk _=>by rw[h.val]
theorem qB{k k':Key}{v:PV}:∀(kvs:List (Key×PV)),ig (iE kvs k v) k'=if k=k' then some v else ig kvs k'
 |[]=>by
  show ig [(k,v)] k'=_
  rw[ff]
 |(x,p)::kvs=>by
  by_cases e:x=k
  ·subst e
   unfold iE
   rw[if_pos (by simp),aw,if_pos rfl,ff]
   by_cases e2:x=k'
   ·rw[if_pos e2,if_pos e2]
   ·rw[if_neg e2,if_neg e2,ff,if_neg e2]
    clear p
    induction kvs with
    |nil=>rfl
    |cons y ys ih=>
     obtain⟨y1,y2⟩:=y
     rw[aw]
     by_cases e3:y1=x
     ·rw[if_pos e3,ff,ff,ih,e3,if_neg e2,if_neg e2]
     ·rw[if_neg e3,ff,ff,ih]
  ·rw[lE e,ff,ff,qB kvs]
   by_cases e2:k=k'
   ·rw[if_pos e2,if_pos e2,if_neg (by rw[<-e2];exact e)]
   ·rw[if_neg e2,if_neg e2]
theorem ni{k:Key}{v:PV}(kvs:List (Key×PV)):(iE kvs k v).length<=kvs.length+1:=by
 unfold iE
 split
 ·rw[ai];ac_nf
 ·rw[aL];exact am _
section
variable{C a dx m pa tb t d:Addr}{G:Gp}{T:List Nat}{p q:Pt}{D D':Nat->Nat->Prop}{ts:List Addr}{n e:Nat}{kvs:List (Key×PV)}{ws:Ws}
theorem Tb.mono(h:Tb C G a T p D dx m pa tb ts)(hd:∀j e,e<=T.length->D' j e->D j e):Tb C G a T p D' dx m pa tb ts:=
 ⟨h.ins,h.mks,h.pts,h.tbl,h.tl,λi t e=>by
  obtain⟨kvs,h1,h3⟩:=h.row i t e
  exact⟨kvs,h1,λq hq e he hl=>h3 q hq e (hd _ _ hl he) hl⟩⟩
theorem Tb.mono'(h:Tb C G a T p D dx m pa tb ts)(hd:∀j e,j<size p->e<=T.length->D' j e->D j e):Tb C G a T p D' dx m pa tb ts:=
 ⟨h.ins,h.mks,h.pts,h.tbl,h.tl,λi t e=>by
  obtain⟨kvs,h1,h3⟩:=h.row i t e
  have hi:=(aq.mp e).1
  rw[h.tl]at hi
  exact⟨kvs,h1,λq hq e he hl=>h3 q hq e (hd _ _ hi hl he) hl⟩⟩
theorem Tb.write(h:Tb C G a T p D dx m pa tb ts)(nd:ts.Nodup)(ht:ts[n]? =some t)(hq:(makes p)[n]? =some q)(hk:G t=some (.dK kvs))(hd:G d=none)(hw:Wy ws (T.length+1) (nT T q e))
  (hD:∀j k,k<=T.length->D' j k->D j k\/(j=n/\k=e)):Tb C (up (up G d (.rd (fk ws))) t (.dK (iE kvs (.inl (e:Int)) (.ref d)))) a T p D' dx m pa tb ts:=by
 have nt:∀{b:Addr} {o:MO},G b=some o->(∀k,o≠ .dK k)->up (up G d (.rd (fk ws))) t (.dK (iE kvs (.inl (e:Int)) (.ref d))) b=some o:=fun{b o} hb ho=>by
  rw[aE (λz=>by rw[z,hk]at hb;cases hb;exact ho _ rfl),aE (aY hb hd)];exact hb
 refine⟨nt h.ins (by simp),nt h.mks (by simp),nt h.pts (by simp),nt h.tbl (by simp),h.tl,λi t' hi=> ?_⟩
 obtain⟨kvs',h1,h3⟩:=h.row i t' hi
 by_cases e1:i=n
 ·subst e1
  rw[ht]at hi;cases hi
  rw[hk]at h1;cases h1
  refine⟨_,af,λq' hq' k hk' hl=> ?_⟩
  rw[hq]at hq';cases hq'
  rw[qB]
  by_cases e2:k=e
  ·subst e2
   exact⟨d,ws,if_pos rfl,by rw[aE (λz=>by rw[z,hk]at hd;cases hd),af],hw⟩
  ·rcases hD i k hl hk' with z|⟨_,z⟩
   ·obtain⟨d',ws',h4,h5,h6⟩:=h3 q hq k z hl
    exact⟨d',ws',by rw[if_neg (rn (aG e2))];exact h4,nt h5 (by simp),h6⟩
   ·exact absurd z e2
 ·have net:t'≠t:=λz=>by
   subst z
   have h1:=(aq.mp hi)
   have h2:=(aq.mp ht)
   obtain⟨a1,b1⟩:=h1
   obtain⟨a2,b2⟩:=h2
   have pw:=wZ.mp nd
   rcases Nat.lt_or_gt_of_ne e1 with z|z
   ·exact pw i n a1 a2 z (by rw[b1,b2])
   ·exact pw n i a2 a1 z (by rw[b1,b2])
  refine⟨kvs',by rw[aE net,aE (aY h1 hd)];exact h1,λq' hq' k hk' hl=> ?_⟩
  rcases hD i k hl hk' with z|⟨z,_⟩
  ·obtain⟨d',ws',h4,h5,h6⟩:=h3 q' hq' k z hl
   exact⟨d',ws',h4,nt h5 (by simp),h6⟩
  ·exact absurd z e1
end
noncomputable def gv(v:List Nat)(n:Nat):Nat:=v.getD n 0
noncomputable def Bd(a b:List Nat):Bool:=(bE 6).all λn=>decide (gv a n<=gv b n)
noncomputable def EK(a b:List Nat):List Nat:=(bE 6).map λn=>gv a n+gv b n
noncomputable def qA(a b:List Nat):List Nat:=(bE 6).map λn=>c7 (n+1) λi=>gv a i*gv b (n-i)
noncomputable def i6(a:Nat->Nat):Nat->List Nat
 |0=>[1]
 |n+1=>i6 a n++[c7 (n+1) λi=>a (i+1)*gv (i6 a n) (n-i)]
noncomputable def yJ(v:List Nat):List Nat:=i6 (gv v) 5
noncomputable def NB:List (List (List Nat)):=[[[0,1,0,0,0,0]],[[0,3,0,0,0,0],[0,0,0,1,0,0],[0,0,1,0,0,0]],[[0,1,2,3,4,5],[0,5,0,0,0,0],[0,0,0,4,0,0],[0,0,4,0,0,0],[0,2,0,1,0,0],[0,2,1,0,0,0]],[[0,1,3,9,27,81],[0,3,6,9,12,15],[0,0,0,12,0,0],[0,0,8,4,0,0],[0,0,12,0,0,0],[0,12,0,0,0,0],[0,4,4,1,0,0],[0,6,3,0,0,0]],[[0,1,5,25,125,625],[0,3,9,27,81,243],[0,5,10,15,20,25],[0,9,9,9,9,9],[0,0,12,8,8,8],[0,0,18,9,0,0],[0,0,27,0,0,0],[0,3,12,12,0,0],[0,6,15,6,0,0],[0,9,18,0,0,0],[0,12,12,3,0,0],[0,18,9,0,0,0],[0,27,0,0,0,0]],[[0,1,12,144,1728,20736],[0,3,15,75,375,1875],[0,9,27,81,243,729],[0,12,24,36,48,60],[0,18,27,18,18,18],[0,27,18,18,18,18],[0,0,32,16,0,0],[0,0,48,0,0,0],[0,48,0,0,0,0],[0,0,36,9,0,0],[0,9,36,0,0,0],[0,15,30,0,0,0],[0,20,20,5,0,0],[0,30,15,0,0,0],[0,36,9,0,0,0]]]
noncomputable def AB:List (List (List Nat)):=[[[1,0,0,0,0,0],[0,1,0,0,0,0]],[[1,1,1,1,1,1],[0,3,0,0,0,0],[1,2,0,0,0,0],[2,1,0,0,0,0],[3,0,0,0,0,0]],[[1,3,9,27,81,243],[2,3,2,2,2,2],[3,2,2,2,2,2],[0,5,0,0,0,0],[1,4,0,0,0,0],[4,1,0,0,0,0],[5,0,0,0,0,0]],[[1,5,25,125,625,3125],[2,4,9,27,81,243],[3,3,9,27,81,243],[3,6,9,12,15,18],[4,4,4,4,4,4],[5,2,2,2,2,2],[0,12,0,0,0,0],[4,8,0,0,0,0],[8,4,0,0,0,0],[12,0,0,0,0,0]],[[1,12,144,1728,20736,248832],[2,6,25,125,625,3125],[3,5,25,125,625,3125],[4,12,36,108,324,972],[5,3,9,27,81,243],[5,10,15,20,25,30],[9,9,9,9,9,9],[8,12,8,8,8,8],[12,8,8,8,8,8],[0,18,9,0,0,0],[0,27,0,0,0,0],[6,15,6,0,0,0],[9,18,0,0,0,0],[12,12,3,0,0,0],[18,9,0,0,0,0],[27,0,0,0,0,0]],[[1,27,729,19683,531441,14348907],[2,13,144,1728,20736,248832],[3,12,144,1728,20736,248832],[4,20,100,500,2500,12500],[5,5,25,125,625,3125],[9,27,81,243,729,2187],[12,12,36,108,324,972],[12,24,36,48,60,72],[18,27,18,18,18,18],[27,18,18,18,18,18],[0,48,0,0,0,0],[16,32,0,0,0,0],[32,16,0,0,0,0],[48,0,0,0,0,0],[0,30,15,0,0,0],[0,36,9,0,0,0],[9,36,0,0,0,0],[20,20,5,0,0,0],[36,9,0,0,0,0]]]
noncomputable def SA:List (List (List Nat)):=[[[1,0,0,0,0,0],[0,1,0,0,0,0]],[[1,1,1,1,1,1],[2,0,0,0,0,0],[0,2,0,0,0,0]]]
noncomputable def SN:List (List (List Nat)):=[[[0,1,0,0,0,0]],[[0,2,0,0,0,0],[0,0,1,0,0,0]]]
noncomputable def AT(k:Nat):List (List Nat):=AB.getD k []
noncomputable def NT(k:Nat):List (List Nat):=NB.getD k []
noncomputable def ST(k:Nat):List (List Nat):=SA.getD (min k 1) []
noncomputable def SM(k:Nat):List (List Nat):=SN.getD (min k 1) []
noncomputable def kQ(x y z:List Nat):List Nat:=qA (qA x y) z
noncomputable def vq(x y z:List Nat):List Nat:=EK (EK x y) z
noncomputable def in1(v:List Nat)(R:List (List Nat)):Bool:=R.any λw=>Bd v w
noncomputable def HY(f:List Nat->List Nat->List Nat->List Nat)(A B C R:List (List Nat)):Bool:=A.all λx=>B.all λy=>C.all λz=>in1 (f x y z) R
noncomputable def Nq(f:List Nat->List Nat->List Nat)(A B R:List (List Nat)):Bool:=A.all λx=>B.all λy=>in1 (f x y) R
noncomputable def wX(p:Nat->Nat->Nat->Bool):Bool:=(bE 5).all λa=>(bE (5-a)).all λb=>(bE (5-a-b)).all λc=>p a b c
noncomputable def yp(p:Nat->Nat->Bool):Bool:=(bE 5).all λa=>(bE (5-a)).all λb=>p a b
theorem g8{p:Nat->Nat->Nat->Bool}(h:wX p=true){a b c:Nat}(hk:a+b+c<=4):p a b c=true:=by
 unfold wX at h
 have h1:=aU.mp h a (cS.mpr (by ac_nf))
 have h2:=aU.mp h1 b (cS.mpr (by ac_nf))
 exact aU.mp h2 c (cS.mpr (by ac_nf))
theorem iW{p:Nat->Nat->Bool}(h:yp p=true){a b:Nat}(hk:a+b<=4):p a b=true:=by
 unfold yp at h
 have h1:=aU.mp h a (cS.mpr (by ac_nf))
 exact aU.mp h1 b (cS.mpr (by ac_nf))
theorem tRA:wX (λa b c=>HY kQ (AT a) (AT b) (AT c) (AT (a+b+c+1)))=true:=by decide+kernel
theorem Lg:wX (λa b c=>HY kQ (NT a) (AT b) (AT c) (NT (a+b+c+1)))=true:=by decide+kernel
theorem Lf:wX (λa b c=>HY kQ (AT a) (NT b) (AT c) (NT (a+b+c+1)))=true:=by decide+kernel
theorem N4:wX (λa b c=>HY kQ (AT a) (AT b) (NT c) (NT (a+b+c+1)))=true:=by decide+kernel
theorem tPA:wX (λa b c=>HY vq (AT a) (AT b) (AT c) (AT (a+b+c+1)))=true:=by decide+kernel
theorem tPN:wX (λa b c=>HY vq (NT a) (NT b) (NT c) (NT (a+b+c+1)))=true:=by decide+kernel
noncomputable def Hc(f:List Nat->List Nat->List Nat->List Nat)(A B R:List (List Nat)):Bool:=Nq (λx t=>f x t t) A B R&&Nq (λx t=>f t x t) A B R&&Nq (λx t=>f t t x) A B R
theorem tDA:yp (λa k=>Hc kQ (AT a) (ST k) (AT (a+k+1)))=true:=by decide+kernel
theorem tDN:yp (λa k=>Hc kQ (AT a) (SM k) (NT (a+k+1)))=true:=by decide+kernel
theorem tDM:yp (λa k=>Hc kQ (NT a) (ST k) (NT (a+k+1)))=true:=by decide+kernel
theorem tEA:yp (λa k=>Hc vq (AT a) (ST k) (AT (a+k+1)))=true:=by decide+kernel
theorem tEN:yp (λa k=>Hc vq (NT a) (SM k) (NT (a+k+1)))=true:=by decide+kernel
theorem tS:(bE 5).all (λk=>(NT k).all λv=>in1 (yJ v) (AT (k+1)))=true:=by decide+kernel
theorem tMA:(bE 5).all (λk=>(AT k).all λv=>in1 v (AT (k+1)))=true:=by decide+kernel
theorem tMN:(bE 5).all (λk=>(NT k).all λv=>in1 v (NT (k+1)))=true:=by decide+kernel
theorem N1:(bE 6).all (λk=>(AT k).all λv=>decide (c7 6 (gv v)<=14900788))=true:=by decide+kernel
theorem qi{n:Nat}{f g:Nat->Nat}(h:∀k,k<n->f k<=g k):c7 n f<=c7 n g:=by
 induction n with
 |zero=>exact am _
 |succ n ih=>
  have h1:=ih λk hk=>h k (by ac_nf)
  have h2:=h n (by ac_nf)
  simp only[c7];ac_nf
theorem sN{f:Nat->Nat}{e:Nat}(h:∀k,k<e->f k=0):∀m,c7 m f=c7 (m-e) λi=>f (e+i)
 |0=>by rw[Nat.zero_sub];rfl
 |m+1=>by
  simp only[c7]
  rw[sN h m]
  by_cases hm:m<e
  ·rw[h m hm,show m+1-e=0 by ac_nf,show m-e=0 by ac_nf];rfl
  ·rw[show m+1-e=(m-e)+1 by ac_nf]
   simp only[c7]
   rw[show e+(m-e)=m by ac_nf]
theorem Ah{g:Nat->Nat}{n:Nat}:∀{m:Nat},m<=n->c7 m g<=c7 n g:=by
 intro m h
 induction n with
 |zero=>rw[nZ.mp h];exact am _
 |succ n ih=>
  by_cases e:m=n+1
  ·rw[e];exact am _
  ·have:=ih (by ac_nf)
   simp only[c7];ac_nf
theorem Ag{g:Nat->Nat}{n:Nat}(h:∀i,n<i->g i=0)(m:Nat):c7 m g<=c7 (n+1) g:=by
 by_cases hm:m<=n+1
 ·exact Ah hm
 ·obtain⟨d,rfl⟩:∃d,m=n+1+d:=⟨m-(n+1),by ac_nf⟩
  clear hm
  induction d with
  |zero=>exact am _
  |succ d ih=>
   show c7 (n+1+d) g+g (n+1+d)<=_
   rw[h _ (by ac_nf)];ac_nf
theorem qJ{f:Nat->Nat}{e n m:Nat}(h:∀k,f k≠0->e<=k/\k<=e+n):c7 m f<=c7 (n+1) λi=>f (e+i):=by
 have z:∀k,¬(e<=k/\k<=e+n)->f k=0:=λk hk=>jq λhz=>hk (h k hz)
 rw[sN (e:=e) (λk hk=>z k (by ac_nf)) m]
 exact Ag (λi hi=>z _ (by ac_nf)) _
theorem o7{f:Nat->Nat}{n:Nat}(h:n<6):gv ((bE 6).map f) n=f n:=by
 unfold gv
 rw[eB,aC,dA h];rfl
theorem BC{a b:List Nat}(h:Bd a b=true){n:Nat}(hn:n<6):gv a n<=gv b n:=by
 unfold Bd at h
 exact of_decide_eq_true (aU.mp h n (cS.mpr hn))
theorem zq{T:List Nat}:∀(ps:List Pt) {w:Nat->Nat},(∀k,w k≠0->k<=T.length)->∀k,lu T ps w k≠0->k<=T.length
 |[],w,h,k,hk=>h k hk
 |p::ps,w,h,k,hk=>by
  refine zq ps (w:=mW T p w) (λj hj=> ?_) k hk
  obtain⟨i,hi,hz⟩:=mT hj
  refine jq λhc=>hz ?_
  rw[jE (by ac_nf) (by ac_nf),gM]
noncomputable def dom(p:Pt)(v:List Nat):Prop:=∀T:List Nat,T.length<=5->∀e n,e<=T.length->n<6->nT T p e (e+n)<=gv v n
noncomputable def rdom(ps:List Pt)(v:List Nat):Prop:=∀T:List Nat,T.length<=5->∀e n,e<=T.length->n<6->lu T ps (dl e) (e+n)<=gv v n
theorem dom.le{p:Pt}{v w:List Nat}(h:dom p v)(l:Bd v w=true):dom p w:=λT hT e n he hn=>aP (h T hT e n he hn) (BC l hn)
theorem rdom.le{p:List Pt}{v w:List Nat}(h:rdom p v)(l:Bd v w=true):rdom p w:=λT hT e n he hn=>aP (h T hT e n he hn) (BC l hn)
theorem Cq:rdom [] [1,0,0,0,0,0]:=λT hT e n he hn=>by
 show dl e (e+n)<=_
 unfold dl
 split
 ·rw[show n=0 by ac_nf];exact am _
 ·exact bn _
theorem oK{ps:List Pt}{c:Pt}{a b:List Nat}(ha:rdom ps a)(hb:dom c b):rdom (ps++[c]) (qA a b):=λT hT e n he hn=>by
 rw[oJ]
 unfold qA
 rw[o7 hn]
 show c7 (T.length+1) (λk=>lu T ps (dl e) k*nT T c k (e+n))<=_
 refine aP (qJ (e:=e) (n:=n) λk hk=> ?_) (qi λi hi=> ?_)
 ·have h1:lu T ps (dl e) k≠0:=λz=>hk (by rw[z,gL])
  have h2:nT T c k (e+n)≠0:=λz=>hk (by rw[z,gM])
  exact⟨uA ps (λk hk=>HW hk) k h1,tz h2⟩
 ·by_cases hl:e+i<=T.length
  ·have h1:=ha T hT e i he (by ac_nf)
   have h2:=hb T hT (e+i) (n-i) hl (by ac_nf)
   rw[show e+i+(n-i)=e+n by ac_nf]at h2
   exact Nat.mul_le_mul h1 h2
  ·have h3:lu T ps (dl e) (e+i)=0:=jq λz=>by
    have:=zq (T:=T) ps (w:=dl e) (λk hk=>by unfold dl at hk;split at hk;ac_nf;exact absurd rfl hk) (e+i) z
    ac_nf
   rw[h3,gL];exact bn _
theorem ou(a:Nat->Nat):∀n,(i6 a n).length=n+1
 |0=>rfl
 |n+1=>by
  show(i6 a n++[_]).length=_
  rw[aL,ou a n];rfl
noncomputable def rr(a:Nat->Nat)(n:Nat):Nat:=gv (i6 a n) n
theorem Kz{l m:List Nat}{n:Nat}(h:n<l.length):gv (l++m) n=gv l n:=by
 unfold gv
 rw[eB,eB,bT h]
theorem GN{l:List Nat}{x:Nat}:gv (l++[x]) l.length=x:=by
 unfold gv
 rw[eB,bO (am _),lz];rfl
theorem qP(a:Nat->Nat):∀(m n:Nat),n<=m->gv (i6 a m) n=rr a n
 |0,n,h=>by rw[nZ.mp h];rfl
 |m+1,n,h=>by
  by_cases e:n=m+1
  ·rw[e];rfl
  ·show gv (i6 a m++[_]) n=_
   rw[Kz (by rw[ou];ac_nf),qP a m n (by ac_nf)]
theorem E1(a:Nat->Nat):rr a 0=1:=rfl
theorem E3(a:Nat->Nat)(n:Nat):rr a (n+1)=c7 (n+1) λi=>a (i+1)*rr a (n-i):=by
 have h:=ou a n
 show gv (i6 a n++[c7 (n+1) λi=>a (i+1)*gv (i6 a n) (n-i)]) (n+1)=_
 have:gv (i6 a n++[c7 (n+1) λi=>a (i+1)*gv (i6 a n) (n-i)]) (n+1)=c7 (n+1) λi=>a (i+1)*gv (i6 a n) (n-i):=by
  have:=GN (l:=i6 a n) (x:=c7 (n+1) λi=>a (i+1)*gv (i6 a n) (n-i))
  rwa [h]at this
 rw[this]
 exact dW λi hi=>by rw[qP a n (n-i) (by ac_nf)]
theorem sM{f:Nat->Nat}:∀n,c7 (n+1) f=f 0+c7 n λi=>f (i+1)
 |0=>by simp[c7]
 |n+1=>by
  show c7 (n+1) f+f (n+1)=f 0+(c7 n (λi=>f (i+1))+f (n+1))
  rw[sM n];ac_nf
theorem pd{p:Pt}{v:List Nat}(hc:bN p=false)(h:dom p v):dom (.again p) (yJ v):=λT hT e n he hn=>by
 have main:∀n,n<6->∀e,e<=T.length->nT T (.again p) e (e+n)<=rr (gv v) n:=by
  intro n
  induction n using Nat.strongRecOn with
  |ind n ih=>
   intro hn e he
   rw[iG hc he]
   have w:=qJ (f:=λk=>nT T p e k*nT T (.again p) k (e+n)) (e:=e) (n:=n) (m:=T.length+1) λk hk=>by
    have h1:nT T p e k≠0:=λz=>hk (by rw[z,gL])
    have h2:nT T (.again p) k (e+n)≠0:=λz=>hk (by rw[z,gM])
    exact⟨tz h1,tz h2⟩
   rw[sM (f:=λi=>nT T p e (e+i)*nT T (.again p) (e+i) (e+n))]at w
   rw[show nT T p e (e+0)=0 from jP hc (am _),gL,en]at w
   cases n with
   |zero=>
    rw[if_pos (Nat.add_zero e).symm,E1]
    have:c7 0 (λi=>nT T p e (e+(i+1))*nT T (.again p) (e+(i+1)) (e+0))=0:=rfl
    ac_nf
   |succ n=>
    rw[if_neg (by ac_nf),en,E3]
    refine aP w (qi λi hi=> ?_)
    by_cases hl:e+(i+1)<=T.length
    ·have h1:=h T hT e (i+1) he (by ac_nf)
     have h2:=ih (n-i) (by ac_nf) (by ac_nf) (e+(i+1)) hl
     rw[show e+(i+1)+(n-i)=e+(n+1)by ac_nf]at h2
     exact Nat.mul_le_mul h1 h2
    ·rw[jE he (by ac_nf),gL];exact bn _
 have:=main n hn e he
 unfold yJ
 rw[qP _ 5 n (by ac_nf)]
 exact this
theorem gA{p:Pt}{v:List Nat}{n:Str}(h:dom p v):dom (.held n p) v:=λT hT e k he hk=>by rw[uG];exact h T hT e k he hk
theorem fN{p:Pt}{v:List Nat}{n:Int}(h:dom p v):dom (.price n p) v:=λT hT e k he hk=>by rw[rc];exact h T hT e k he hk
theorem fX{ps:List Pt}{v:List Nat}(h:rdom ps v):dom (.row ps) v:=λT hT e k he hk=>by rw[Dq he];exact h T hT e k he hk
theorem nK{v:List Nat}:dom .none v:=λT hT e k he hk=>by rw[FV];exact bn _
theorem tK:dom .blank [1,0,0,0,0,0]:=λT hT e n he hn=>by
 rw[wj]
 split
 ·rw[show n=0 by ac_nf];exact am _
 ·exact bn _
theorem nJ{s:Str}:dom (.sign s) [0,1,0,0,0,0]:=λT hT e n he hn=>by
 show jY (bf T (.sign s) e) (e+n)<=_
 unfold bf
 split
 ·split
  ·rw[kc]
   split
   ·rw[show n=1 by ac_nf];exact am _
   ·exact bn _
  ·exact bn _
 ·exact bn _
theorem jV{x y z:Pt}{a b c:List Nat}(ha:dom x a)(hb:dom y b)(hc:dom z c):dom (.pick [x,y,z]) (vq a b c):=λT hT e n he hn=>by
 rw[qm]
 unfold vq EK
 rw[o7 hn,o7 hn]
 have h1:=ha T hT e n he hn
 have h2:=hb T hT e n he hn
 have h3:=hc T hT e n he hn
 simp only[aw,iz,ba,dN]
 ac_nf
theorem fY{x y:Pt}{a b c:List Nat}(ha:dom x a)(hb:dom y b):dom (.pick [x,y]) (vq a b c):=λT hT e n he hn=>by
 rw[qm]
 unfold vq EK
 rw[o7 hn,o7 hn]
 have h1:=ha T hT e n he hn
 have h2:=hb T hT e n he hn
 simp only[aw,iz,ba,dN]
 ac_nf
theorem qW{x y z:Pt}{a b c:List Nat}(ha:dom x a)(hb:dom y b)(hc:dom z c):rdom [x,y,z] (kQ a b c):=by
 have h0:rdom [x] a:=λT hT e n he hn=>by
  show mW T x (dl e) (e+n)<=_
  rw[mV he]
  exact ha T hT e n he hn
 exact oK (ps:=[x,y]) (oK (ps:=[x]) h0 hb) hc
theorem HE{x:Pt}{a:List Nat}(ha:dom x a):rdom [x] a:=λT hT e n he hn=>by
 show mW T x (dl e) (e+n)<=_
 rw[mV he]
 exact ha T hT e n he hn
theorem sY{x y:Pt}{a b:List Nat}(ha:dom x a)(hb:dom y b):rdom [x,y] (qA a b):=oK (ps:=[x]) (HE ha) hb
theorem z9{a:List Nat}{n:Nat}(h:n<6):gv (qA a [1,0,0,0,0,0]) n=gv a n:=by
 unfold qA
 rw[o7 h]
 show c7 n (λi=>gv a i*gv [1,0,0,0,0,0] (n-i))+gv a n*gv [1,0,0,0,0,0] (n-n)=_
 rw[lz,dW (g:=λ_=>0) λk hk=>by
  rw[show gv [1,0,0,0,0,0] (n-k)=0 by
   obtain⟨d,hd⟩:∃d,n-k=d+1:=⟨n-k-1,by ac_nf⟩
   rw[hd]
   have:d<5:=by ac_nf
   match d,this with
   |0,_=>rfl
   |1,_=>rfl
   |2,_=>rfl
   |3,_=>rfl
   |4,_=>rfl,gM],kU]
 show 0+gv a n*1=_
 ac_nf
theorem qX{x y:Pt}{a b:List Nat}(ha:dom x a)(hb:dom y b):rdom [x,y] (kQ a b [1,0,0,0,0,0]):=λT hT e n he hn=>by
 unfold kQ
 rw[z9 hn]
 exact sY ha hb T hT e n he hn
noncomputable def inA(k:Nat)(p:Pt):Prop:=∃v∈AT k,dom p v
noncomputable def inN(k:Nat)(p:Pt):Prop:=∃v∈NT k,dom p v
theorem o6{v:List Nat}{R:List (List Nat)}(h:in1 v R=true):∃w∈R,Bd v w=true:=by
 unfold in1 at h
 exact List.any_eq_true.mp h
theorem inA.up{p:Pt}{k:Nat}(hk:k<5)(h:inA k p):inA (k+1) p:=by
 obtain⟨v,hv,hd⟩:=h
 obtain⟨w,hw,l⟩:=o6 (aU.mp (aU.mp tMA k (cS.mpr hk)) v hv)
 exact⟨w,hw,hd.le l⟩
theorem inN.up{p:Pt}{k:Nat}(hk:k<5)(h:inN k p):inN (k+1) p:=by
 obtain⟨v,hv,hd⟩:=h
 obtain⟨w,hw,l⟩:=o6 (aU.mp (aU.mp tMN k (cS.mpr hk)) v hv)
 exact⟨w,hw,hd.le l⟩
theorem inA.mono{p:Pt}{k:Nat}(h:inA k p):∀{m:Nat},k<=m->m<=5->inA m p:=by
 intro m
 induction m with
 |zero=>intro h1 _;rw[nZ.mp h1]at h;exact h
 |succ m ih=>
  intro h1 h2
  by_cases e:k=m+1
  ·rw[<-e];exact h
  ·exact(ih (by ac_nf) (by ac_nf)).up (by ac_nf)
theorem inN.mono{p:Pt}{k:Nat}(h:inN k p):∀{m:Nat},k<=m->m<=5->inN m p:=by
 intro m
 induction m with
 |zero=>intro h1 _;rw[nZ.mp h1]at h;exact h
 |succ m ih=>
  intro h1 h2
  by_cases e:k=m+1
  ·rw[<-e];exact h
  ·exact(ih (by ac_nf) (by ac_nf)).up (by ac_nf)
structure Dm(k:Nat)(p:Pt):Prop where
 ab:inA k p
 nb:bN p=false->inN k p
 one:k=0->size p=1
 le:k<=5
theorem Dm.mono{k m:Nat}{p:Pt}(h:Dm k p)(h1:k<=m)(h2:m<=5):Dm m p:=⟨h.ab.mono h1 h2,λc=>(h.nb c).mono h1 h2,λe=>h.one (by ac_nf),h2⟩
theorem Dm.none:Dm 0 .none:=⟨⟨[1,0,0,0,0,0],by decide,nK⟩,λ_=>⟨[0,1,0,0,0,0],by decide,nK⟩,λ_=>rfl,by ac_nf⟩
theorem Dm.blank:Dm 0 .blank:=⟨⟨[1,0,0,0,0,0],by decide,tK⟩,λh=>by simp[bN]at h,λ_=>rfl,by ac_nf⟩
theorem Dm.sign{s:Str}:Dm 0 (.sign s):=⟨⟨[0,1,0,0,0,0],by decide,nJ⟩,λ_=>⟨[0,1,0,0,0,0],by decide,nJ⟩,λ_=>rfl,by ac_nf⟩
theorem Dm.held{k:Nat}{n:Str}{p:Pt}(h:Dm k p)(hk:k<5):Dm (k+1) (.held n p):=
 ⟨by obtain⟨v,hv,hd⟩:=h.ab.up hk;exact⟨v,hv,gA hd⟩,λc=>by obtain⟨v,hv,hd⟩:=(h.nb (by simpa [bN]using c)).up hk;exact⟨v,hv,gA hd⟩,λe=>by ac_nf,by ac_nf⟩
theorem Dm.price{k:Nat}{n:Int}{p:Pt}(h:Dm k p)(hk:k<5):Dm (k+1) (.price n p):=
 ⟨by obtain⟨v,hv,hd⟩:=h.ab.up hk;exact⟨v,hv,fN hd⟩,λc=>by obtain⟨v,hv,hd⟩:=(h.nb (by simpa [bN]using c)).up hk;exact⟨v,hv,fN hd⟩,λe=>by ac_nf,by ac_nf⟩
theorem Dm.again{k:Nat}{p:Pt}(h:Dm k p)(hc:bN p=false)(hk:k<5):Dm (k+1) (.again p):=
 ⟨by
  obtain⟨v,hv,hd⟩:=h.nb hc
  obtain⟨w,hw,l⟩:=o6 (aU.mp (aU.mp tS k (cS.mpr hk)) v hv)
  exact⟨w,hw,(pd hc hd).le l⟩,λc=>by simp[bN]at c,λe=>by ac_nf,by ac_nf⟩
noncomputable def inR(k:Nat)(ps:List Pt):Prop:=∃v∈AT k,rdom ps v
noncomputable def GM(k:Nat)(ps:List Pt):Prop:=∃v∈NT k,rdom ps v
theorem jc{f:List Nat->List Nat->List Nat->List Nat}{A B C R:List (List Nat)}(h:HY f A B C R=true){x y z:List Nat}(hx:x∈A)(hy:y∈B)(hz:z∈C):∃w∈R,Bd (f x y z) w=true:=by
 unfold HY at h
 exact o6 (aU.mp (aU.mp (aU.mp h x hx) y hy) z hz)
theorem yn{f:List Nat->List Nat->List Nat}{A B R:List (List Nat)}(h:Nq f A B R=true){x y:List Nat}(hx:x∈A)(hy:y∈B):∃w∈R,Bd (f x y) w=true:=by
 unfold Nq at h
 exact o6 (aU.mp (aU.mp h x hx) y hy)
theorem HD{a b c:Nat}{x y z:Pt}(hx:inA a x)(hy:inA b y)(hz:inA c z)(hk:a+b+c<=4):inR (a+b+c+1) [x,y,z]:=by
 obtain⟨u,hu,du⟩:=hx
 obtain⟨v,hv,dv⟩:=hy
 obtain⟨w,hw,dw⟩:=hz
 obtain⟨r,hr,l⟩:=jc (g8 tRA hk) hu hv hw
 exact⟨r,hr,(qW du dv dw).le l⟩
theorem v6{a b:Nat}{x y:Pt}(hx:inA a x)(hy:inA b y)(hk:a+b<=4):inR (a+b+1) [x,y]:=by
 obtain⟨u,hu,du⟩:=hx
 obtain⟨v,hv,dv⟩:=hy
 obtain⟨r,hr,l⟩:=jc (g8 tRA (a:=a) (b:=b) (c:=0) (by ac_nf)) hu hv (show[1,0,0,0,0,0]∈AT 0 by decide)
 exact⟨r,hr,(qX du dv).le l⟩
theorem sX{a:Nat}{x:Pt}(hx:inA a x):inR a [x]:=by
 obtain⟨u,hu,du⟩:=hx
 exact⟨u,hu,HE du⟩
theorem LA{a b c:Nat}{x y z:Pt}(hx:Dm a x)(hy:Dm b y)(hz:Dm c z)(hk:a+b+c<=4)(hc:iJ [x,y,z]=false):GM (a+b+c+1) [x,y,z]:=by
 have h3:bN x=false\/bN y=false\/bN z=false:=by
  cases e1:bN x<;>cases e2:bN y<;>cases e3:bN z<;>simp[iJ,e1,e2,e3]at hc⊢
 rcases h3 with h|h|h
 ·obtain⟨u,hu,du⟩:=hx.nb h
  obtain⟨v,hv,dv⟩:=hy.ab
  obtain⟨w,hw,dw⟩:=hz.ab
  obtain⟨r,hr,l⟩:=jc (g8 Lg hk) hu hv hw
  exact⟨r,hr,(qW du dv dw).le l⟩
 ·obtain⟨u,hu,du⟩:=hx.ab
  obtain⟨v,hv,dv⟩:=hy.nb h
  obtain⟨w,hw,dw⟩:=hz.ab
  obtain⟨r,hr,l⟩:=jc (g8 Lf hk) hu hv hw
  exact⟨r,hr,(qW du dv dw).le l⟩
 ·obtain⟨u,hu,du⟩:=hx.ab
  obtain⟨v,hv,dv⟩:=hy.ab
  obtain⟨w,hw,dw⟩:=hz.nb h
  obtain⟨r,hr,l⟩:=jc (g8 N4 hk) hu hv hw
  exact⟨r,hr,(qW du dv dw).le l⟩
theorem LB{a b:Nat}{x y:Pt}(hx:Dm a x)(hy:Dm b y)(hk:a+b<=4)(hc:iJ [x,y]=false):GM (a+b+1) [x,y]:=by
 have h3:bN x=false\/bN y=false:=by
  cases e1:bN x<;>cases e2:bN y<;>simp[iJ,e1,e2]at hc⊢
 have h0:[1,0,0,0,0,0]∈AT 0:=by decide
 rcases h3 with h|h
 ·obtain⟨u,hu,du⟩:=hx.nb h
  obtain⟨v,hv,dv⟩:=hy.ab
  obtain⟨r,hr,l⟩:=jc (g8 Lg (a:=a) (b:=b) (c:=0) (by ac_nf)) hu hv h0
  exact⟨r,hr,(qX du dv).le l⟩
 ·obtain⟨u,hu,du⟩:=hx.ab
  obtain⟨v,hv,dv⟩:=hy.nb h
  obtain⟨r,hr,l⟩:=jc (g8 Lf (a:=a) (b:=b) (c:=0) (by ac_nf)) hu hv h0
  exact⟨r,hr,(qX du dv).le l⟩
theorem Dm.row3{a b c:Nat}{x y z:Pt}(hx:Dm a x)(hy:Dm b y)(hz:Dm c z)(hk:a+b+c<=4):Dm (a+b+c+1) (.row [x,y,z]):=
 ⟨by obtain⟨v,hv,d⟩:=HD hx.ab hy.ab hz.ab hk;exact⟨v,hv,fX d⟩,λh=>by obtain⟨v,hv,d⟩:=LA hx hy hz hk (by simpa [bN]using h);exact⟨v,hv,fX d⟩,λe=>by ac_nf,by ac_nf⟩
theorem Dm.row2{a b:Nat}{x y:Pt}(hx:Dm a x)(hy:Dm b y)(hk:a+b<=4):Dm (a+b+1) (.row [x,y]):=
 ⟨by obtain⟨v,hv,d⟩:=v6 hx.ab hy.ab hk;exact⟨v,hv,fX d⟩,λh=>by obtain⟨v,hv,d⟩:=LB hx hy hk (by simpa [bN]using h);exact⟨v,hv,fX d⟩,λe=>by ac_nf,by ac_nf⟩
theorem Dm.pick3{a b c:Nat}{x y z:Pt}(hx:Dm a x)(hy:Dm b y)(hz:Dm c z)(hk:a+b+c<=4):Dm (a+b+c+1) (.pick [x,y,z]):=
 ⟨by
  obtain⟨u,hu,du⟩:=hx.ab
  obtain⟨v,hv,dv⟩:=hy.ab
  obtain⟨w,hw,dw⟩:=hz.ab
  obtain⟨r,hr,l⟩:=jc (g8 tPA hk) hu hv hw
  exact⟨r,hr,(jV du dv dw).le l⟩,λh=>by
  have h':(bN x=false)/\(bN y=false)/\bN z=false:=by simpa [bN,jk]using h
  obtain⟨u,hu,du⟩:=hx.nb h'.1
  obtain⟨v,hv,dv⟩:=hy.nb h'.2.1
  obtain⟨w,hw,dw⟩:=hz.nb h'.2.2
  obtain⟨r,hr,l⟩:=jc (g8 tPN hk) hu hv hw
  exact⟨r,hr,(jV du dv dw).le l⟩,λe=>by ac_nf,by ac_nf⟩
theorem Dm.pick2{a b:Nat}{x y:Pt}(hx:Dm a x)(hy:Dm b y)(hk:a+b<=4):Dm (a+b+1) (.pick [x,y]):=
 ⟨by
  obtain⟨u,hu,du⟩:=hx.ab
  obtain⟨v,hv,dv⟩:=hy.ab
  obtain⟨r,hr,l⟩:=jc (g8 tPA (a:=a) (b:=b) (c:=0) (by ac_nf)) hu hv (show[1,0,0,0,0,0]∈AT 0 by decide)
  exact⟨r,hr,(fY du dv).le l⟩,λh=>by
  have h':(bN x=false)/\(bN y=false):=by simpa [bN,jk]using h
  obtain⟨u,hu,du⟩:=hx.nb h'.1
  obtain⟨v,hv,dv⟩:=hy.nb h'.2
  obtain⟨r,hr,l⟩:=jc (g8 tPN (a:=a) (b:=b) (c:=0) (by ac_nf)) hu hv (show[0,1,0,0,0,0]∈NT 0 by decide)
  exact⟨r,hr,(fY du dv).le l⟩,λe=>by ac_nf,by ac_nf⟩
mutual
noncomputable def fQ:Pt->Prop
 | .none=>True
 | .blank=>True
 | .sign s=>1<=s.length/\s.length<=5
 | .row ps=>(2<=ps.length/\ps.length<=3)/\(inA 5 (.row ps)/\∀i,inR 5 (ps.take i))/\oQ ps
 | .pick ps=>(2<=ps.length/\ps.length<=3)/\inA 5 (.pick ps)/\oQ ps
 | .again p=>bN p=false/\inA 5 (.again p)/\fQ p
 | .held n p=>n.length<=8/\fQ p
 | .price _ p=>fQ p
noncomputable def oQ:List Pt->Prop
 |[]=>True
 |p::ps=>fQ p/\oQ ps
end
theorem gZ{t:Pt}(ok:fQ t)(h:size t=1):(dom t [1,0,0,0,0,0]\/dom t [0,1,0,0,0,0])/\(bN t=false->dom t [0,1,0,0,0,0]):=by
 have big:∀p:Pt,1<=size p:=fH
 cases t with
 |none=>exact⟨.inl nK,λ_=>nK⟩
 |blank=>exact⟨.inl tK,λh=>by simp[bN]at h⟩
 |sign s=>exact⟨.inr nJ,λ_=>nJ⟩
 |row ps=>
  have h1:=cK ps
  have h2:1+cb ps=1:=h
  have h3:=ok.1.1
  ac_nf
 |pick ps=>
  have h1:=cK ps
  have h2:1+cb ps=1:=h
  have h3:=ok.1.1
  ac_nf
 |again p=>
  have h2:1+size p=1:=h
  have:=big p
  ac_nf
 |held n p=>
  have h2:1+size p=1:=h
  have:=big p
  ac_nf
 |price n p=>
  have h2:1+size p=1:=h
  have:=big p
  ac_nf
theorem qC{ps:List Pt}(ok:oQ ps)(h2:2<=ps.length)(h:cb ps<3):∃x y,ps=[x,y]/\(fQ x/\size x=1)/\fQ y/\size y=1:=by
 match ps,h2,ok,h with
 |[x,y],_,ok,h=>
  have h3:size x+(size y+0)<3:=h
  have:=fH x
  have:=fH y
  exact⟨x,y,rfl,⟨ok.1,by ac_nf⟩,ok.2.1,by ac_nf⟩
 |x::y::z::r,_,ok,h=>
  have h3:size x+(size y+(size z+cb r))<3:=h
  have:=fH x
  have:=fH y
  have:=fH z
  ac_nf
theorem tu:Bd (yJ [0,1,0,0,0,0]) [1,1,1,1,1,1]=true:=by decide+kernel
theorem nk{t:Pt}(ok:fQ t)(h:size t<3):(dom t [1,0,0,0,0,0]\/dom t [0,1,0,0,0,0]\/dom t [1,1,1,1,1,1])/\(bN t=false->dom t [0,1,0,0,0,0]):=by
 by_cases e:size t=1
 ·obtain⟨h1,h2⟩:=gZ ok e
  exact⟨by rcases h1 with h|h;exact .inl h;exact .inr (.inl h),h2⟩
 have hp:=fH t
 cases t with
 |none=>exact absurd rfl e
 |blank=>exact absurd rfl e
 |sign s=>exact absurd rfl e
 |row ps=>
  have h1:=cK ps
  have h2:1+cb ps<3:=h
  have h3:=ok.1.1
  ac_nf
 |pick ps=>
  have h1:=cK ps
  have h2:1+cb ps<3:=h
  have h3:=ok.1.1
  ac_nf
 |again p=>
  have h2:1+size p<3:=h
  have:=fH p
  obtain⟨_,h4⟩:=gZ ok.2.2 (by ac_nf)
  exact⟨.inr (.inr ((pd ok.1 (h4 ok.1)).le tu)),λh=>by simp[bN]at h⟩
 |held n p=>
  have h2:1+size p<3:=h
  have:=fH p
  obtain⟨h3,h4⟩:=gZ ok.2 (by ac_nf)
  exact⟨by rcases h3 with h|h;exact .inl (gA h);exact .inr (.inl (gA h)),λc=>gA (h4 (by simpa [bN]using c))⟩
 |price n p=>
  have h2:1+size p<3:=h
  have:=fH p
  have ok':fQ p:=ok
  obtain⟨h3,h4⟩:=gZ ok' (by ac_nf)
  exact⟨by rcases h3 with h|h;exact .inl (fN h);exact .inr (.inl (fN h)),λc=>fN (h4 (by simpa [bN]using c))⟩
theorem Al{t:Pt}(ok:fQ t)(h:size t<4):(∃v∈ST 1,dom t v)/\(bN t=false->∃v∈SM 1,dom t v):=by
 have up1:dom t [1,0,0,0,0,0]\/dom t [0,1,0,0,0,0]\/dom t [1,1,1,1,1,1]->∃v∈ST 1,dom t v:=λz=>by
  rcases z with z|z|z
  ·exact⟨[1,1,1,1,1,1],by decide,z.le (by decide)⟩
  ·exact⟨[1,1,1,1,1,1],by decide,z.le (by decide)⟩
  ·exact⟨[1,1,1,1,1,1],by decide,z⟩
 have up2:dom t [0,1,0,0,0,0]->∃v∈SM 1,dom t v:=λz=>⟨[0,2,0,0,0,0],by decide,z.le (by decide)⟩
 by_cases e:size t<3
 ·obtain⟨h1,h2⟩:=nk ok e
  exact⟨up1 h1,λc=>up2 (h2 c)⟩
 cases t with
 |none=>exact absurd (show(1:Nat)<3 by ac_nf) e
 |blank=>exact absurd (show(1:Nat)<3 by ac_nf) e
 |sign s=>exact absurd (show(1:Nat)<3 by ac_nf) e
 |row ps=>
  obtain⟨x,y,rfl,⟨ox,sx⟩,oy,sy⟩:=qC ok.2.2 ok.1.1 (by have:1+cb ps<4:=h;ac_nf)
  obtain⟨dx,nx⟩:=gZ ox sx
  obtain⟨dy,ny⟩:=gZ oy sy
  refine⟨?_,λc=> ?_⟩
  ·rcases dx with dx|dx<;>rcases dy with dy|dy<;>exact⟨[1,1,1,1,1,1],by decide,(fX (sY dx dy)).le (by decide+kernel)⟩
  ·have h3:bN x=false\/bN y=false:=by
    cases e1:bN x<;>cases e2:bN y<;>simp[bN,iJ,e1,e2]at c⊢
   rcases h3 with z|z
   ·rcases dy with dy|dy
    ·exact⟨[0,2,0,0,0,0],by decide,(fX (sY (nx z) dy)).le (by decide+kernel)⟩
    ·exact⟨[0,0,1,0,0,0],by decide,(fX (sY (nx z) dy)).le (by decide+kernel)⟩
   ·rcases dx with dx|dx
    ·exact⟨[0,2,0,0,0,0],by decide,(fX (sY dx (ny z))).le (by decide+kernel)⟩
    ·exact⟨[0,0,1,0,0,0],by decide,(fX (sY dx (ny z))).le (by decide+kernel)⟩
 |pick ps=>
  obtain⟨x,y,rfl,⟨ox,sx⟩,oy,sy⟩:=qC ok.2.2 ok.1.1 (by have:1+cb ps<4:=h;ac_nf)
  obtain⟨dx,nx⟩:=gZ ox sx
  obtain⟨dy,ny⟩:=gZ oy sy
  refine⟨?_,λc=> ?_⟩
  ·rcases dx with dx|dx<;>rcases dy with dy|dy
   ·exact⟨[2,0,0,0,0,0],by decide,(fY (c:=[]) dx dy).le (by decide+kernel)⟩
   ·exact⟨[1,1,1,1,1,1],by decide,(fY (c:=[]) dx dy).le (by decide+kernel)⟩
   ·exact⟨[1,1,1,1,1,1],by decide,(fY (c:=[]) dx dy).le (by decide+kernel)⟩
   ·exact⟨[0,2,0,0,0,0],by decide,(fY (c:=[]) dx dy).le (by decide+kernel)⟩
  ·have h3:bN x=false/\bN y=false:=by simpa [bN,jk]using c
   exact⟨[0,2,0,0,0,0],by decide,(fY (c:=[]) (nx h3.1) (ny h3.2)).le (by decide+kernel)⟩
 |again p=>
  have h2:1+size p<4:=h
  obtain⟨_,h4⟩:=nk ok.2.2 (by ac_nf)
  exact⟨⟨[1,1,1,1,1,1],by decide,(pd ok.1 (h4 ok.1)).le tu⟩,λh=>by simp[bN]at h⟩
 |held n p=>
  have h2:1+size p<4:=h
  obtain⟨h3,h4⟩:=nk ok.2 (by ac_nf)
  exact⟨up1 (by rcases h3 with h|h|h;exact .inl (gA h);exact .inr (.inl (gA h));exact .inr (.inr (gA h))),λc=>up2 (gA (h4 (by simpa [bN]using c)))⟩
 |price n p=>
  have h2:1+size p<4:=h
  have ok':fQ p:=ok
  obtain⟨h3,h4⟩:=nk ok' (by ac_nf)
  exact⟨up1 (by rcases h3 with h|h|h;exact .inl (fN h);exact .inr (.inl (fN h));exact .inr (.inr (fN h))),λc=>up2 (fN (h4 (by simpa [bN]using c)))⟩
theorem Dm.small{k:Nat}{t:Pt}(h:Dm k t)(ok:fQ t)(hs:size t<4):(∃v∈ST k,dom t v)/\(bN t=false->∃v∈SM k,dom t v):=by
 by_cases e:k=0
 ·subst e
  obtain⟨h1,h2⟩:=gZ ok (h.one rfl)
  exact⟨by rcases h1 with h|h;exact⟨_,by decide,h⟩;exact⟨_,by decide,h⟩,λc=>⟨_,by decide,h2 c⟩⟩
 ·have e1:ST k=ST 1:=by unfold ST;rw[show min k 1=1 by ac_nf];rfl
  have e2:SM k=SM 1:=by unfold SM;rw[show min k 1=1 by ac_nf];rfl
  rw[e1,e2]
  exact Al ok hs
theorem pc{f:List Nat->List Nat->List Nat->List Nat}{A B R:List (List Nat)}(h:Hc f A B R=true){x t:List Nat}(hx:x∈A)(ht:t∈B):(∃w∈R,Bd (f x t t) w=true)/\(∃w∈R,Bd (f t x t) w=true)/\∃w∈R,Bd (f t t x) w=true:=by
 unfold Hc at h
 rw[bC,bC]at h
 exact⟨yn h.1.1 hx ht,yn h.1.2 hx ht,yn h.2 hx ht⟩
noncomputable def pQ(i:Nat)(x t:Pt):List Pt:=match i with
 |0=>[x,t,t]
 |1=>[t,x,t]
 |_=>[t,t,x]
theorem Hb{a k i:Nat}{x t:Pt}(hx:Dm a x)(ht:Dm k t)(ok:fQ t)(hs:size t<4)(hk:a+k<=4):inR (a+k+1) (pQ i x t)/\(iJ (pQ i x t)=false->GM (a+k+1) (pQ i x t)):=by
 obtain⟨s1,s2⟩:=ht.small ok hs
 obtain⟨u,hu,du⟩:=hx.ab
 obtain⟨v,hv,dv⟩:=s1
 have main:∀{A B R:List (List Nat)} {u v:List Nat},Hc kQ A B R=true->u∈A->v∈B->dom x u->dom t v->∃w∈R,rdom (pQ i x t) w:=fun{A B R u v} h hu hv du dv=>by
  obtain⟨⟨w1,m1,l1⟩,⟨w2,m2,l2⟩,w3,m3,l3⟩:=pc h hu hv
  unfold pQ
  split
  ·exact⟨w1,m1,(qW du dv dv).le l1⟩
  ·exact⟨w2,m2,(qW dv du dv).le l2⟩
  ·exact⟨w3,m3,(qW dv dv du).le l3⟩
 refine⟨main (iW tDA hk) hu hv du dv,λc=> ?_⟩
 have h3:bN x=false\/bN t=false:=by
  unfold pQ at c
  cases e1:bN x<;>cases e2:bN t<;>simp
  split at c<;>simp[iJ,e1,e2]at c
 rcases h3 with z|z
 ·obtain⟨u,hu,du⟩:=hx.nb z
  exact main (iW tDM hk) hu hv du dv
 ·obtain⟨v,hv,dv⟩:=s2 z
  exact main (iW tDN hk) hu hv du dv
theorem Dm.rowD{a k i:Nat}{x t:Pt}(hx:Dm a x)(ht:Dm k t)(ok:fQ t)(hs:size t<4)(hk:a+k<=4):Dm (a+k+1) (.row (pQ i x t)):=by
 obtain⟨h1,h2⟩:=Hb (i:=i) hx ht ok hs hk
 exact⟨by obtain⟨v,hv,d⟩:=h1;exact⟨v,hv,fX d⟩,λc=>by obtain⟨v,hv,d⟩:=h2 (by simpa [bN]using c);exact⟨v,hv,fX d⟩,λe=>by ac_nf,by ac_nf⟩
theorem Dm.pickD{a k i:Nat}{x t:Pt}(hx:Dm a x)(ht:Dm k t)(ok:fQ t)(hs:size t<4)(hk:a+k<=4):Dm (a+k+1) (.pick (pQ i x t)):=by
 obtain⟨s1,s2⟩:=ht.small ok hs
 have main:∀{A B R:List (List Nat)} {u v:List Nat},Hc vq A B R=true->u∈A->v∈B->dom x u->dom t v->∃w∈R,dom (.pick (pQ i x t)) w:=fun{A B R u v} h hu hv du dv=>by
  obtain⟨⟨w1,m1,l1⟩,⟨w2,m2,l2⟩,w3,m3,l3⟩:=pc h hu hv
  unfold pQ
  split
  ·exact⟨w1,m1,(jV du dv dv).le l1⟩
  ·exact⟨w2,m2,(jV dv du dv).le l2⟩
  ·exact⟨w3,m3,(jV dv dv du).le l3⟩
 refine⟨?_,λc=> ?_,λe=>by ac_nf,by ac_nf⟩
 ·obtain⟨u,hu,du⟩:=hx.ab
  obtain⟨v,hv,dv⟩:=s1
  exact main (iW tEA hk) hu hv du dv
 ·have h3:bN x=false/\bN t=false:=by
   have c':jk (pQ i x t)=false:=by simpa [bN]using c
   unfold pQ at c'
   split at c'<;>simp[jk]at c'<;>simp[c']
  obtain⟨u,hu,du⟩:=hx.nb h3.1
  obtain⟨v,hv,dv⟩:=s2 h3.2
  exact main (iW tEN hk) hu hv du dv
theorem fT{p:Pt}{k:Nat}(h:Dm k p):inA 5 p:=h.ab.mono h.le (am _)
theorem kY:∀(p:Pt),fQ p->inA 5 p
 | .none,_=>fT Dm.none
 | .blank,_=>fT Dm.blank
 | .sign _,_=>fT Dm.sign
 | .row _,h=>h.2.1.1
 | .pick _,h=>h.2.1
 | .again _,h=>h.2.1
 | .held _ p,h=>by obtain⟨v,hv,d⟩:=kY p h.2;exact⟨v,hv,gA d⟩
 | .price _ p,h=>by obtain⟨v,hv,d⟩:=kY p h;exact⟨v,hv,fN d⟩
mutual
theorem ii:∀(p:Pt),fQ p->∀q∈makes p,fQ q
 | .none,h,q,hq=>by simp[makes]at hq;rw[hq];exact h
 | .blank,h,q,hq=>by simp[makes]at hq;rw[hq];exact h
 | .sign _,h,q,hq=>by simp[makes]at hq;rw[hq];exact h
 | .row ps,h,q,hq=>by
  simp only[makes,aI]at hq
  rcases hq with rfl|hq
  ·exact h
  ·exact l6 ps h.2.2 q hq
 | .pick ps,h,q,hq=>by
  simp only[makes,aI]at hq
  rcases hq with rfl|hq
  ·exact h
  ·exact l6 ps h.2.2 q hq
 | .again p,h,q,hq=>by
  simp only[makes,aI]at hq
  rcases hq with rfl|hq
  ·exact h
  ·exact ii p h.2.2 q hq
 | .held _ p,h,q,hq=>by
  simp only[makes,aI]at hq
  rcases hq with rfl|hq
  ·exact h
  ·exact ii p h.2 q hq
 | .price _ p,h,q,hq=>by
  simp only[makes,aI]at hq
  rcases hq with rfl|hq
  ·exact h
  ·exact ii p h q hq
theorem l6:∀(ps:List Pt),oQ ps->∀q∈dJ ps,fQ q
 |[],_,q,hq=>by simp[dJ]at hq
 |p::ps,h,q,hq=>by
  simp only[dJ,aZ]at hq
  rcases hq with hq|hq
  ·exact ii p h.1 q hq
  ·exact l6 ps h.2 q hq
end
theorem ja:∀{ps:List Pt},oQ ps->∀q∈ps,fQ q
 |p::ps,h,q,hq=>by
  rcases aI.mp hq with rfl|hq
  ·exact h.1
  ·exact ja h.2 q hq
mutual
theorem jb:∀(p:Pt),fQ p->size p<=4^depth p
 | .none,_=>by simp[size,depth]
 | .blank,_=>by simp[size,depth]
 | .sign _,_=>by simp[size,depth]
 | .row ps,h=>by
  have:=oP ps h.2.2
  have h1:=h.1.2
  simp only[size,depth]
  rw[jf,nY]
  have h2:0<4^a9 ps:=km (by ac_nf)
  have h3:ps.length*4^a9 ps<=3*4^a9 ps:=jg _ h1
  ac_nf
 | .pick ps,h=>by
  have:=oP ps h.2.2
  have h1:=h.1.2
  simp only[size,depth]
  rw[jf,nY]
  have h2:0<4^a9 ps:=km (by ac_nf)
  have h3:ps.length*4^a9 ps<=3*4^a9 ps:=jg _ h1
  ac_nf
 | .again p,h=>by
  have:=jb p h.2.2
  simp only[size,depth]
  rw[jf,nY]
  have h2:0<4^depth p:=km (by ac_nf)
  ac_nf
 | .held _ p,h=>by
  have:=jb p h.2
  simp only[size,depth]
  rw[jf,nY]
  have h2:0<4^depth p:=km (by ac_nf)
  ac_nf
 | .price _ p,h=>by
  have:=jb p h
  simp only[size,depth]
  rw[jf,nY]
  have h2:0<4^depth p:=km (by ac_nf)
  ac_nf
theorem oP:∀(ps:List Pt),oQ ps->cb ps<=ps.length*4^a9 ps
 |[],_=>by simp[cb]
 |p::ps,h=>by
  have h1:=jb p h.1
  have h2:=oP ps h.2
  simp only[cb,a9,aM]
  have h3:4^depth p<=4^max (depth p) (a9 ps):=bV (by ac_nf) (Nat.le_max_left _ _)
  have h4:4^a9 ps<=4^max (depth p) (a9 ps):=bV (by ac_nf) (Nat.le_max_right _ _)
  have h5:ps.length*4^a9 ps<=ps.length*4^max (depth p) (a9 ps):=Nat.mul_le_mul_left _ h4
  rw[Nat.add_mul,Nat.one_mul]
  ac_nf
end
theorem zF{α:Type}{l:List (α×Nat)}{e L:Nat}(hL:L<=5)(he:e<=L)(h:∀x∈l,e<=x.2/\x.2<=L):l.length<=c7 6 λn=>jY l (e+n):=by
 have h1:=M0 (g:=λ_=>1) (n:=L+1) l λs hs=>by have:=(h s hs).2;ac_nf
 have h2:(l.map λ_=>1).sum=l.length:=by
  clear h h1
  induction l with
  |nil=>rfl
  |cons x l ih=>rw[aw,ba,ih,aM];ac_nf
 rw[h2]at h1
 rw[h1,dW (g:=λk=>jY l k) λk _=>Nat.mul_one _]
 refine qJ (n:=5) λk hk=> ?_
 have h3:0<jY l k:=eJ hk
 obtain⟨x,hx,hp⟩:=jp.mp h3
 have h4:=h x hx
 have h5:x.2=k:=by simpa using hp
 ac_nf
theorem BM{v:List Nat}(h:v∈AT 5):c7 6 (gv v)<=14900788:=of_decide_eq_true (aU.mp (aU.mp N1 5 (by decide)) v h)
theorem qd{T:List Nat}{p:Pt}{e:Nat}(hT:T.length<=5)(h:inA 5 p)(he:e<=T.length):(bf T p e).length<=14900788:=by
 obtain⟨v,hv,d⟩:=h
 refine aP (zF hT he λx hx=>⟨kF T p e x hx,gH T p e he x hx⟩) (aP (qi λn hn=>d T hT e n he hn) (BM hv))
theorem BK{T:List Nat}{ps:List Pt}{e:Nat}(hT:T.length<=5)(h:inR 5 ps)(he:e<=T.length):(gl T ps [([],e)]).length<=14900788:=by
 obtain⟨v,hv,d⟩:=h
 have hm:∀s∈[(([]:List Tr),e)],s.2<=T.length:=λs hs=>by cases au.mp hs;exact he
 refine aP (zF hT he λx hx=>⟨qf T ps _ e (λs hs=>by cases au.mp hs;exact am _) x hx,qe T ps _ hm x hx⟩) (aP (qi λn hn=> ?_) (BM hv))
 rw[qG T ps _ hm]
 have:jY [(([]:List Tr),e)]=dl e:=by funext k;exact kc _ e k
 rw[this]
 exact d T hT e n he hn
theorem Np{T:List Nat}{p:Pt}(hT:T.length<=5)(h:fQ p)(hd:depth p<=5):Cs T p:=by
 refine⟨by ac_nf,?_,λq hq e he j=> ?_,λq hq=>(ii p h _ hq).1⟩
 ·have h1:=jb p h
  have h2:4^depth p<=4^5:=bV (by ac_nf) hd
  ac_nf
 ·have h1:=qd hT (kY q (ii p h q hq)) he
  have h2:nT T q e j<=(bf T q e).length:=List.countP_le_length
  ac_nf
theorem lh:inR 5 []:=⟨[1,27,729,19683,531441,14348907],by decide,Cq.le (by decide+kernel)⟩
theorem inR.mono{ps:List Pt}{k:Nat}(h:inR k ps)(h1:k<=5):inR 5 ps:=by
 obtain⟨v,hv,d⟩:=h
 have up:∀j v,j<5->v∈AT j->rdom ps v->∃w∈AT (j+1),rdom ps w:=λj v hj hv d=>by
  obtain⟨w,hw,l⟩:=o6 (aU.mp (aU.mp tMA j (cS.mpr hj)) v hv)
  exact⟨w,hw,d.le l⟩
 have go:∀n j v,j+n=5->v∈AT j->rdom ps v->inR 5 ps:=by
  intro n
  induction n with
  |zero=>intro j v hj hv d;rw[show j=5 by ac_nf]at hv;exact⟨v,hv,d⟩
  |succ n ih=>
   intro j v hj hv d
   obtain⟨w,hw,dw⟩:=up j v (by ac_nf) hv d
   exact ih (j+1) w (by ac_nf) hw dw
 exact go (5-k) k v (by ac_nf) hv d
theorem Ea{k:Nat}{t:Pt}(ht:Dm k t)(ok:fQ t)(hs:size t<4)(hk:k<=4):inR (k+1) [t,t]/\(iJ [t,t]=false->GM (k+1) [t,t]):=by
 obtain⟨s1,s2⟩:=ht.small ok hs
 have h0:[1,0,0,0,0,0]∈AT 0:=by decide
 refine⟨?_,λc=> ?_⟩
 ·obtain⟨v,hv,dv⟩:=s1
  obtain⟨_,_,w,m,l⟩:=pc (iW tDA (a:=0) (b:=k) (by ac_nf)) h0 hv
  rw[en]at m
  exact⟨w,m,(qX dv dv).le l⟩
 ·have z:bN t=false:=by simpa [iJ]using c
  obtain⟨v,hv,dv⟩:=s2 z
  obtain⟨_,_,w,m,l⟩:=pc (iW tDN (a:=0) (b:=k) (by ac_nf)) h0 hv
  rw[en]at m
  exact⟨w,m,(qX dv dv).le l⟩
theorem Dm.rowD2{k:Nat}{t:Pt}(ht:Dm k t)(ok:fQ t)(hs:size t<4)(hk:k<=4):Dm (k+1) (.row [t,t]):=by
 obtain⟨h1,h2⟩:=Ea ht ok hs hk
 exact⟨by obtain⟨v,hv,d⟩:=h1;exact⟨v,hv,fX d⟩,λc=>by obtain⟨v,hv,d⟩:=h2 (by simpa [bN]using c);exact⟨v,hv,fX d⟩,λe=>by ac_nf,by ac_nf⟩
theorem Dm.pickD2{k:Nat}{t:Pt}(ht:Dm k t)(ok:fQ t)(hs:size t<4)(hk:k<=4):Dm (k+1) (.pick [t,t]):=by
 obtain⟨s1,s2⟩:=ht.small ok hs
 refine⟨?_,λc=> ?_,λe=>by ac_nf,by ac_nf⟩
 ·obtain⟨v,hv,dv⟩:=s1
  obtain⟨_,_,w,m,l⟩:=pc (iW tEA (a:=0) (b:=k) (by ac_nf)) (show[1,0,0,0,0,0]∈AT 0 by decide) hv
  rw[en]at m
  exact⟨w,m,(fY dv dv).le l⟩
 ·have z:bN t=false:=by simpa [bN,jk]using c
  obtain⟨v,hv,dv⟩:=s2 z
  obtain⟨_,_,w,m,l⟩:=pc (iW tEN (a:=0) (b:=k) (by ac_nf)) (show[0,1,0,0,0,0]∈NT 0 by decide) hv
  rw[en]at m
  exact⟨w,m,(fY dv dv).le l⟩
structure Rw(k:Nat)(ps:List Pt):Prop where
 dm:Dm (k+1) (.row ps)
 ok:fQ (.row ps)
structure Pk(k:Nat)(ps:List Pt):Prop where
 dm:Dm (k+1) (.pick ps)
 ok:fQ (.pick ps)
theorem Rw.mono{k m:Nat}{ps:List Pt}(h:Rw k ps)(h1:k<=m)(h2:m<=4):Rw m ps:=⟨h.dm.mono (by ac_nf) (by ac_nf),h.ok⟩
theorem Pk.mono{k m:Nat}{ps:List Pt}(h:Pk k ps)(h1:k<=m)(h2:m<=4):Pk m ps:=⟨h.dm.mono (by ac_nf) (by ac_nf),h.ok⟩
section
variable{a b c k:Nat}{x y z t:Pt}
theorem ul{x y z:Pt}{R:List Pt->Prop}(h0:R [])(h1:R [x])(h2:R [x,y])(h3:R [x,y,z]):∀i,R ([x,y,z].take i)
 |0=>h0
 |1=>h1
 |2=>h2
 |i+3=>by rw[iy (by simp)];exact h3
theorem BQ{x y:Pt}{R:List Pt->Prop}(h0:R [])(h1:R [x])(h2:R [x,y]):∀i,R ([x,y].take i)
 |0=>h0
 |1=>h1
 |i+2=>by rw[iy (by simp)];exact h2
theorem Rw.three(hx:Dm a x)(hy:Dm b y)(hz:Dm c z)(ox:fQ x)(oy:fQ y)(oz:fQ z)(hk:a+b+c<=4):Rw (a+b+c) [x,y,z]:=
 ⟨hx.row3 hy hz hk,⟨by simp,by simp⟩,⟨fT (hx.row3 hy hz hk),ul lh ((sX hx.ab).mono hx.le) ((v6 hx.ab hy.ab (by ac_nf)).mono (by ac_nf)) ((HD hx.ab hy.ab hz.ab hk).mono (by ac_nf))⟩,ox,oy,oz,trivial⟩
theorem Rw.two(hx:Dm a x)(hy:Dm b y)(ox:fQ x)(oy:fQ y)(hk:a+b<=4):Rw (a+b) [x,y]:=
 ⟨hx.row2 hy hk,⟨by simp,by simp⟩,⟨fT (hx.row2 hy hk),BQ lh ((sX hx.ab).mono hx.le) ((v6 hx.ab hy.ab (by ac_nf)).mono (by ac_nf))⟩,ox,oy,trivial⟩
theorem Rw.twins(ht:Dm k t)(ot:fQ t)(hs:size t<4)(hk:k<=4):Rw k [t,t]:=
 ⟨ht.rowD2 ot hs hk,⟨by simp,by simp⟩,⟨fT (ht.rowD2 ot hs hk),BQ lh ((sX ht.ab).mono ht.le) ((Ea ht ot hs hk).1.mono (by ac_nf))⟩,ot,ot,trivial⟩
theorem Rw.d0(hx:Dm a x)(ht:Dm k t)(ox:fQ x)(ot:fQ t)(hs:size t<4)(hk:a+k<=4):Rw (a+k) [x,t,t]:=
 ⟨Dm.rowD (i:=0) hx ht ot hs hk,⟨by simp,by simp⟩,⟨fT (Dm.rowD (i:=0) hx ht ot hs hk),ul lh ((sX hx.ab).mono hx.le) ((v6 hx.ab ht.ab (by ac_nf)).mono (by ac_nf)) ((Hb (i:=0) hx ht ot hs hk).1.mono (by ac_nf))⟩,ox,ot,ot,trivial⟩
theorem Rw.d1(hx:Dm a x)(ht:Dm k t)(ox:fQ x)(ot:fQ t)(hs:size t<4)(hk:a+k<=4):Rw (a+k) [t,x,t]:=
 ⟨Dm.rowD (i:=1) hx ht ot hs hk,⟨by simp,by simp⟩,⟨fT (Dm.rowD (i:=1) hx ht ot hs hk),ul lh ((sX ht.ab).mono ht.le) ((v6 ht.ab hx.ab (by ac_nf)).mono (by ac_nf)) ((Hb (i:=1) hx ht ot hs hk).1.mono (by ac_nf))⟩,ot,ox,ot,trivial⟩
theorem Rw.d2(hx:Dm a x)(ht:Dm k t)(ox:fQ x)(ot:fQ t)(hs:size t<4)(hk:a+k<=4):Rw (a+k) [t,t,x]:=
 ⟨Dm.rowD (i:=2) hx ht ot hs hk,⟨by simp,by simp⟩,⟨fT (Dm.rowD (i:=2) hx ht ot hs hk),ul lh ((sX ht.ab).mono ht.le) ((Ea ht ot hs (by ac_nf)).1.mono (by ac_nf)) ((Hb (i:=2) hx ht ot hs hk).1.mono (by ac_nf))⟩,ot,ot,ox,trivial⟩
theorem Pk.three(hx:Dm a x)(hy:Dm b y)(hz:Dm c z)(ox:fQ x)(oy:fQ y)(oz:fQ z)(hk:a+b+c<=4):Pk (a+b+c) [x,y,z]:=
 ⟨hx.pick3 hy hz hk,⟨by simp,by simp⟩,fT (hx.pick3 hy hz hk),ox,oy,oz,trivial⟩
theorem Pk.two(hx:Dm a x)(hy:Dm b y)(ox:fQ x)(oy:fQ y)(hk:a+b<=4):Pk (a+b) [x,y]:=⟨hx.pick2 hy hk,⟨by simp,by simp⟩,fT (hx.pick2 hy hk),ox,oy,trivial⟩
theorem Pk.twins(ht:Dm k t)(ot:fQ t)(hs:size t<4)(hk:k<=4):Pk k [t,t]:=⟨ht.pickD2 ot hs hk,⟨by simp,by simp⟩,fT (ht.pickD2 ot hs hk),ot,ot,trivial⟩
theorem Pk.d1(hx:Dm a x)(ht:Dm k t)(ox:fQ x)(ot:fQ t)(hs:size t<4)(hk:a+k<=4):Pk (a+k) [t,x,t]:=
 ⟨Dm.pickD (i:=1) hx ht ot hs hk,⟨by simp,by simp⟩,fT (Dm.pickD (i:=1) hx ht ot hs hk),ot,ox,ot,trivial⟩
end
inductive Fam:List Nat->List Pt->Prop
 |nil:Fam [] []
 |snoc {ks:List Nat} {ps:List Pt} {k:Nat} {p:Pt} (h:Fam ks ps) (hp:Dm k p) (ok:fQ p):Fam (ks++[k]) (ps++[p])
theorem Fam.len{ks:List Nat}{ps:List Pt}(h:Fam ks ps):ks.length=ps.length:=by
 induction h with
 |nil=>rfl
 |snoc _ _ _ ih=>simp[ih]
theorem Fam.last{ks:List Nat}{ps:List Pt}(h:Fam ks ps){n:Nat}(hl:ps.length=n+1):∃ks' ps' k p,ks=ks'++[k]/\ps=ps'++[p]/\Fam ks' ps'/\(Dm k p/\fQ p)/\ps'.length=n:=by
 cases h with
 |nil=>cases hl
 |snoc h hp ok=>exact⟨_,_,_,_,rfl,rfl,h,⟨hp,ok⟩,by simpa using hl⟩
theorem Fam.zero{ks:List Nat}{ps:List Pt}(h:Fam ks ps)(hl:ps.length=0):ks=[]/\ps=[]:=by
 have h1:=h.len
 exact⟨yz.mp (by ac_nf),yz.mp hl⟩
theorem Fam.two{ks:List Nat}{ps:List Pt}(h:Fam ks ps)(hl:ps.length=2):∃a b x y,ks=[a,b]/\ps=[x,y]/\(Dm a x/\fQ x)/\Dm b y/\fQ y:=by
 obtain⟨k1,p1,b,y,rfl,rfl,h1,hy,l1⟩:=h.last hl
 obtain⟨k2,p2,a,x,rfl,rfl,h2,hx,l2⟩:=h1.last l1
 obtain⟨rfl,rfl⟩:=h2.zero l2
 exact⟨a,b,x,y,rfl,rfl,hx,hy⟩
theorem Fam.three{ks:List Nat}{ps:List Pt}(h:Fam ks ps)(hl:ps.length=3):∃a b c x y z,ks=[a,b,c]/\ps=[x,y,z]/\(Dm a x/\fQ x)/\(Dm b y/\fQ y)/\Dm c z/\fQ z:=by
 obtain⟨k1,p1,c,z,rfl,rfl,h1,hz,l1⟩:=h.last hl
 obtain⟨a,b,x,y,rfl,rfl,hx,hy⟩:=h1.two l1
 exact⟨a,b,c,x,y,z,rfl,rfl,hx,hy,hz⟩
noncomputable def bq(m:Int):Nat:=(m-4).toNat
noncomputable abbrev gN4(i j k l:Nat):Ey:=λv τ G Q=>match v with
 | .tup [p,q,r,s]=>Q (st (st (st (st τ i (some p)) j (some q)) k (some r)) l (some s)) G
 |_=>False
theorem DG{X:Cx}{x:Str}{pos:Pos}{i j k l:Nat}{y z u:Str}{p1 p2 p3 p4:Pos}{n:Nat}(hc:X.calm=true)(hN:X.N.Nodup)(hi:X.N[i]? =some x)(hx:xh X.env.scope x)(hj:X.N[j]? =some y)(hy:xh X.env.scope y)(hk:X.N[k]? =some z)(hz:xh X.env.scope z)(hl:X.N[l]? =some u)(hu:xh X.env.scope u)
  (hf:X.fn x=true\/X.env.scope.names.lookup x=some .local:=by first|exact .inl rfl|exact .inr rfl|assumption) (hf2:X.fn y=true\/X.env.scope.names.lookup y=some .local:=by first|exact .inl rfl|exact .inr rfl|assumption) (hf3:X.fn z=true\/X.env.scope.names.lookup z=some .local:=by first|exact .inl rfl|exact .inr rfl|assumption) (hf4:X.fn u=true\/X.env.scope.names.lookup u=some .local:=by first|exact .inl rfl|exact .inr rfl|assumption):
  JG X (.Tuple [.Name x p1,.Name y p2,.Name z p3,.Name u p4] n pos) (gN4 i j k l):=
 .of (xL (n:=4) hc (iF (iw hN hi hx hf) (iF (iw hN hj hy hf2) (iF (iw hN hk hz hf3) (iF (iw hN hl hu hf4) uD)))) (by rfl) (by rfl)) λv σ H Q hPl=>by
  obtain⟨p,τ,G,Q2,d,rs,rp,q,cl⟩:=hPl
  unfold gN4 at q
  split at q
  ·rename_i p1 p2 p3 p4
   obtain⟨a,vs,rfl,sq,dv⟩:=d
   obtain⟨v1,r1,rfl,d1,dv⟩:=dv
   obtain⟨v2,r2,rfl,d2,dv⟩:=dv
   obtain⟨v3,r3,rfl,d3,dv⟩:=dv
   obtain⟨v4,r4,rfl,d4,dv⟩:=dv
   obtain rfl:r4=[]:=dv
   exact⟨a,[v1,v2,v3,v4],rfl,sq,rfl,v1,[v2,v3,v4],rfl,v2,[v3,v4],rfl,v3,[v4],rfl,v4,[],rfl,rfl,cl _ _ _ _ q ((((rs.set d1 i).set d2 j).set d3 k).set d4 l) rp .refl⟩
  ·exact q.elim
theorem sL{n i:Nat}{f:Nat->Nat}(h:i<n):f i<=c7 n f:=by
 induction n with
 |zero=>ac_nf
 |succ n ih=>
  simp only[c7]
  by_cases e:i=n
  ·subst e;ac_nf
  ·have:=ih (by ac_nf);ac_nf
noncomputable def bL{α:Type}(o:Nat->Nat)(l:List (α×Nat)):Nat:=(l.map λx=>o x.2).sum
noncomputable def pk{α:Type}(o:Nat->Nat):List (α×Nat)->Nat->Option (α×Nat×Nat)
 |[],_=>none
 |x::l,k=>if k<o x.2 then some (x.1,x.2,k)else pk o l (k-o x.2)
section
variable{α β:Type}{o:Nat->Nat}
theorem pk_cons(x:α×Nat)(l:List (α×Nat))(k:Nat):pk o (x::l) k=if k<o x.2 then some (x.1,x.2,k)else pk o l (k-o x.2):=rfl
theorem i3:bL o ([]:List (α×Nat))=0:=rfl
theorem gQ(x:α×Nat)(l:List (α×Nat)):bL o (x::l)=o x.2+bL o l:=by unfold bL;rw[aw,ba]
theorem kD(l m:List (α×Nat)):bL o (l++m)=bL o l+bL o m:=by unfold bL;rw[aR,List.sum_append]
theorem mJ(f:α->β)(l:List (α×Nat)):bL o (l.map λx=>(f x.1,x.2))=bL o l:=by unfold bL;rw[bp];rfl
theorem zu:∀(l:List (α×Nat)) (k:Nat),k<bL o l->∃a e r,pk o l k=some (a,e,r)/\(a,e)∈l/\r<o e
 |[],k,h=>by rw[i3]at h;ac_nf
 |x::l,k,h=>by
  unfold pk
  by_cases e:k<o x.2
  ·rw[if_pos e];exact⟨x.1,x.2,k,rfl,by simp,e⟩
  ·rw[if_neg e]
   rw[gQ]at h
   obtain⟨a,e',r,h1,h2,h3⟩:=zu l (k-o x.2) (by ac_nf)
   exact⟨a,e',r,h1,by simp[h2],h3⟩
theorem ql:∀(l m:List (α×Nat)) (k:Nat),k<bL o l->pk o (l++m) k=pk o l k
 |[],m,k,h=>by rw[i3]at h;ac_nf
 |x::l,m,k,h=>by
  rw[iQ]
  unfold pk
  by_cases e:k<o x.2
  ·rw[if_pos e,if_pos e]
  ·rw[if_neg e,if_neg e]
   rw[gQ]at h
   exact ql l m _ (by ac_nf)
theorem nj:∀(l m:List (α×Nat)) (k:Nat),bL o l<=k->pk o (l++m) k=pk o m (k-bL o l)
 |[],m,k,h=>by rw[i3];rfl
 |x::l,m,k,h=>by
  rw[gQ]at h⊢
  rw[iQ]
  conv=>lhs;unfold pk
  rw[if_neg (by ac_nf),nj l m _ (by ac_nf)]
  congr 1
  ac_nf
theorem oM(f:α->β):∀(l:List (α×Nat)) (k:Nat),pk o (l.map λx=>(f x.1,x.2)) k=(pk o l k).map λy=>(f y.1,y.2)
 |[],k=>rfl
 |x::l,k=>by
  rw[aw]
  unfold pk
  by_cases e:k<o x.2
  ·rw[if_pos e,if_pos e];rfl
  ·rw[if_neg e,if_neg e];exact oM f l _
theorem uC{γ:Type}(F:Nat->List (β×Nat))(g:α->β->γ):∀(l:List (α×Nat)) (k:Nat),pk o (l.flatMap λt=>(F t.2).map λu=>(g t.1 u.1,u.2)) k=(pk (λe=>bL o (F e)) l k).bind λy=>(pk o (F y.2.1) y.2.2).map λz=>(g y.1 z.1,z.2)
 |[],k=>rfl
 |x::l,k=>by
  rw[eZ]
  rw[pk_cons]
  have hw:bL o ((F x.2).map λu=>(g x.1 u.1,u.2))=bL o (F x.2):=mJ (g x.1) (F x.2)
  by_cases e:k<bL o (F x.2)
  ·rw[if_pos e,ql _ _ _ (by rw[hw];exact e),oM (g x.1) (F x.2) k]
   rfl
  ·rw[if_neg e,nj _ _ _ (by rw[hw];ac_nf),hw]
   exact uC F g l _
theorem iX{γ:Type}(F:Nat->List (β×Nat))(g:α->β->γ):∀(l:List (α×Nat)),bL o (l.flatMap λt=>(F t.2).map λu=>(g t.1 u.1,u.2))=bL (λe=>bL o (F e)) l
 |[]=>rfl
 |x::l=>by rw[eZ,kD,mJ (g x.1) (F x.2),gQ,iX F g l]
theorem Bw{n:Nat}(l:List (α×Nat))(h:∀s∈l,s.2<n):bL o l=c7 n λk=>jY l k*o k:=M0 l h
end
theorem EJ{T:List Nat}{p:Pt}{e:Nat}{o:Nat->Nat}(he:e<=T.length):bL o (bf T p e)=c7 (T.length+1) λj=>nT T p e j*o j:=Bw _ λs hs=>rZ (gH T p e he s hs)
noncomputable def fI(T:List Nat):List Pt->Nat->List (List Tr×Nat)
 |[],e=>[([],e)]
 |p::ps,e=>(bf T p e).flatMap λt=>(fI T ps t.2).map λu=>(t.1::u.1,u.2)
theorem sI(T:List Nat):∀(ps:List Pt) (sm:List (List Tr×Nat)),gl T ps sm=sm.flatMap λs=>(fI T ps s.2).map λu=>(s.1++u.1,u.2)
 |[],sm=>by
  unfold gl fI
  induction sm with
  |nil=>rfl
  |cons s sm ih=>rw[eZ,<-ih];simp
 |p::ps,sm=>by
  unfold gl
  rw[sI T ps]
  induction sm with
  |nil=>rfl
  |cons s sm ih=>
   rw[eZ,gU,ih,eZ]
   congr 1
   conv=>rhs;unfold fI
   rw[List.map_flatMap,List.flatMap_map]
   refine rK λt ht=> ?_
   rw[bp]
   refine fE λu hu=> ?_
   simp
theorem kE(T:List Nat)(ps:List Pt)(e:Nat):bf T (.row ps) e=(fI T ps e).map λs=>(.row s.1,s.2):=by
 unfold bf
 rw[sI]
 simp
theorem q9{α:Type}{L:Nat}:∀(l:List (α×Nat)) (k:Nat),pk (dl L) l k=((l.filter λt=>t.2==L)[k]?).map λt=>(t.1,t.2,0)
 |[],k=>by simp[pk]
 |x::l,k=>by
  unfold pk dl
  by_cases e:L=x.2
  ·rw[if_pos e,yB (by simp[e])]
   cases k with
   |zero=>simp
   |succ k=>
    rw[if_neg (by ac_nf)]
    have:=q9 (L:=L) l k
    unfold dl at this
    simpa using this
  ·rw[if_neg e,if_neg (by ac_nf),yC (by simp;exact λh=>e h.symm)]
   have:=q9 (L:=L) l (k-0)
   unfold dl at this
   simpa using this
end L3
namespace L2
open PySem PySem.Spec PyProof.Rows
noncomputable def Lp(td ty:TE):TE:=λσ H Q=>td σ H λx H1=>∃a,x= .ref a/\OW H1 a/\ty σ H1 λy H2=>∃b kvs more,y= .ref b/\H2 a=some (.dK kvs)/\Rd H2 b (.dK more)/\a≠b/\kvs.length+more.length<=aQ/\Q .non (upd H2 a (.dK (j5 kvs more)))
theorem Ft{X:Cx}{o e:Expr}{apos cpos:Pos}{td ty:TE}(ho:PE X o td)(he:PE X e ty)(m:M1 X o "update" apos e cpos):PE X (.Call (.Attribute o "update" apos) [e] [] cpos) (Lp td ty):=by
 intro pins s σ H Q I h
 refine wpAny_Call_method m.base m.few m.line PySem.F.plainAttrs_dict PySem.F.slot_dict_update PySem.F.type_dict_update (eR (ho pins s σ H _ I h) λu s1 hPl=> ?_)
 obtain⟨x,H1,I1,rx,a,ex,d,q1⟩:=hPl
 subst ex
 obtain rfl:u=aH a:=rx
 obtain⟨t1,t2,_⟩:=DP I1 d
 refine⟨t1,t2,?_⟩
 rw[m.trees]
 refine ir rfl (mz (jI (eR (he pins s1 σ H1 _ I1 q1) λiv s2 ⟨y,H2,I2,ry,b,kvs,more,ey,ea,eb,ne,hl,q2⟩=>p0 ?_)))
 subst ey
 obtain rfl:iv=aH b:=ry
 obtain⟨z,hd,vs,rel,dd⟩:=Eb I2.hok ea
 obtain⟨z',hd',ms,rel',dm⟩:=pF I2.hok eb
 refine call_meetsIn PySem.F.slot_dict_update dd.typeIs PySem.F.entry_dict_update (PySem.F.args_dict_update_2 _ _) (meets_dict_update (mixKind X.prog X.w) a b ne hd') ⟨vs,ms,dd,dm,by rw[<-rel.length,<-rel'.length];exact hl,λh' dd' dm' hs=> ?_⟩
 have he':∃q,h'.get? a=some q:=let⟨q,_,_,hq,_⟩:=dd';⟨q,hq⟩
 have hz:(j5 kvs more).length<=aQ:=aP (jF more kvs) hl
 exact⟨.non,_,nN (t':=s2.toks) I2 (by rw[ea];exact cF) hs he' (vb hz hd (rel'.merge rel) dd'),rfl,q2⟩
end L2
namespace L3
open PySem L2
noncomputable def AI(kvs more:List (Key×PV)):List (Key×PV):=more.foldl (λacc kv=>iE acc kv.1 kv.2) kvs
theorem DKv.merge{K:PySem.W.Frag}{H:Hp}:∀{more:List (Key×PV)} {ms:List (Key×V)} {kvs:List (Key×PV)} {vs:List (Key×V)},DKv K H more ms->DKv K H kvs vs->DKv K H (AI kvs more) (j5 vs ms)
 |[],ms,kvs,vs,h,g=>by obtain rfl:ms=[]:=h;exact g
 |(x,p)::more,ms,kvs,vs,h,g=>by
  obtain⟨v,r,rfl,d,z⟩:=h
  show DKv K H (AI (iE kvs x p) more) (j5 (kr vs x v) r)
  exact DKv.merge z (g.put d)
noncomputable def EL(x y:PV)(G:Gp)(Q:K2):Prop:=match x,y with
 | .ref a,.ref b=>match G a,kz G b with
  |some (.dK kvs),some more=>a≠b/\kvs.length+more.length<=16000000/\Q .non (up G a (.dK (AI kvs more)))
  |_,_=>False
 |_,_=>False
theorem Ii{a b:Addr}{G:Gp}{kvs more:List (Key×PV)}{Q:K2}(h:G a=some (.dK kvs))(h2:kz G b=some more)(ne:a≠b)(hl:kvs.length+more.length<=16000000)(q:Q .non (up G a (.dK (AI kvs more)))):EL (.ref a) (.ref b) G Q:=by
 unfold EL;simp only[h,h2];exact⟨ne,hl,q⟩
noncomputable abbrev OJ(td te:E2):E2:=λτ G Q=>td τ G λx G1=>Ks x G1/\te τ G1 λy G2=>EL x y G2 Q
theorem AO{X:Cx}{d e:Expr}{td te:E2}{apos cpos:Pos}(hd:JE X d td)(he:JE X e te)(m:L2.M1 X d "update" apos e cpos:=by exact⟨rfl,rfl,rfl,rfl⟩):JE X (.Call (.Attribute d "update" apos) [e] [] cpos) (OJ td te):=
 .of (Ft hd.h he.h m) λσ H Q hPl=>by
  obtain⟨τ,G,Q2,rs,rp,q,cl⟩:=hPl
  refine⟨τ,G,_,rs,rp,q,λp1 G1 v1 H1 q1 d1 r1 k1=> ?_⟩
  obtain⟨⟨a,kvs,rfl,ea⟩,q1⟩:=q1
  obtain rfl:v1= .ref a:=d1
  obtain⟨vs,hv,dv⟩:=r1.dR ea
  refine⟨a,rfl,.inl ⟨vs,hv⟩,τ,G1,_,rs.keep k1,r1,q1,λp2 G2 v2 H2 q2 d2 r2 k2=> ?_⟩
  unfold EL at q2
  cases p2 with
  |ref b=>
   simp only at q2
   split at q2
   ·rename_i kv2 more eg em
    obtain⟨ne,hl,q2⟩:=q2
    obtain rfl:v2= .ref b:=d2
    obtain⟨vs2,hv2,dv2⟩:=r2.dK eg
    obtain⟨ms,hm,dm⟩:=r2.dR em
    exact⟨b,vs2,ms,rfl,hv2,hm,ne,by rw[dv2.length,dm.length,jz];ac_nf,cl _ _ _ _ q2 rfl (r2.putD hv2 (dm.merge dv2)) ((k1.trans k2).trans (lc hv2))⟩
   ·exact q2.elim
  |_=>exact q2.elim
end L3
namespace PySem
section
variable{prog:aK}{w:aX}{A:Around}{E:ae->al->Prop}{s:al}{d:Addr}
noncomputable def HZ(kvs:List (L2.Key×ae))(prog:aK)(w:aX):Nat->ae->Prop:=λi v=>∃k x,kvs[i]? =some (k,x)/\(L2.mixKind prog w).is k v=true
theorem mK{R:Result->al->Prop}{kvs:List (L2.Key×ae)}{ep:Nat}(hh:A.handled=none)(hd:(d==eS)=false)(hm:s.heap.DictAt (L2.mixKind prog w) d kvs ep)(S:Addr)(hne:S≠d)(res:ae)(c:Nat)(hS:s.heap.get? S=some {cls:= .type "list",dict:=none,data:= .seq #[] c,slots:= #[]})(hn:kvs.length<=aQ)
  (hR:∀(s':al) acc' c',(∀b o,b≠S->s.heap.get? b=some o->s'.heap.get? b=some o)->s'.gens=s.gens->s'.os=s.os->s'.heap.get? S=some {cls:= .type "list",dict:=none,data:= .seq acc' c',slots:= #[]}->ItemsOf (HZ kvs prog w) acc' kvs.length->R (.ok (.ret res)) s'):
  wpAny (aT prog w) A.in1 (cR (.ref S) (.ref d) res)
   (λfin s'=>match fin with| .done f=>R (.ok f) s'| .again c'=>c'.quiet=true/\codeAny (aT prog w) A c' R s') (λe s'=>R (.error e) s') s:=by
 unfold cR
 have h1:gh (.ref S) (.ref d)=false:=by simp[gh,hne]
 have hT1:s.TypeIs (.ref d) "dict" :=hm.dictOf.typeIs
 refine aa (gX hT1 ?_)
 rw[if_neg (by rw[h1];decide)]
 refine aa (uf hd hm ?_)
 have hm2:(s.heap.push {cls:= .type "dict_keyiterator",data:= .fields #[.ref d,.int 0 0,.int kvs.length 0,.int ep 0]}).DictAt (L2.mixKind prog w) d kvs ep:=hm.at' λo e=>aj _ e
 have hI:(s.heap.push {cls:= .type "dict_keyiterator",data:= .fields #[.ref d,.int 0 0,.int kvs.length 0,.int ep 0]}).IsKeyIter s.heap.objs.size d 0 kvs.length ep:=⟨_,aJ _ rfl,rfl,rfl⟩
 have kp2:∀b o,s.heap.get? b=some o->(s.heap.push {cls:= .type "dict_keyiterator",data:= .fields #[.ref d,.int 0 0,.int kvs.length 0,.int ep 0]}).get? b=some o:=λb o q=>aj _ q
 have hdl:d<s.heap.objs.size:=by obtain⟨o,es,ho,_⟩:=hm;exact aF ho
 have hSl:S<s.heap.objs.size:=aF hS
 generalize s.heap.push {cls:= .type "dict_keyiterator",data:= .fields #[.ref d,.int 0 0,.int kvs.length 0,.int ep 0]}=g2 at hm2 hI kp2⊢
 refine aa (cJ ?_)
 unfold pq
 have hT2:al.TypeIs {s with heap:=g2} (.ref d) "dict" :=hm2.dictOf.typeIs
 refine aa (wpAny_specialOf hT2 F.slot_dict_len.lookup ?_)
 wp_delta
 refine aa (lU (T:= "dict") (v:= .ref d) (b:=true) hT2 (by rw[isSubtype_type];kernel_rfl) ?_)
 show wpAny _ A.in1 (typeOf (aH d)>>=_) _ _ _
 refine aa (gX hT2 ?_)
 refine ao ?_
 have nI:d≠s.heap.objs.size:=aS hdl
 have nL:S≠s.heap.objs.size:=aS hSl
 have hSf:S∉[s.heap.objs.size,d]:=by
  simp only[aI,bF,or_false,not_or]
  exact⟨nL,hne⟩
 show wpAny _ A.in1 (rule "list.extend.makes-room" >>=λ_=>cw.List.listTouch (.ref S)>>=λ_=>
  again (.builtin "list.extend.loop" ⟨[.ref S,.ref s.heap.objs.size,res],[]⟩)) _ _ _
 refine aa (iB ?_)
 refine aa ?_
 show wpAny _ A.in1 (updateSeq S (·.push .none)>>=λ_=>updateSeq S (·.pop)) _ _ _
 have hL2:=kp2 _ _ hS
 refine aa (iu (s:={s with heap:=g2}) hL2 rfl ?_)
 have hL3:=dH (c9 (·.push bA)) hL2 rfl
 refine iu (hz:=by seq_fits) hL3 rfl ?_
 have hL4:=dH (c9 (·.pop)) hL3 rfl
 have oth:∀b o,b≠S->g2.get? b=some o->((g2.update S (c9 (·.push bA))).update S (c9 (·.pop))).get? b=some o:=
  λb o hb e=>(ck _ _ (aG hb)).trans ((ck _ _ (aG hb)).trans e)
 have hh1:A.in1.handled=none:=by simp[hh]
 have W:=(Walks.dictKeys (prog:=prog) (w:=w) (knd:=L2.mixKind prog w) hh1 s.heap.objs.size d nI kvs ep).toS
 refine ao ⟨plainId_quiet F.plain_extend_loop _,codeAny_extend_loopS W hn _ hSf _ kvs.length 0 _ _ _ rfl (bn _)
  (W.frame 0 {s with heap:=g2} _ s.toks ⟨hI,hm2⟩ (am _) λb hb o e=>oth b o (λh=>hSf (h▸hb)) e) hL4 (ItemsOf.nil _) λs' acc' c' hmv hS'' hacc=> ?_⟩
 refine hR s' acc' c' (λb o hb e=> ?_) hmv.gens hmv.os hS'' hacc
 have hbl:b<s.heap.objs.size:=aF e
 refine hmv.heap b o ?_ (oth b o hb (kp2 b o e))
 simp only[aI,bF,or_false,not_or]
 exact⟨hb,aS hbl⟩
theorem rW{Q:ae->al->Prop}{kvs:List (L2.Key×ae)}{ep:Nat}(hh:A.handled=none)(hd:(d==eS)=false)(hm:s.heap.DictAt (L2.mixKind prog w) d kvs ep)(hn:kvs.length<=aQ)
  (hQ:∀(s':al) acc' c',(∀b o,s.heap.get? b=some o->s'.heap.get? b=some o)->s'.gens=s.gens->s'.os=s.os->s'.heap.get? s.heap.objs.size=some {cls:= .type "list",dict:=none,data:= .seq acc' c',slots:= #[]}->ItemsOf (HZ kvs prog w) acc' kvs.length->Q (.ref s.heap.objs.size) s'):
  wpAny (aT prog w) A (call (.type "list") [.ref d]) Q E s:=by
 refine callType_codes (Q₁:=λobj s₁=>obj= .ref s.heap.objs.size/\s₁={s with heap:=s.heap.push {cls:= .type "list",data:= .seq #[]}}) F.called_list (F.typeCall_list_1 _) F.entry_list_init
  (code_list_new _ ⟨rfl,rfl⟩) λobj s₁ h₁=> ?_
 obtain⟨rfl,rfl⟩:=h₁
 have hS:(s.heap.push {cls:= .type "list",data:= .seq #[]}).get? s.heap.objs.size=some {cls:= .type "list",data:= .seq #[]}:=aJ _ rfl
 have hdl:d<s.heap.objs.size:=by obtain⟨o,es,ho,_⟩:=hm;exact aF ho
 have hne:s.heap.objs.size≠d:=iM hdl
 have hm1:(s.heap.push {cls:= .type "list",data:= .seq #[]}).DictAt (L2.mixKind prog w) d kvs ep:=hm.at' λo e=>aj _ e
 refine⟨⟨_,hS,rfl⟩,F.args_list_init_2 _ _,?_⟩
 show wpAny _ _ (do let old <-cw.List.listItems (.ref s.heap.objs.size);cw.List.listUpdate (.ref s.heap.objs.size) (λ_=> #[]);letGo old.toList.reverse;cR (.ref s.heap.objs.size) (.ref d) .none) _ _ _
 refine aa ?_
 unfold cw.List.listItems
 refine aa (dU hS rfl (ao ?_))
 show wpAny _ _ (updateSeq s.heap.objs.size (λ_=> #[])>>=λ_=>letGo (#[]:Array ae).toList.reverse>>=λ_=>cR (.ref s.heap.objs.size) (.ref d) .none) _ _ _
 refine aa (iu hS rfl ?_)
 have hS₂:=dH (c9 (λ_=>(#[]:Array ae))) hS rfl
 have oth:∀b o,b≠s.heap.objs.size->(s.heap.push {cls:= .type "list",data:= .seq #[]}).get? b=some o->((s.heap.push {cls:= .type "list",data:= .seq #[]}).update s.heap.objs.size (c9 (λ_=>(#[]:Array ae)))).get? b=some o:=
  λb o hb e=>(ck _ _ (aG hb)).trans e
 refine aa (wpAny_letGo ?_)
 have hm2:=hm1.at' λo e=>oth d o (aG hne) e
 refine mK (A:=A.in1) (by simp[hh]) hd hm2 _ hne .none _ hS₂ hn λs' acc' c' hk g o hS' hacc=> ?_
 exact⟨rfl,hQ s' acc' c' (λb o e=>hk b o (aS (aF e)) (oth b o (aS (aF e)) (aj _ e))) g o hS' hacc⟩
end
end PySem
namespace L3
open PySem L2
noncomputable def rj:C2:=λps G Q=>match ps with
 |[.ref a]=>match kz G a with
  |some kvs=>∀c,G c=none->Q (.ref c) (up G c (.lst (kvs.map λkv=>kP kv.1)))
  |none=>False
 |_=>False
theorem zE{a:Addr}{G:Gp}{kvs:List (Key×PV)}{Q:K2}(h:kz G a=some kvs)(q:∀c,G c=none->Q (.ref c) (up G c (.lst (kvs.map λkv=>kP kv.1)))):rj [.ref a] G Q:=by
 unfold rj;simp only[h];exact q
theorem DC{K:PySem.W.Frag}{H:Hp}:∀(ks:List Key),Dvs K H (ks.map kP) (ks.map kV)
 |[]=>rfl
 |k::ks=>⟨_,_,rfl,Md k,DC ks⟩
theorem Hj{X:Cx}(hc:X.calm=true):hV X (.type "list") (pT X.K rj):=by
 intro pins s σ H xs us Q I rs h
 obtain⟨ps,G,Q2,d,rp,h,cl⟩:=h
 unfold rj at h
 split at h
 ·rename_i a
  split at h
  ·rename_i kvs ea
   obtain⟨v,rfl,dv⟩:=fC d
   obtain rfl:v= .ref a:=dv
   obtain⟨u,rfl,ru⟩:=rs.one
   obtain rfl:u=aH a:=ru
   obtain⟨vs,hv,dk⟩:=rp.dR ea
   obtain⟨z,hd,ws,kv,dd⟩:=pF I.hok hv
   obtain⟨ep,da⟩:=dd.dictAt
   have hl:=kv.length
   have hl2:=dk.length
   refine rW (I.ok.hd hc) hd da (by ac_nf) λs' acc c hk g o hS hacc=> ?_
   have hn:s.heap.get? s.heap.objs.size=none:=by
    cases e:s.heap.get? s.heap.objs.size with
    |none=>rfl
    |some o=>exact absurd (aF e) (dP _)
   have hHl:H s.heap.objs.size=none:=I.hok.none_of hn
   obtain⟨hp',g',d',t',o'⟩:=s'
   obtain rfl:g'=s.gens:=g
   obtain rfl:o'=s.os:=o
   have e1:(kvs.map λkv=>kP kv.1)=(vs.map (·.1)).map kP:=by rw[<-yk dk,bp];rfl
   refine⟨.ref s.heap.objs.size,upd H s.heap.objs.size (.lst ((vs.map (·.1)).map kV)),I.call (ch:=[]) (Un.laidN hk hn hHl) (I.hok.laidN hk hHl ?_) I.bare (λb z=>absurd z (by simp)),rfl,cl _ _ _ _ (h _ (rp.none hHl)) rfl ?_ (bQ hHl)⟩
   ·refine⟨by simp;ac_nf,acc.toList,c,yK ?_ λi x u hx hu=> ?_,by simpa using hS⟩
    ·rw[br,ai,ai]
     have:=hacc.1
     ac_nf
    ·obtain⟨k,x',hkx,hkv⟩:=hacc.2 i u (by rw[<-lC];exact hu)
     have e3:(ws.map (·.1))[i]? =some k:=by rw[aC,hkx];rfl
     rw[<-kv.keys]at e3
     rw[aC,e3]at hx
     cases hx
     exact DD hkv
   ·rw[e1]
    exact rp.new hHl (DC _)
  ·exact h.elim
 ·exact h.elim
theorem DJ{X:Cx}{e:Expr}{es:List Expr}{t:A2}{p pos:Pos}(B:BN X.mg)(hc:X.calm=true)(ha:JA X (e::es) t)(hg:Gl X "list" :=by rfl)(he:aB (e::es) X.env=(false,eval e X.env)::aB es X.env:=by rfl)(hpl:(ce pos (aB es X.env)).any (·.1)=false:=by rfl):
  JE X (.Call (.Name "list" p) (e::es) [] pos) (tJ rj t):=rB (Hj hc) B.list tN ha hg (by decide) (by decide) he hpl
structure r9(K:PySem.W.Frag)(C:Addr)(f:Str):Prop where
 c:Cls K C
 n:NoAttr K C f
theorem Kl{X:Cx}{C:Addr}{e:Expr}{f:Str}{t:E2}{pos:Pos}(h:r9 X.K C f)(he:JE X e t)(hb:cz e f X.env (eval e X.env)=eval e X.env:=by rfl):JE X (.Attribute e f pos) (Nk C t f):=HN h.c h.n he hb
theorem z0{prog:aK}{w:aX}{A:Around}{E:ae->al->Prop}{s:al}{z TI TO i1 i2 l1 l2:Addr}{k:Nat}{xs ys:Array ae}{c1 c2:ae}{a b:ae}{Q:ae->al->Prop}
  (d:[z,TI,TO,i1,i2].Nodup) (hz:IsZip s.heap z TI TO .none) (hTI:er s.heap TI (.ref i1) (.ref i2)) (hTO:er s.heap TO a b)
  (h1:s.heap.IsTupleIter i1 l1 k) (h2:s.heap.IsListIter i2 l2 k) (t1:s.heap.IsTuple l1 xs) (t2:s.heap.IsList l2 ys) (n1:l1∉[z,TI,TO,i1,i2]) (n2:l2∉[z,TI,TO,i1,i2]) (hx:xs[k]? =some c1) (hy:ys[k]? =some c2)
  (hQ:∀h':Heap,IsZip h' z TI TO (rawInt ↑s.heap.objs.size)->(∃a b,er h' TO a b)->h'.IsTupleIter i1 l1 (k+1)->h'.IsListIter i2 l2 (k+1)->
   er h' s.heap.objs.size c1 c2->h'.objs.size=s.heap.objs.size+1->
   (∀c o,c≠z->c≠TO->c≠i1->c≠i2->s.heap.get? c=some o->h'.get? c=some o)->Q (.ref s.heap.objs.size) {s with heap:=h'}):
  wpAny (aT prog w) A (cw.«zip.__next__» {pos:=[.ref z]}) (λfin s'=>∃v,fin=Fin.done (Flow.ret v)/\Q v s') E s:=by
 simp only[bi,aI,bF,or_false,not_or]at d n1 n2
 obtain⟨⟨zTI,zTO,z1,z2⟩,⟨TITO,TI1,sw⟩,⟨TO1,TO2⟩,i12,_⟩:=d
 obtain⟨lz1,_,lO1,l11,l12⟩:=n1
 obtain⟨lz2,_,lO2,l21,l22⟩:=n2
 refine aa (show wpAny _ _ (pure (aH z,([]:List ae))) _ _ _ from ao ?_)
 refine aa (bS hz rfl rfl ?_)
 refine aa (bS hz rfl rfl ?_)
 refine aa (dU hTI rfl ?_)
 refine aa (aa (bS hz rfl rfl (ao ?_)))
 simp only[if_true]
 refine aa (iB (aa (bS hz rfl rfl ?_)))
 refine aa (eQ hz (by simp) λh₁ hz₁ hs₁=> ?_)
 have hz1:IsZip h₁ z TI TO .ellipsis:=hz₁
 refine aa ?_
 simp only[List.zipIdx_cons,List.zipIdx_nil,lB,List.forIn_nil]
 refine aa (aa (lp ?_))
 change wpAny _ _ (bind (bM (aH i1)) λx=>pure (some x)) _ _ _
 refine aa (jr (h1.extBut hs₁.extBut (aG z1)) (t1.extBut hs₁.extBut lz1) hx λh₂ j2 sb2=>ao ?_)
 have hTO2:er h₂ TO a b:=sb2.extBut _ _ TO1 (hs₁.extBut _ _ (aG zTO) hTO)
 refine aa (dU hTO2 rfl (aa (pL hTO2 λh₃ p3 sb3=>aa (wpAny_letGo (ao ?_)))))
 refine aa (aa (lp ?_))
 change wpAny _ _ (bind (bM (aH i2)) λx=>pure (some x)) _ _ _
 have k2:h₃.IsListIter i2 l2 k:=((h2.extBut hs₁.extBut (aG z2)).extBut sb2.extBut (aG i12)).extBut sb3.extBut (aG TO2)
 have t2':h₃.IsList l2 ys:=((t2.extBut hs₁.extBut lz2).extBut sb2.extBut l21).extBut sb3.extBut lO2
 refine aa (wpAny_nextOf_list_item k2 t2' hy λh₄ j4 sb4=>ao ?_)
 have hTO4:er h₄ TO c1 b:=sb4.extBut _ _ TO2 p3
 refine aa (dU hTO4 rfl (aa (pL hTO4 λh₅ p5 sb5=>aa (wpAny_letGo (ao (ao ?_))))))
 have hTO5:er h₅ TO c1 c2:=p5
 refine aa (dU hTO5 rfl (aa (wpAny_newTuple ?_)))
 have sz5:h₅.objs.size=s.heap.objs.size:=by rw[sb5.1,sb4.1,sb3.1,sb2.1,hs₁.1]
 have hz5:IsZip h₅ z TI TO .ellipsis:=sb5.extBut _ _ zTO (sb4.extBut _ _ z2 (sb3.extBut _ _ zTO (sb2.extBut _ _ z1 hz1)))
 rw[sz5]
 have zl:z<s.heap.objs.size:=aF hz
 refine aa (aa (eQ (s:={s with heap:=h₅.push _}) (aj _ hz5) (by simp) λh₆ hz6 sb6=> ?_))
 refine eQ hz6 (by simp) λh₇ hz7 sb7=>ao ⟨_,rfl,?_⟩
 have up:∀c o,c≠z->h₅.get? c=some o->h₇.get? c=some o:=λc o n e=>sb7.extBut _ _ n (sb6.extBut _ _ n (aj _ e))
 have j1:h₅.IsTupleIter i1 l1 (k+1):=((j2.extBut sb3.extBut (aG TO1)).extBut sb4.extBut i12).extBut sb5.extBut (aG TO1)
 have j2':h₅.IsListIter i2 l2 (k+1):=j4.extBut sb5.extBut (aG TO2)
 refine hQ h₇ hz7 ⟨_,_,up _ _ (aG zTO) hTO5⟩ (j1.extBut (λc o n e=>up c o n e) (aG z1)) (j2'.extBut (λc o n e=>up c o n e) (aG z2)) ?_ ?_ ?_
 ·refine sb7.extBut _ _ (iM zl) (sb6.extBut _ _ (iM zl) ?_)
  rw[<-sz5]
  exact aJ _ rfl
 ·rw[sb7.1,sb6.1,cU,sz5]
 ·intro c o n1 n2 n3 n4 e
  exact up c o n1 (sb5.extBut _ _ n2 (sb4.extBut _ _ n4 (sb3.extBut _ _ n2 (sb2.extBut _ _ n3 (hs₁.extBut _ _ n1 e)))))
theorem sj{prog:aK}{w:aX}{A:Around}{E:ae->al->Prop}{s:al}{z TI TO i1 i2 l1 l2:Addr}{k:Nat}{xs ys:Array ae}{c1 c2:ae}{a b:ae}{Q:Option ae->al->Prop}
  (d:[z,TI,TO,i1,i2].Nodup) (hz:IsZip s.heap z TI TO .none) (hTI:er s.heap TI (.ref i1) (.ref i2)) (hTO:er s.heap TO a b)
  (h1:s.heap.IsTupleIter i1 l1 k) (h2:s.heap.IsListIter i2 l2 k) (t1:s.heap.IsTuple l1 xs) (t2:s.heap.IsList l2 ys) (n1:l1∉[z,TI,TO,i1,i2]) (n2:l2∉[z,TI,TO,i1,i2]) (hx:xs[k]? =some c1) (hy:ys[k]? =some c2)
  (hQ:∀h':Heap,IsZip h' z TI TO (rawInt ↑s.heap.objs.size)->(∃a b,er h' TO a b)->h'.IsTupleIter i1 l1 (k+1)->h'.IsListIter i2 l2 (k+1)->
   er h' s.heap.objs.size c1 c2->h'.objs.size=s.heap.objs.size+1->
   (∀c o,c≠z->c≠TO->c≠i1->c≠i2->s.heap.get? c=some o->h'.get? c=some o)->Q (some (.ref s.heap.objs.size)) {s with heap:=h'}):
  wpAny (aT prog w) A (pyNext (.ref z)) Q E s:=by
 have hT:s.TypeIs (.ref z) "zip" :=⟨_,hz,rfl⟩
 exact aa (lr (cH hT ie (cZ ie hT F.entry_zip_next
  (z0 d hz hTI hTO h1 h2 t1 t2 n1 n2 hx hy λh' a1 a2 a3 a4 a5 a6 a7=>ao (hQ h' a1 a2 a3 a4 a5 a6 a7)) (sA (aH z)))))
theorem Bl(l1 l2:Addr):
  Meets (cw.«zip.__new__» {pos:=[.type "zip",.ref l1,.ref l2]}) λA R s=>
   (∃xs ys,s.heap.IsTuple l1 xs/\s.heap.IsList l2 ys)/\
   ∀h':Heap,IsZip h' (s.heap.objs.size+4) (s.heap.objs.size+2) (s.heap.objs.size+3) .none->er h' (s.heap.objs.size+2) (.ref s.heap.objs.size) (.ref (s.heap.objs.size+1))->er h' (s.heap.objs.size+3) .none .none->
    h'.IsTupleIter s.heap.objs.size l1 0->h'.IsListIter (s.heap.objs.size+1) l2 0->h'.objs.size=s.heap.objs.size+5->(∀c o,s.heap.get? c=some o->h'.get? c=some o)->
    R (.ok (.ret (.ref (s.heap.objs.size+4)))) {s with heap:=h'}:=by
 refine Meets.of_wp λprog w A R s h=> ?_
 obtain⟨⟨xs,ys,t1,t2⟩,h⟩:=h
 refine aa (aa (show wpAny _ _ (pure _) _ _ _ from ao ?_))
 refine wpAny_ite_false rfl (aa (wpAny_of_eq sub_zip (wpAny_ite_false rfl (ao (wpAny_ite_false rfl ?_)))))
 refine aa (aa ?_)
 refine aa (aa (cJ (wpAny_pyIter_tuple t1 (ao ?_))))
 refine aa (aa (cJ (ue (t2.push _) (ao ?_))))
 refine ao (ao ?_)
 refine aa (wpAny_newTuple ?_ (show 2<=aQ by decide))
 refine aa (wpAny_newTuple ?_ (show 2<=aQ by decide))
 refine aa (Ju ?_ (show 5<=aQ+2 by decide))
 have z1:=cU s.heap {cls:=bD "tuple_iterator",data:=dC #[aH l1,ed 0 0]}
 generalize e1:s.heap.push {cls:=bD "tuple_iterator",data:=dC #[aH l1,ed 0 0]}=g1 at*
 have z2:=cU g1 {cls:=bD "list_iterator",data:=dC #[aH l2,ed 0 0]}
 have p1:g1.get? s.heap.objs.size=some {cls:=bD "tuple_iterator",data:=dC #[aH l1,ed 0 0]}:=by rw[<-e1];exact aJ _ rfl
 have q1:∀c o,s.heap.get? c=some o->g1.get? c=some o:=λc o q=>by rw[<-e1];exact aj _ q
 have p2:=aJ g1 (o:={cls:=bD "list_iterator",data:=dC #[aH l2,ed 0 0]}) rfl
 have q2:∀c o,g1.get? c=some o->(g1.push {cls:=bD "list_iterator",data:=dC #[aH l2,ed 0 0]}).get? c=some o:=λc o q=>aj _ q
 generalize g1.push {cls:=bD "list_iterator",data:=dC #[aH l2,ed 0 0]}=g2 at*
 rw[z1]at z2 p2
 refine ao ⟨_,rfl,?_⟩
 have z3:=cU g2 {cls:=bD "tuple",data:=fc #[aH s.heap.objs.size,aH g1.objs.size]}
 have p3:=aJ g2 (o:={cls:=bD "tuple",data:=fc #[aH s.heap.objs.size,aH g1.objs.size]}) rfl
 have q3:∀c o,g2.get? c=some o->(g2.push {cls:=bD "tuple",data:=fc #[aH s.heap.objs.size,aH g1.objs.size]}).get? c=some o:=λc o q=>aj _ q
 show R (Except.ok (Flow.ret (aH ((g2.push {cls:=bD "tuple",data:=fc #[aH s.heap.objs.size,aH g1.objs.size]}).push {cls:=bD "tuple",data:=fc #[bA,bA]}).objs.size))) {s with heap:=(((g2.push {cls:=bD "tuple",data:=fc #[aH s.heap.objs.size,aH g1.objs.size]}).push {cls:=bD "tuple",data:=fc #[bA,bA]}).push {cls:=bD "zip",data:=dC #[bA,fj false,fj false,aH g2.objs.size,aH (g2.push {cls:=bD "tuple",data:=fc #[aH s.heap.objs.size,aH g1.objs.size]}).objs.size]})}
 generalize g2.push {cls:=bD "tuple",data:=fc #[aH s.heap.objs.size,aH g1.objs.size]}=g3 at*
 have z4:=cU g3 {cls:=bD "tuple",data:=fc #[bA,bA]}
 have p4:=aJ g3 (o:={cls:=bD "tuple",data:=fc #[bA,bA]}) rfl
 have q4:∀c o,g3.get? c=some o->(g3.push {cls:=bD "tuple",data:=fc #[bA,bA]}).get? c=some o:=λc o q=>aj _ q
 generalize g3.push {cls:=bD "tuple",data:=fc #[bA,bA]}=g4 at*
 have s2:g2.objs.size=s.heap.objs.size+2:=z2
 have s3:g3.objs.size=s.heap.objs.size+3:=by rw[z3,s2]
 have s4:g4.objs.size=s.heap.objs.size+4:=by rw[z4,s3]
 rw[s2,s3,s4]
 have z5:=cU g4 {cls:=bD "zip",data:=dC #[bA,fj false,fj false,aH (s.heap.objs.size+2),aH (s.heap.objs.size+3)]}
 have p5:=aJ g4 (o:={cls:=bD "zip",data:=dC #[bA,fj false,fj false,aH (s.heap.objs.size+2),aH (s.heap.objs.size+3)]}) rfl
 have q5:∀c o,g4.get? c=some o->(g4.push {cls:=bD "zip",data:=dC #[bA,fj false,fj false,aH (s.heap.objs.size+2),aH (s.heap.objs.size+3)]}).get? c=some o:=λc o q=>aj _ q
 rw[s4]at z5 p5
 rw[s3]at p4
 rw[s2,z1]at p3
 exact h _ p5 (q5 _ _ (q4 _ _ p3)) (q5 _ _ p4) ⟨_,q5 _ _ (q4 _ _ (q3 _ _ (q2 _ _ p1))),rfl,rfl⟩ ⟨_,q5 _ _ (q4 _ _ (q3 _ _ p2)),rfl,rfl⟩ z5 λc o q=>q5 _ _ (q4 _ _ (q3 _ _ (q2 _ _ (q1 _ _ q))))
theorem A6{prog:aK}{w:aX}{A:Around}{E:ae->al->Prop}{s:al}{l1 l2:Addr}{xs ys:Array ae}{Q:ae->al->Prop}(t1:s.heap.IsTuple l1 xs)(t2:s.heap.IsList l2 ys)
  (h:∀h':Heap,IsZip h' (s.heap.objs.size+4) (s.heap.objs.size+2) (s.heap.objs.size+3) .none->er h' (s.heap.objs.size+2) (.ref s.heap.objs.size) (.ref (s.heap.objs.size+1))->er h' (s.heap.objs.size+3) .none .none->
    h'.IsTupleIter s.heap.objs.size l1 0->h'.IsListIter (s.heap.objs.size+1) l2 0->h'.objs.size=s.heap.objs.size+5->(∀c o,s.heap.get? c=some o->h'.get? c=some o)->
    Q (.ref (s.heap.objs.size+4)) {s with heap:=h'}):
  wpAny (aT prog w) A (call (.type "zip") [.ref l1,.ref l2]) Q E s:=
 callType_new F.called_zip (by decide) (F.typeCall_zip_2 _ _) (F.newCall_zip_2 _ _) (λobj=>F.args_object_init_3 obj _ _) F.entry_zip_new (Bl l1 l2)
  ⟨⟨xs,ys,t1,t2⟩,λh' a1 a2 a3 a4 a5 a6 a7=>⟨⟨_,a1,rfl⟩,h h' a1 a2 a3 a4 a5 a6 a7⟩⟩
theorem Bm{prog:aK}{w:aX}{A:Around}{E:ae->al->Prop}{s:al}{z TI TO i1 i2 l1 l2:Addr}{k:Nat}{xs ys:Array ae}{c1:ae}{a b:ae}{Q:Fin->al->Prop}
  (hh:A.handled=none) (d:[z,TI,TO,i1,i2].Nodup) (hz:IsZip s.heap z TI TO .none) (hTI:er s.heap TI (.ref i1) (.ref i2)) (hTO:er s.heap TO a b)
  (h1:s.heap.IsTupleIter i1 l1 k) (h2:s.heap.IsListIter i2 l2 k) (t1:s.heap.IsTuple l1 xs) (t2:s.heap.IsList l2 ys) (n1:l1∉[z,TI,TO,i1,i2]) (n2:l2∉[z,TI,TO,i1,i2]) (hx:xs[k]? =some c1) (hy:ys[k]? =none)
  (hE:∀(h':Heap) (e:Addr),(∀c o,c≠z->c≠TO->c≠i1->c≠i2->s.heap.get? c=some o->h'.get? c=some o)->(∃o,h'.get? e=some o/\o.cls= .type "StopIteration")->E (.ref e) {s with heap:=h'}):
  wpAny (aT prog w) A (cw.«zip.__next__» {pos:=[.ref z]}) Q E s:=by
 simp only[bi,aI,bF,or_false,not_or]at d n1 n2
 obtain⟨⟨zTI,zTO,z1,z2⟩,⟨TITO,TI1,sw⟩,⟨TO1,TO2⟩,i12,_⟩:=d
 obtain⟨lz1,_,lO1,l11,l12⟩:=n1
 obtain⟨lz2,_,lO2,l21,l22⟩:=n2
 refine aa (show wpAny _ _ (pure (aH z,([]:List ae))) _ _ _ from ao ?_)
 refine aa (bS hz rfl rfl ?_)
 refine aa (bS hz rfl rfl ?_)
 refine aa (dU hTI rfl ?_)
 refine aa (aa (bS hz rfl rfl (ao ?_)))
 simp only[if_true]
 refine aa (iB (aa (bS hz rfl rfl ?_)))
 refine aa (eQ hz (by simp) λh₁ hz₁ hs₁=> ?_)
 have hz1:IsZip h₁ z TI TO .ellipsis:=hz₁
 refine aa ?_
 simp only[List.zipIdx_cons,List.zipIdx_nil,lB,List.forIn_nil]
 refine aa (aa (lp ?_))
 change wpAny _ _ (bind (bM (aH i1)) λx=>pure (some x)) _ _ _
 refine aa (jr (h1.extBut hs₁.extBut (aG z1)) (t1.extBut hs₁.extBut lz1) hx λh₂ j2 sb2=>ao ?_)
 have hTO2:er h₂ TO a b:=sb2.extBut _ _ TO1 (hs₁.extBut _ _ (aG zTO) hTO)
 refine aa (dU hTO2 rfl (aa (pL hTO2 λh₃ p3 sb3=>aa (wpAny_letGo (ao ?_)))))
 refine aa (aa (lp ?_))
 change wpAny _ _ (bind (bM (aH i2)) λx=>pure (some x)) _ _ _
 have k2:h₃.IsListIter i2 l2 k:=((h2.extBut hs₁.extBut (aG z2)).extBut sb2.extBut (aG i12)).extBut sb3.extBut (aG TO2)
 have t2':h₃.IsList l2 ys:=((t2.extBut hs₁.extBut lz2).extBut sb2.extBut l21).extBut sb3.extBut lO2
 refine aa (wpAny_nextOf_list_end hh k2 t2' hy λh₄ e sb4 he=> ?_)
 have hz4:IsZip h₄ z TI TO .ellipsis:=sb4 _ _ z2 (sb3.extBut _ _ zTO (sb2.extBut _ _ z1 hz1))
 obtain⟨o,ho,hc⟩:=he
 refine eQ hz4 (by simp) λh₅ hz5 sb5=>hE h₅ e (λc u n1 n2 n3 n4 q=> ?_) ⟨o,sb5.extBut _ _ (λq=> ?_) ho,hc⟩
 ·exact sb5.extBut _ _ n1 (sb4 _ _ n4 (sb3.extBut _ _ n2 (sb2.extBut _ _ n3 (hs₁.extBut _ _ n1 q))))
 ·subst q
  rw[show h₄.get? e=_ from hz4]at ho
  cases ho
  exact absurd (bD.inj hc) (by decide)
theorem uF{prog:aK}{w:aX}{A:Around}{E:ae->al->Prop}{s:al}{z TI TO i1 i2 l1 l2:Addr}{k:Nat}{xs ys:Array ae}{c1:ae}{a b:ae}{Q:Option ae->al->Prop}
  (hh:A.handled=none) (d:[z,TI,TO,i1,i2].Nodup) (hz:IsZip s.heap z TI TO .none) (hTI:er s.heap TI (.ref i1) (.ref i2)) (hTO:er s.heap TO a b)
  (h1:s.heap.IsTupleIter i1 l1 k) (h2:s.heap.IsListIter i2 l2 k) (t1:s.heap.IsTuple l1 xs) (t2:s.heap.IsList l2 ys) (n1:l1∉[z,TI,TO,i1,i2]) (n2:l2∉[z,TI,TO,i1,i2]) (hx:xs[k]? =some c1) (hy:ys[k]? =none)
  (hQ:∀h':Heap,(∀c o,c≠z->c≠TO->c≠i1->c≠i2->s.heap.get? c=some o->h'.get? c=some o)->Q none {s with heap:=h'}):
  wpAny (aT prog w) A (pyNext (.ref z)) Q E s:=by
 have hT:s.TypeIs (.ref z) "zip" :=⟨_,hz,rfl⟩
 exact aa (lr (cH hT ie (cZ ie hT F.entry_zip_next
  (Bm hh d hz hTI hTO h1 h2 t1 t2 n1 n2 hx hy λh' e hk ⟨o,ho,hc⟩=>aa (lU ⟨o,ho,hc⟩ isSubtype_stop (ao (hQ h' hk)))) (sA (aH z)))))
noncomputable def K1(K:PySem.W.Frag)(a1 a2:Addr):It:=
 ⟨λi H=>∃xs ys x y,SqT K H a1 xs/\SqL K H a2 ys/\xs[i]? =some x/\ys[i]? =some y,
  λi H v H'=>∃p,H p=none/\v= .ref p/\∀xs ys,SqT K H a1 xs->SqL K H a2 ys->∃x y,xs[i]? =some x/\ys[i]? =some y/\H'=upd H p (.tup [x,y]),
  λi H=>∃xs ys,SqT K H a1 xs/\SqL K H a2 ys/\(xs.length<=i\/ys.length<=i)⟩
theorem Ac{P:aK}{w:aX}{K:PySem.W.Frag}{elts:List Expr}{x1:Nat}{pos:Pos}{a1 a2:Addr}{z TI TO i1 i2:Addr}(d:[z,TI,TO,i1,i2].Nodup)(n1:a1∉[z,TI,TO,i1,i2])(n2:a2∉[z,TI,TO,i1,i2]):
  sv P w K (.Tuple elts x1 pos) (K1 K a1 a2) [z,TI,TO,i1,i2] z (λi h=>IsZip h z TI TO .none/\er h TI (.ref i1) (.ref i2)/\(∃a b,er h TO a b)/\h.IsTupleIter i1 a1 i/\h.IsListIter i2 a2 i) where
 mem:=by simp
 obj:=λi h st b hb=>by
  obtain⟨hz,hTI,⟨a,c,hTO⟩,⟨o1,e1,_,d1⟩,⟨o2,e2,_,d2⟩⟩:=st
  have hb':b=z\/b=TI\/b=TO\/b=i1\/b=i2:=by simpa using hb
  rcases hb' with rfl|rfl|rfl|rfl|rfl
  ·exact⟨_,hz,λv q=>by cases (show dC _=Data.cell v from q)⟩
  ·exact⟨_,hTI,λv q=>by cases (show fc _ _=Data.cell v from q)⟩
  ·exact⟨_,hTO,λv q=>by cases (show fc _ _=Data.cell v from q)⟩
  ·exact⟨o1,e1,λv q=>by rw[d1]at q;cases q⟩
  ·exact⟨o2,e2,λv q=>by rw[d2]at q;cases q⟩
 keep:=λi h h' st k=>by
  obtain⟨hz,hTI,⟨a,c,hTO⟩,⟨o1,e1,c1,d1⟩,⟨o2,e2,c2,d2⟩⟩:=st
  exact⟨k z (by simp) _ hz,k TI (by simp) _ hTI,⟨a,c,k TO (by simp) _ hTO⟩,⟨o1,k i1 (by simp) o1 e1,c1,d1⟩,⟨o2,k i2 (by simp) o2 e2,c2,d2⟩⟩
 item:=by
  intro X hP hw hK hc i pins s σ H E I hf st hg
  subst hP hw hK
  obtain⟨hz,hTI,⟨a,b,hTO⟩,h1,h2⟩:=st
  obtain⟨xs,ys,x,y,sq1,sq2,hx,hy⟩:=hg
  obtain⟨us1,rv1,p1,_⟩:=I.tuple sq1
  obtain⟨us2,rv2,p2,_⟩:=I.list sq2
  obtain⟨u,hu,ru⟩:=rv1.get hx
  obtain⟨v,hv,rv⟩:=rv2.get hy
  have lts:∀b∈[z,TI,TO,i1,i2],b<s.heap.objs.size:=λb hb=>by
   have hb':b=z\/b=TI\/b=TO\/b=i1\/b=i2:=by simpa using hb
   rcases hb' with rfl|rfl|rfl|rfl|rfl
   ·exact aF hz
   ·exact aF hTI
   ·exact aF hTO
   ·obtain⟨o,e,_⟩:=h1;exact aF e
   ·obtain⟨o,e,_⟩:=h2;exact aF e
  refine sj d hz hTI hTO h1 h2 (show s.heap.IsTuple a1 us1.toArray from p1) p2.isList n1 n2 (c1:=u) (c2:=v) (by simpa using hu) (by simpa using hv) λg1 gz gTO gi1 gi2 gT gsz gk=> ?_
  refine⟨_,rfl,wpAny_letOwnedTupleGo_zip gz λg2 hz2 hs2=> ?_⟩
  replace hs2:e8 z g1 g2:=hs2
  have hpn:H s.heap.objs.size=none:=I.hok.fresh (am _)
  have k2:∀b o,b∉[z,TI,TO,i1,i2]->s.heap.get? b=some o->g2.get? b=some o:=λb o n q=>by
   simp only[aI,bF,or_false,not_or]at n
   exact hs2.extBut b o n.1 (gk b o n.1 n.2.2.1 n.2.2.2.1 n.2.2.2.2 q)
  have hTI2:er g2 TI (.ref i1) (.ref i2):=by
   simp only[bi,aI,bF,or_false,not_or]at d
   exact hs2.extBut _ _ (aG d.1.1) (gk _ _ (aG d.1.1) d.2.1.1 d.2.1.2.1 d.2.1.2.2 hTI)
  have ht2:g2.get? s.heap.objs.size=some {cls:= .type "tuple",data:= .seq #[u,v]}:=hs2.extBut _ _ (iM (lts z (by simp))) gT
  have ne1:∀b o,H b=some o->b∉[z,TI,TO,i1,i2]:=λb o q hb=>by rw[(hf b hb).1]at q;cases q
  have lt:∀b o,s.heap.get? b=some o->b≠s.heap.objs.size:=λb o q=>aS (aF q)
  have hok:HOk X.prog X.w (upd H s.heap.objs.size (.tup [x,y])) g2:=λb o q=>by
   by_cases hb:b=s.heap.objs.size
   ·subst hb
    rw[cG]at q
    cases q
    refine⟨(by show 2<=aQ;decide),[u,v],.cons ru (.cons rv .nil),⟨_,ht2,rfl,_,rfl⟩⟩
   ·rw[bH hb]at q
    refine(I.hok b o q).stay (λc v hc' z=> ?_) (λc z=>by rw[bH (cM z hpn)];exact z) λc xs z=>by rw[bH (cM z hpn)];exact z
    refine k2 c v ?_ z
    rcases hc' with rfl|hc'
    ·exact ne1 _ _ q
    ·exact ne1 _ _ hc'
  have un:Un (xc X.stack) [z,TI,TO,i1,i2] H (upd H s.heap.objs.size (.tup [x,y])) s.heap g2:=by
   refine⟨λb o q _ _ hb=>k2 b o hb q,λb o q _ _ hb=>⟨o.slots,k2 b o hb q⟩,λb o q n _=>by rw[bH (lt b o q)];exact n,
    λb o q hb=>⟨o,k2 b o hb q⟩,λb xs q=>by rw[bH (cM q hpn)];exact q,λb o xs q=>by rw[bH (cM q hpn)];exact q,λb ps q=>⟨#[],by rw[bH (cM q hpn),q];simp⟩⟩
  have I2:Inv X pins σ (upd H s.heap.objs.size (.tup [x,y])) {s with heap:=g2}:=I.call' (s':={s with heap:=g2}) rfl un hok I.bare λb hb=>by
   have q:=hf b hb
   exact⟨q.2.2.2.1,q.2.1,q.2.2.2.2.1,q.2.2.2.2.2⟩
  obtain⟨a',b',gTO⟩:=gTO
  have d':=d
  simp only[bi,aI,bF,or_false,not_or]at d'
  refine⟨.ref s.heap.objs.size,_,I2,rfl,⟨s.heap.objs.size,hpn,rfl,λxs' ys' h1 h2=>⟨x,y,by rw[I.tuple_inj h1 sq1];exact hx,by rw[I.list_inj h2 sq2];exact hy,rfl⟩⟩,⟨hz2,hTI2,⟨_,_,hs2.extBut _ _ (aG d'.1.2.1) gTO⟩,gi1.extBut hs2.extBut (aG d'.1.2.2.1),gi2.extBut hs2.extBut (aG d'.1.2.2.2)⟩,λb hb=> ?_⟩
  rw[bH (aS (lts b hb))]
  exact(hf b hb).1
 done:=by
  intro X hP hw hK hc i pins s σ H E I hf st hg
  subst hP hw hK
  obtain⟨hz,hTI,⟨a,b,hTO⟩,h1,h2⟩:=st
  obtain⟨xs,ys,sq1,sq2,hx⟩:=hg
  obtain⟨us1,rv1,p1,_⟩:=I.tuple sq1
  obtain⟨us2,rv2,p2,_⟩:=I.list sq2
  have hl:=rv1.length
  have hl2:=rv2.length
  have fin:∀g2:Heap,(∀c o,c≠z->c≠TO->c≠i1->c≠i2->s.heap.get? c=some o->g2.get? c=some o)->Inv X pins σ H {s with heap:=g2}:=λg2 gk=>by
   have k2:∀b o,b∉[z,TI,TO,i1,i2]->s.heap.get? b=some o->g2.get? b=some o:=λb o n q=>by
    simp only[aI,bF,or_false,not_or]at n
    exact gk b o n.1 n.2.2.1 n.2.2.2.1 n.2.2.2.2 q
   have ne1:∀b o,H b=some o->b∉[z,TI,TO,i1,i2]:=λb o q hb=>by rw[(hf b hb).1]at q;cases q
   have hok:HOk X.prog X.w H g2:=λb o q=>by
    refine(I.hok b o q).stay (λc v hc' z=> ?_) (λc z=>z) λc xs z=>z
    refine k2 c v ?_ z
    rcases hc' with rfl|hc'
    ·exact ne1 _ _ q
    ·exact ne1 _ _ hc'
   have un:Un (xc X.stack) [z,TI,TO,i1,i2] H H s.heap g2:=by
    refine⟨λb o q _ _ hb=>k2 b o hb q,λb o q _ _ hb=>⟨o.slots,k2 b o hb q⟩,λb o q n _=>n,
     λb o q hb=>⟨o,k2 b o hb q⟩,λb xs q=>q,λb o xs q=>q,λb ps q=>⟨#[],by rw[q];simp⟩⟩
   exact I.call' (s':={s with heap:=g2}) rfl un hok I.bare λb hb=>by
    have q:=hf b hb
    exact⟨q.2.2.2.1,q.2.1,q.2.2.2.2.1,q.2.2.2.2.2⟩
  by_cases hx1:xs.length<=i
  ·exact uE (I.ok.hd hc) d hz hTI hTO h1 (show s.heap.IsTuple a1 us1.toArray from p1) n1 (by simp;ac_nf) λg2 gk=>⟨rfl,fin g2 gk⟩
  ·obtain⟨u,hu,_⟩:=rv1.get (ak (show i<xs.length by ac_nf))
   exact uF (I.ok.hd hc) d hz hTI hTO h1 h2 (show s.heap.IsTuple a1 us1.toArray from p1) p2.isList n1 n2 (c1:=u) (by simpa using hu) (by simp;ac_nf) λg2 gk=>⟨rfl,fin g2 gk⟩
 self:=λ_ _ _ _ _ st h=>wpAny_pyIter_zip st.1 h
noncomputable def MV(K:PySem.W.Frag)(ta:TA):TI:=λσ H R=>ta σ H λvs H1=>∃a b xs ys,vs=[.ref a,.ref b]/\SqT K H1 a xs/\SqL K H1 b ys/\R (K1 K a b) H1
theorem Fm{X:Cx}{a b:Expr}{ta:TA}{p pos:Pos}{elts:List Expr}{x1:Nat}{tp:Pos}(hg:Gl X "zip")(hm:X.mg "zip" =none)(ha:PA X [a,b] ta)(hs:aB [a,b] X.env=(false,eval a X.env)::aB [b] X.env:=by rfl)(hpl:((ce pos (aB [b] X.env)).any λx=>x.fst)=false:=by rfl):
  PI X (.Tuple elts x1 tp) (.Call (.Name "zip" p) [a,b] [] pos) (MV X.K ta):=by
 intro pins s σ H R I h
 refine iC (oW (u:= .type "zip") I hg hm (by decide+kernel) ?_)
 refine fK (eR (ha pos pins s σ H _ I h) λus s1 hPl=> ?_) hs hpl
 obtain⟨vs,H1,I1,r1,q1⟩:=hPl
 obtain⟨a,b,xs,ys,rfl,sq1,sq2,q⟩:=q1
 obtain⟨u,v,rfl,r,r'⟩:=r1.two
 cases r
 cases r'
 obtain⟨us1,rv1,p1,_⟩:=I1.tuple sq1
 obtain⟨us2,rv2,p2,_⟩:=I1.list sq2
 have l1:a<s1.heap.objs.size:=by obtain⟨o,e,_⟩:=(show s1.heap.IsTuple a us1.toArray from p1);exact aF e
 have l2:b<s1.heap.objs.size:=by obtain⟨o,n,e,_⟩:=p2;exact aF e
 refine A6 (show s1.heap.IsTuple a us1.toArray from p1) p2.isList λh' hz hTI hTO hi1 hi2 hz' hk=> ?_
 refine wpAny_pyIter_zip hz ?_
 have nin:∀c,c<s1.heap.objs.size->c∉[s1.heap.objs.size+4,s1.heap.objs.size+2,s1.heap.objs.size+3,s1.heap.objs.size,s1.heap.objs.size+1]:=λc hc=>by
  simp only[aI,bF,or_false,not_or]
  refine⟨?_,?_,?_,?_,?_⟩<;>exact aS (by ac_nf)
 refine⟨s1.heap.objs.size+4,[s1.heap.objs.size+4,s1.heap.objs.size+2,s1.heap.objs.size+3,s1.heap.objs.size,s1.heap.objs.size+1],_,_,H1,rfl,I1.kept (t':=s1.toks) λb o e=>hk b o e,Ac ?_ (nin a l1) (nin b l2),⟨hz,hTI,⟨_,_,hTO⟩,hi1,hi2⟩,λb hb=> ?_,q⟩
 ·exact nd5 s1.heap.objs.size
 ·have hle:s1.heap.objs.size<=b:=by
   have hb':b=s1.heap.objs.size+4\/b=s1.heap.objs.size+2\/b=s1.heap.objs.size+3\/b=s1.heap.objs.size\/b=s1.heap.objs.size+1:=by simpa using hb
   rcases hb' with rfl|rfl|rfl|rfl|rfl<;>first|exact Nat.le_add_right _ _|exact am _
  exact I1.fpOk hle (I1.hok.fresh hle)
theorem GJ{K:PySem.W.Frag}{H1:Hp}{a b:Addr}{us:List V}{xs ys:List PV}(s1:SqT K H1 a us)(d1:Dvs K H1 xs us):w6 K H1 (K1 K a b) (jD xs ys) (λG=>lk G b=some ys):=λi H G k r c=>by
 have q1:=k.1 _ _ s1
 have e1:=d1.keep k
 obtain⟨vs,q2,e2⟩:=gf r c
 have hpl:=l5 (xs:=xs) (ys:=ys)
 refine⟨λhi=> ?_,λhi=>⟨us,vs,q1,q2,?_⟩,λv H' hi h=> ?_⟩
 ·rw[hpl]at hi
  obtain⟨u,hu,_⟩:=e1.at (ak (show i<xs.length by ac_nf))
  obtain⟨v,hv,_⟩:=e2.at (ak (show i<ys.length by ac_nf))
  exact⟨us,vs,u,v,q1,q2,hu,hv⟩
 ·rw[e1.length,e2.length];ac_nf
 ·obtain⟨p,hp,rfl,h⟩:=h
  obtain⟨u,v,hu,hv,rfl⟩:=h us vs q1 q2
  obtain⟨x,hx,dx⟩:=e1.get hu
  obtain⟨y,hy,dy⟩:=e2.get hv
  have kn:Keep K H (upd H p (.tup [u,v])):=bQ hp
  exact⟨.tup [x,y],oO hx hy,kn,r.tup hp,p,_,rfl,.of cG,.cons (dx.keep kn) (.cons (dy.keep kn) .nil)⟩
noncomputable abbrev OF(t:A2):sw:=λτ G R=>t τ G λps G1=>∃b xs ys,ps=[.tup xs,.ref b]/\lk G1 b=some ys/\R (jD xs ys) (λG=>lk G b=some ys) G1
theorem Gq{X:Cx}{a b:Expr}{ta:A2}{p pos tp:Pos}{elts:List Expr}{x1:Nat}(hm:X.mg "zip" =none)(ha:JA X [a,b] ta)(hg:Gl X "zip" :=by rfl)(hs:aB [a,b] X.env=(false,eval a X.env)::aB [b] X.env:=by rfl)(hpl:((ce pos (aB [b] X.env)).any λx=>x.fst)=false:=by rfl):
  JI X (.Tuple elts x1 tp) (.Call (.Name "zip" p) [a,b] [] pos) (OF ta):= .of (Fm hg hm ha.h hs hpl) λσ H R ⟨τ,G,R2,rs,rp,h,cl⟩=>by
 refine⟨τ,G,_,rs,rp,h,λps G1 vs H1 q d r k=> ?_⟩
 obtain⟨b,xs,ys,rfl,c2,q⟩:=q
 obtain⟨v,vr,rfl,d1,u,vr2,rfl,d2,d3⟩:=d
 obtain rfl:vr2=[]:=d3
 obtain⟨a,us,rfl,s1,e1⟩:=d1
 obtain rfl:u= .ref b:=d2
 obtain⟨ws,q2,e2⟩:=gf r c2
 exact⟨a,b,us,ws,rfl,s1,q2,cl _ _ _ _ _ q r k (GJ s1 e1)⟩
structure NS(P:aK)(w:aX)(K:PySem.W.Frag)(mg:Str->Option ae)(base:Heap)(n:Str)(C f:Addr)(fd:a8)(k:Nat)(ps:List Str)(sp:hX):Prop where
 c:Mk K C f
 ok:iL P w K mg base k f fd ps sp
 b:Binds K fd ps []
 g:mg n=some (.ref C)
theorem qr{X:Cx}{C f':Addr}{fd:a8}{k k':Nat}{ps:List Str}{x:Str}{e:Expr}{es:List Expr}{t:A2}{p pos:Pos}{sp:hX}(M:NS X.prog X.w X.K X.mg X.base x C f' fd k ps sp)(hr:Room k' X.A)(hk:k+1<=k')(ha:JA X (e::es) t)(hg:Gl X x:=by rfl)
  (hdb:(x==("__debug__" :Str))=false:=by decide) (he:aB (e::es) X.env=(false,eval e X.env)::aB es X.env:=by rfl) (hpl:(ce pos (aB es X.env)).any (·.1)=false:=by rfl):
  JE X (.Call (.Name x p) (e::es) [] pos) (HV C sp t):=DM M.c M.ok M.b hr hk M.g ha hg hdb he hpl
theorem Gu{X:Cx}{K:PySem.W.Frag}{D:Addr}{e:Expr}{es:List Expr}{t:A2}{p pos:Pos}(xk:Bc K D)(hK:X.K=K)(B:BN X.mg)(ha:JA X (e::es) t)(hg:Gl X "isinstance" :=by rfl)(he:aB (e::es) X.env=(false,eval e X.env)::aB es X.env:=by rfl)(hpl:(ce pos (aB es X.env)).any (·.1)=false:=by rfl):JE X (.Call (.Name "isinstance" p) (e::es) [] pos) (tJ (GL K) t):=by
 subst hK
 exact DK B ha hg he hpl
theorem x9{X:Cx}{C:Addr}{o value:Expr}{f:Str}{ta tv:E2}{pos tpos:Pos}(h:r9 X.K C f)(ha:JE X o ta)(hv:JE X value tv):
  JS X (.AugAssign (.Attribute o f tpos) .Add value pos) (vZ C ta tv f):=tE h.c h.n ha hv
theorem Ex{T:List Nat}{f:Nat->List (Tr×Nat)}(h:∀e x,x∈f e->T.take e++uk x.1=T.take x.2):∀(n e:Nat) x,x∈Bh f n e->T.take e++i4 (gW x.1)=T.take x.2
 |0,e,x,hx=>by cases au.mp hx;exact cr _
 |n+1,e,x,hx=>by
  rcases aZ.mp hx with hx|hx
  ·obtain⟨t,ht,hx⟩:=bB.mp hx
   obtain⟨u,hu,rfl⟩:=av.mp hx
   rw[qI,<-cx,h e t ht]
   exact Ex h n t.2 u hu
  ·cases au.mp hx;exact cr _
theorem uj(t:Tr):i4 (gW [t])=uk t:=by rw[qI];exact cr _
mutual
theorem oq(T:List Nat):∀(p:Pt) (e:Nat) x,x∈bf T p e->T.take e++uk x.1=T.take x.2
 | .none,e,x,h=>by simp[bf]at h
 | .blank,e,x,h=>by
  simp only[bf,au]at h
  rw[h]
  exact cr _
 | .sign s,e,x,h=>by
  unfold bf at h
  split at h
  ·rename_i c hc
   split at h
   ·cases au.mp h
    show T.take e++uk (.sign ⟨#[c]⟩)=T.take (e+1)
    rw[BP,bt,hc]
    rfl
   ·cases h
  ·cases h
 | .row ps,e,x,h=>by
  rw[kE]at h
  obtain⟨s,hs,rfl⟩:=av.mp h
  show T.take e++uk (.row s.1)=_
  rw[mS rfl]
  exact zp T ps e s hs
 | .pick ps,e,x,h=>by unfold bf at h;exact yT T ps 0 e x h
 | .again p,e,x,h=>by
  unfold bf at h
  obtain⟨s,hs,rfl⟩:=av.mp h
  show T.take e++uk (.again s.1)=_
  rw[mS rfl]
  exact Ex (λe x hx=>oq T p e x hx) _ _ s hs
 | .held n p,e,x,h=>by
  unfold bf at h
  obtain⟨s,hs,rfl⟩:=av.mp h
  show T.take e++uk (.held n s.1)=_
  rw[mS rfl]
  show T.take e++i4 (gW [s.1])=_
  rw[uj]
  exact oq T p e s hs
 | .price n p,e,x,h=>by
  unfold bf at h
  obtain⟨s,hs,rfl⟩:=av.mp h
  show T.take e++uk (.price n s.1)=_
  rw[mS rfl]
  show T.take e++i4 (gW [s.1])=_
  rw[uj]
  exact oq T p e s hs
theorem zp(T:List Nat):∀(ps:List Pt) (e:Nat) x,x∈fI T ps e->T.take e++i4 (gW x.1)=T.take x.2
 |[],e,x,h=>by unfold fI at h;cases au.mp h;exact cr _
 |p::ps,e,x,h=>by
  unfold fI at h
  obtain⟨t,ht,hx⟩:=bB.mp h
  obtain⟨u,hu,rfl⟩:=av.mp hx
  rw[qI,<-cx,oq T p e t ht]
  exact zp T ps t.2 u hu
theorem yT(T:List Nat):∀(ps:List Pt) (k e:Nat) x,x∈eE T ps k e->T.take e++uk x.1=T.take x.2
 |[],k,e,x,h=>by unfold eE at h;cases h
 |p::ps,k,e,x,h=>by
  unfold eE at h
  rcases aZ.mp h with h|h
  ·obtain⟨s,hs,rfl⟩:=av.mp h
   show T.take e++uk (.pick (k:Int) s.1)=_
   rw[mS rfl]
   show T.take e++i4 (gW [s.1])=_
   rw[uj]
   exact oq T p e s hs
  ·exact yT T ps (k+1) e x h
end
noncomputable def fine(B:Nat)(t:Tr):Prop:=wt t/\lD t<=B
theorem HS{B:Nat}:∀{ts:List Tr},(∀t∈ts,fine B t)->(∀c∈ts,wt c)/\fU ts<=ts.length*B
 |[],_=>⟨by simp,by simp[fU]⟩
 |t::ts,h=>by
  obtain⟨h1,h2⟩:=HS (ts:=ts) λc hc=>h c (by simp[hc])
  have h3:=h t (by simp)
  refine⟨λc hc=> ?_,?_⟩
  ·rcases aI.mp hc with rfl|hc
   ·exact h3.1
   ·exact h1 c hc
  ·simp only[fU,aM]
   rw[Nat.add_mul,Nat.one_mul]
   have:=h3.2
   ac_nf
theorem j9{B:Nat}{t:Tr}(h1:Lb t)(h2:∀c∈fP t,fine B c)(h3:(fP t).length<=5):fine (6*B+1) t:=by
 obtain⟨a,b⟩:=HS h2
 refine⟨La h1 a,?_⟩
 rw[mQ]
 have:(fP t).length*B<=5*B:=jg _ h3
 ac_nf
noncomputable def fB:Nat->Nat
 |0=>0
 |n+1=>6*fB n+1
theorem nH{m n:Nat}(h:m<=n):fB m<=fB n:=by
 induction n with
 |zero=>rw[nZ.mp h];exact am _
 |succ n ih=>
  rcases cW n m with z|z
  ·rw[show m=n+1 by ac_nf];exact am _
  ·have:=ih z
   show fB m<=6*fB n+1
   ac_nf
theorem fine.mono{A B:Nat}{t:Tr}(h:fine A t)(l:A<=B):fine B t:=⟨h.1,aP h.2 l⟩
theorem wY{L B:Nat}{f:Nat->List (Tr×Nat)}(h:∀e,e<=L->∀x,x∈f e->fine B x.1/\e<x.2/\x.2<=L):∀(n e:Nat),e<=L->∀x,x∈Bh f n e->(∀t∈x.1,fine B t)/\x.1.length+e<=L
 |0,e,he,x,hx=>by cases au.mp hx;exact⟨by simp,by simpa using he⟩
 |n+1,e,he,x,hx=>by
  rcases aZ.mp hx with hx|hx
  ·obtain⟨t,ht,hx⟩:=bB.mp hx
   obtain⟨u,hu,rfl⟩:=av.mp hx
   obtain⟨h1,h2,h3⟩:=h e he t ht
   obtain⟨h4,h5⟩:=wY h n t.2 h3 u hu
   refine⟨λc hc=> ?_,?_⟩
   ·rcases aI.mp hc with rfl|hc
    ·exact h1
    ·exact h4 c hc
   ·simp only[aM];ac_nf
  ·cases au.mp hx;exact⟨by simp,by simpa using he⟩
mutual
theorem jM{T:List Nat}(hT:T.length<=5):∀(p:Pt),fQ p->∀(e:Nat),e<=T.length->∀x,x∈bf T p e->fine (fB (depth p)) x.1
 | .none,ok,e,he,x,h=>by simp[bf]at h
 | .blank,ok,e,he,x,h=>by
  simp only[bf,au]at h
  rw[h]
  exact j9 (B:=0) trivial (by simp[fP]) (by simp[fP])
 | .sign s,ok,e,he,x,h=>by
  unfold bf at h
  split at h
  ·split at h
   ·cases au.mp h
    exact j9 (B:=0) rfl (by simp[fP]) (by simp[fP])
   ·cases h
  ·cases h
 | .row ps,ok,e,he,x,h=>by
  rw[kE]at h
  obtain⟨s,hs,rfl⟩:=av.mp h
  obtain⟨⟨_,h3⟩,_,ok'⟩:=ok
  obtain⟨a,b⟩:=sW hT ps ok' e he s hs
  show fine (fB (1+a9 ps)) (.row s.1)
  rw[gO]
  exact j9 trivial a (by show s.1.length<=5;ac_nf)
 | .pick ps,ok,e,he,x,h=>by
  unfold bf at h
  obtain⟨_,_,ok'⟩:=ok
  show fine (fB (1+a9 ps)) x.1
  rw[gO]
  exact sK hT ps ok' 0 e he x h
 | .again p,ok,e,he,x,h=>by
  unfold bf at h
  obtain⟨s,hs,rfl⟩:=av.mp h
  obtain⟨hc,_,ok'⟩:=ok
  obtain⟨a,b⟩:=wY (L:=T.length) (B:=fB (depth p)) (λe he x hx=>⟨jM hT p ok' e he x hx,j3 T p e hc x hx,gH T p e he x hx⟩) _ e he s hs
  show fine (fB (1+depth p)) (.again s.1)
  rw[gO]
  exact j9 trivial a (by show s.1.length<=5;ac_nf)
 | .held n p,ok,e,he,x,h=>by
  unfold bf at h
  obtain⟨s,hs,rfl⟩:=av.mp h
  show fine (fB (1+depth p)) (.held n s.1)
  rw[gO]
  exact j9 (aP ok.1 (by decide)) (λc hc=>by cases au.mp hc;exact jM hT p ok.2 e he s hs) (by simp[fP])
 | .price n p,ok,e,he,x,h=>by
  unfold bf at h
  obtain⟨s,hs,rfl⟩:=av.mp h
  show fine (fB (1+depth p)) (.price n s.1)
  rw[gO]
  exact j9 trivial (λc hc=>by cases au.mp hc;exact jM hT p ok e he s hs) (by simp[fP])
theorem sW{T:List Nat}(hT:T.length<=5):∀(ps:List Pt),oQ ps->∀(e:Nat),e<=T.length->∀x,x∈fI T ps e->(∀t∈x.1,fine (fB (a9 ps)) t)/\x.1.length=ps.length
 |[],ok,e,he,x,h=>by unfold fI at h;cases au.mp h;exact⟨by simp,rfl⟩
 |p::ps,ok,e,he,x,h=>by
  unfold fI at h
  obtain⟨t,ht,hx⟩:=bB.mp h
  obtain⟨u,hu,rfl⟩:=av.mp hx
  have h1:=jM hT p ok.1 e he t ht
  obtain⟨h2,h3⟩:=sW hT ps ok.2 t.2 (gH T p e he t ht) u hu
  refine⟨λc hc=> ?_,by simp[h3]⟩
  simp only[a9]
  rcases aI.mp hc with rfl|hc
  ·exact h1.mono (nH (Nat.le_max_left _ _))
  ·exact(h2 c hc).mono (nH (Nat.le_max_right _ _))
theorem sK{T:List Nat}(hT:T.length<=5):∀(ps:List Pt),oQ ps->∀(k e:Nat),e<=T.length->∀x,x∈eE T ps k e->fine (fB (a9 ps+1)) x.1
 |[],ok,k,e,he,x,h=>by unfold eE at h;cases h
 |p::ps,ok,k,e,he,x,h=>by
  unfold eE at h
  rcases aZ.mp h with h|h
  ·obtain⟨s,hs,rfl⟩:=av.mp h
   have h1:=jM hT p ok.1 e he s hs
   have h2:fine (fB (depth p+1)) (.pick (k:Int) s.1):=j9 trivial (λc hc=>by cases au.mp hc;exact h1) (by simp[fP])
   exact h2.mono (nH (by simp only[a9];ac_nf))
  ·exact(sK hT ps ok.2 (k+1) e he x h).mono (nH (by simp only[a9];ac_nf))
end
end L3
namespace T18
open PySem L2 L3
local macro_rules | `(tactic| left) => `(tactic| with_reducible conv => whnf)
local macro_rules | `(tactic| exists $e:term) => `(tactic| (left; refine $e))
local macro_rules | `(tactic| ext) => `(tactic| (left; refine fz rfl rfl (lw rfl ?_)))
local macro_rules | `(tactic| nofun) => `(tactic| (left; refine eF rfl ?_))
local macro_rules | `(tactic| symm) => `(tactic| repeat' first
 | (show JG _ (.Tuple [_, _, _, _] _ _) _; first
  | exact DG (i := 2) (j := 3) (k := 4) (l := 5) rfl (by assumption) rfl (by first | exact Or.inl rfl | exact Or.inr rfl) rfl (by first | exact Or.inl rfl | exact Or.inr rfl) rfl (by first | exact Or.inl rfl | exact Or.inr rfl) rfl (by first | exact Or.inl rfl | exact Or.inr rfl))
 | (show JT _ (.Compare (.Constant .none _ _) [.In] _ _) _; first
  | refine' md (AF (by assumption)) ?_ ?_ rfl)
 | (show JE _ (.Subscript (.Name _ _) (.Name "place" _) _) _; first
  | refine' yb (by assumption) ?_ ?_)
 | (show JI _ _ (.Name "ways" _) _; first
  | refine' uN ?_)
 | (show JI _ _ (.Name "more" _) _; first
  | refine' uN ?_)
 | (show JI _ _ (.Name "turns" _) _; first
  | refine' uN ?_)
 | (show JS _ (.Assign [.Subscript (.Name "ways" _) _ _] _ _) _; first
  | refine' oY ?_ (rA ?_ ?_ (y4 (by assumption))))
 | (show JS _ (.Assign [.Subscript (.Subscript _ _ _) _ _] _ _) _; first
  | refine' oY ?_ (rA ?_ ?_ (y4 (by assumption))))
 | (show JS _ (.Assign [.Subscript _ _ _] (.Constant _ _ _) _) _; first
  | refine' oY ?_ (rA ?_ ?_ (y4 (by assumption))))
 | (show JE _ (.Subscript (.Subscript (.Attribute _ "table" _) _ _) _ _) _; first
  | refine' yb (by assumption) ?_ ?_)
 | (show JE _ (.Call (.Attribute _ "get" _) [_, _] [] _) _; first
  | refine' Kk (by assumption) ?_ ?_ ?_)
 | (show JE _ (.Dict [some _] [_] _) _; first
  | refine' GD ?_ ?_)
 | (show JS _ (.AugAssign (.Attribute _ _ _) .Sub _ _) _; first
  | refine' js_fldsub (by assumption) (by assumption) ?_ ?_)
 | (show JS _ (.AugAssign (.Attribute _ _ _) .Add _ _) _; first
  | refine' x9 (by assumption) ?_ ?_)
 | (show JI _ _ (.Call (.Name "zip" _) [_, .Subscript _ _ _] _ _) _; first
  | refine' Gq (BN.zip (by assumption)) ?_)
 | (show JE _ (.Call (.Name "list" _) [.Call (.Name _ _) _ _ _] _ _) _; first
  | refine' zJ (by assumption) rfl ?_)
 | (show JE _ (.Call (.Name "isinstance" _) [.Name "e" _, _] _ _) _; first
  | refine' Gu (by assumption) (by rfl) (by assumption) ?_)
 | (show JE _ (.Call (.Name "Counts" _) _ _ _) _; first
  | refine' qr (by assumption) (by assumption) (by first | assumption | omega) ?_)
 | (show JE _ (.Call (.Name "Descent" _) _ _ _) _; first
  | refine' qr (by assumption) (by assumption) (by first | assumption | omega) ?_)
 | (show JE _ (.Call (.Name "ByNumber" _) _ _ _) _; first
  | refine' qr (by assumption) (by assumption) (by first | assumption | omega) ?_)
 | (show JE _ (.Call (.Name "ByMarks" _) _ _ _) _; first
  | refine' qr (by assumption) (by assumption) (by first | assumption | omega) ?_)
 | (show JE _ (.Attribute _ _ _) _; first
  | refine' Kl (by assumption) ?_)
 | (show JI _ _ (.Name "ends" _) _; first
  | refine' uN ?_)
 | (show JE _ (.Subscript (.Name "ends" _) _ _) _; first
  | refine' yb (by assumption) ?_ ?_)
 | (show JS _ (.Assign [.Subscript (.Name "ahead" _) _ _] _ _) _; first
  | refine' oY ?_ (rA ?_ ?_ (y4 (by assumption))))
 | (show JE _ (.Call (.Attribute _ "update" _) [_] [] _) _; first
  | refine' AO ?_ ?_)
 | (show JE _ (.Call (.Name "list" _) _ _ _) _; first
  | refine' DJ (by assumption) rfl ?_)
 | (show JE _ (.Call (.Name "sorted" _) _ _ _) _; first
  | refine' sk (by assumption) rfl ?_)
 | (show JB _ _ _; first
  | exact Ka
  | refine' J9 ?_
  | refine' Gz ?_ ?_)
 | (show JA _ _ _; first
  | exact Ke
  | refine' GB ?_ ?_)
 | (show JF _ _ _; first
  | exact JZ
  | refine' JY ?_)
 | (show JO _ _ _; first
  | exact Gm
  | refine' Gk ?_)
 | (show JS _ (.Assign [.Name _ _] _ _) _; first
  | refine' EG 0 ?_ (by assumption)
  | refine' EG 1 ?_ (by assumption)
  | refine' EG 2 ?_ (by assumption)
  | refine' EG 3 ?_ (by assumption)
  | refine' EG 4 ?_ (by assumption)
  | refine' EG 5 ?_ (by assumption)
  | refine' EG 6 ?_ (by assumption)
  | refine' EG 7 ?_ (by assumption)
  | refine' EG 8 ?_ (by assumption)
  | refine' EG 9 ?_ (by assumption))
 | (show JS _ (.Assign [.Attribute _ _ _] _ _) _; first
  | refine' JU (by assumption) (by assumption) ?_ ?_)
 | (show JS _ (.AugAssign (.Attribute _ _ _) _ _ _) _; first
  | refine' tE (by assumption) (by assumption) ?_ ?_)
 | (show JE _ (.Attribute _ _ _) _; first
  | refine' HN (by assumption) (by assumption) ?_)
 | (show JS _ (.Assign [.Tuple _ _ _] _ _) _; first
  | refine' oY ?_ ?_)
 | (show JS _ (.Assign [.Subscript _ _ _] _ _) _; first
  | refine' oY ?_ (rA ?_ ?_ Hw))
 | (show JS _ (.Return (some _) _) _; first
  | refine' JR ?_)
 | (show JS _ (.If _ _ _ _) _; first
  | refine' Ml ?_ ?_ ?_)
 | (show JS _ (.For _ _ _ [] _) _; first
  | refine' DE PassesOwn.never rfl ?_ ?_ ?_
  | refine' DE PassesOwn.leaving rfl ?_ ?_ ?_)
 | (show JS _ (.While _ _ [] _) _; first
  | refine' wx PassesOwn.never ?_ ?_
  | refine' wx PassesOwn.leaving ?_ ?_)
 | (show JS _ (.Expr _ _) _; first
  | refine' Gh ?_)
 | (show JS _ (.AugAssign (.Subscript _ _ _) _ _ _) _; first
  | refine' Gj M3 LO Hw ?_ ?_ ?_)
 | (show JS _ _ _; first
  | exact Gg)
 | (show JE _ (.Name _ _) _; first
  | exact jv 0
  | exact jv 1
  | exact jv 2
  | exact jv 3
  | exact jv 4
  | exact jv 5
  | exact jv 6
  | exact jv 7
  | exact jv 8
  | exact jv 9
  | exact JV (by assumption)
  | exact Gn (by assumption)
  | exact Kj (by assumption))
 | (show JE _ (.Constant _ _ _) _; first
  | exact MH
  | exact Ms
  | exact OE
  | exact Mw)
 | (show JE _ (.BinOp _ .Add _ _) _; first
  | refine' jaE (by assumption) ?_ ?_
  | refine' Kd ?_ ?_)
 | (show JE _ (.BinOp _ .Sub _ _) _; first
  | refine' J7 ?_ ?_)
 | (show JE _ (.BinOp _ .Mult _ _) _; first
  | refine' Kb ?_ ?_)
 | (show JE _ (.BinOp _ .Mod _ _) _; first
  | refine' Kc ?_ ?_)
 | (show JE _ (.BinOp _ .FloorDiv _ _) _; first
  | refine' Gy ?_ ?_)
 | (show JE _ (.BinOp _ .Pow _ _) _; first
  | refine' J8 ?_ ?_)
 | (show JT _ (.Compare _ [.Eq] _ _) _; first
  | refine' Mj (by assumption) ?_ ?_)
 | (show JE _ (.Compare _ [.Eq] _ _) _; first
  | refine' Mp (by assumption) ?_ ?_)
 | (show JT _ (.Compare _ [.NotEq] _ _) _; first
  | refine' Mf (by assumption) ?_ ?_)
 | (show JE _ (.Compare _ [.NotEq] _ _) _; first
  | refine' Mm (by assumption) ?_ ?_)
 | (show JT _ (.Compare _ [.Lt] _ _) _; first
  | refine' Mg ?_ ?_)
 | (show JE _ (.Compare _ [.Lt] _ _) _; first
  | refine' Mn ?_ ?_)
 | (show JT _ (.Compare _ [.Gt] _ _) _; first
  | refine' Mi ?_ ?_)
 | (show JE _ (.Compare _ [.GtE] _ _) _; first
  | refine' Mo ?_ ?_)
 | (show JT _ (.Compare _ [.In] _ _) _; first
  | refine' Mh ?_ ?_ rfl)
 | (show JT _ (.Compare _ [.Is] _ _) _; first
  | refine' JP ?_ ?_ rfl)
 | (show JT _ (.UnaryOp .Not _ _) _; first
  | refine' JN ?_)
 | (show JT _ (.BoolOp _ _ _) _; first
  | refine' OA ?_)
 | (show JW _ _ _; first
  | refine' Me ?_ ?_
  | refine' JL ?_ ?_
  | refine' JK ?_
  | refine' Gf ?_)
 | (show JT _ _ _; first
  | refine' JM ?_)
 | (show JE _ (.UnaryOp .Not _ _) _; first
  | refine' Mv ?_)
 | (show JE _ (.UnaryOp .USub _ _) _; first
  | refine' OB Le ?_)
 | (show JE _ (.BoolOp _ _ _) _; first
  | refine' MK ?_ ?_
  | refine' OC ?_ ?_
  | refine' Mu ?_)
 | (show JE _ (.IfExp _ _ _ _) _; first
  | refine' MI ?_ ?_ ?_)
 | (show JE _ (.List _ _) _; first
  | refine' Mz ?_)
 | (show JE _ (.Tuple _ _ _) _; first
  | refine' Mr ?_)
 | (show JE _ (.Subscript _ (.Slice _ _ _ _) _) _; first
  | refine' Mt ?_
  | refine' jsE (by assumption) ?_ ?_ ?_
  | refine' GC ?_ ?_ ?_)
 | (show JE _ (.Subscript _ _ _) _; first
  | refine' MG ?_ ?_)
 | (show JE _ (.Call (.Attribute _ _ _) _ _ _) _; first
  | refine' AR ?_ ?_
  | refine' AQ ?_ ?_
  | refine' Go ?_ ?_
  | refine' JX ?_
  | refine' Kg (by assumption) (by assumption) (by first | assumption | omega) ?_ ?_
  | refine' Kh (by assumption) (by assumption) (by first | assumption | omega) ?_)
 | (show JE _ (.Dict [] [] _) _; first
  | exact Km)
 | (show JE _ (.Call (.Name "isinstance" _) [.Name "caught" _, _] _ _) _; first
  | refine' DK (by assumption) ?_)
 | (show JE _ (.Call (.Name _ _) _ _ _) _; first
  | refine' MJ (by assumption) (by assumption) (by first | assumption | omega) ?_
  | refine' DM (by assumption) (by assumption) (by assumption) (by assumption) (by first | assumption | omega) (by assumption) ?_
  | refine' J6 (by assumption) ?_
  | refine' Gx (by assumption) ?_
  | refine' J5 (by assumption) rfl ?_
  | refine' J0 (by assumption) rfl ?_
  | refine' zJ (by assumption) rfl ?_
  | refine' DI (by assumption) ?_)
 | (show JI _ _ (.Call (.Name _ _) _ _ _) _; first
  | refine' AU (BN.range (by assumption)) ?_
  | refine' AS (BN.range (by assumption)) ?_
  | refine' zH ?_
  | refine' zI ?_)
 | (show JI _ _ _ _; first
  | refine' zH ?_
  | refine' zI ?_)
 | (show JG _ (.Name _ _) _; first
  | exact EH 0 (by assumption)
  | exact EH 1 (by assumption)
  | exact EH 2 (by assumption)
  | exact EH 3 (by assumption)
  | exact EH 4 (by assumption)
  | exact EH 5 (by assumption)
  | exact EH 6 (by assumption)
  | exact EH 7 (by assumption)
  | exact EH 8 (by assumption)
  | exact EH 9 (by assumption))
 | (show JG _ (.Tuple _ _ _) _; first
  | exact uO 0 (by assumption)
  | exact uO 1 (by assumption)
  | exact uO 2 (by assumption)
  | exact uO 3 (by assumption)
  | exact uO 4 (by assumption)
  | exact uO 5 (by assumption)
  | exact uO 6 (by assumption)
  | exact uO 7 (by assumption)
  | exact uO 8 (by assumption)))
noncomputable def gn(names:List (Str×eA)):eL:={kind:= .function,names:=names,isGenerator:=false,isCoroutine:=false,more:=[]}
noncomputable abbrev xo:Stmt:=top 4
noncomputable abbrev xn:Stmt:=top 5
section
variable{P:aK}{w:aX}{K:PySem.W.Frag}{mg:Str->Option ae}{base:Heap}{f fi:Addr}{fd di:a8}
theorem zh:bv ["pattern", "kind"] ["pattern"] (aN xo):=⟨rfl,rfl,rfl,by decide+kernel,rfl,by decide+kernel,by decide+kernel⟩
noncomputable def qk:hX:=λps G Q=>∃p,ps=[il p]/\Q (.tup (cN (cE p))) G
theorem Dh(F:Fun K "inner_patterns" "inner_patterns" xo f fd)(B:BN mg):iL P w K mg base 1 f fd ["pattern"] qk:=by
 have nd:=zh.nd
 refine jX F zh (λvs G Q h=> ?_) (λcdv A outer s H E as G Q hr h=> ?_)
 ·obtain⟨p,rfl,_⟩:=h
  rfl
 have hU:=eD hr
 apply jw
 case a=>symm
 obtain⟨p,rfl,q⟩:=h
 cases p with
 |none=>exact⟨cA,rfl,rfl,rfl,rfl,cA,rfl,rfl,cA,G,GE.refl,q⟩
 |blank=>exact⟨cA,rfl,rfl,rfl,rfl,cA,rfl,rfl,cA,G,GE.refl,q⟩
 |sign s=>exact⟨cA,rfl,rfl,rfl,rfl,cA,rfl,rfl,cA,G,GE.refl,q⟩
 |row ps=>exact⟨cA,rfl,rfl,G,GE.refl,q⟩
 |pick ps=>exact⟨cA,rfl,rfl,G,GE.refl,q⟩
 |again p=>exact⟨cA,rfl,rfl,rfl,rfl,cA,G,GE.refl,q⟩
 |held n p=>exact⟨cA,rfl,rfl,rfl,rfl,cA,rfl,rfl,cA,G,GE.refl,q⟩
 |price n p=>exact⟨cA,rfl,rfl,rfl,rfl,cA,rfl,rfl,cA,G,GE.refl,q⟩
theorem zg:bv ["pattern", "makes", "waiting", "make"] ["pattern"] (aN xn):=⟨rfl,rfl,rfl,by decide+kernel,rfl,by decide+kernel,by decide+kernel⟩
noncomputable def qj:hX:=λps G Q=>∃p,ps=[il p]/\size p<=10000/\∀c,G c=none->Q (.ref c) (up G c (.lst (cN (makes p))))
theorem Dg(F:Fun K "makes_of" "makes_of" xn f fd)(B:BN mg)(C:cq P w K mg base 1 "inner_patterns" fi di ["pattern"] qk):iL P w K mg base 2 f fd ["pattern"] qj:=by
 have nd:=zg.nd
 refine jX F zg (λvs G Q h=> ?_) (λcdv A outer s H E as G Q hr h=> ?_)
 ·obtain⟨p,rfl,_⟩:=h
  rfl
 have hU:=eD hr
 apply jw
 case a=>symm
 obtain⟨p,rfl,hz,q⟩:=h
 refine⟨cA,λm hm=>⟨cA,λv hv=> ?_⟩⟩
 obtain⟨hvm,hv⟩:=dD hv
 refine⟨λk τ G'=>∃(dn st:List Pt) (z:Option PV),τ=[some (il p),some (.ref m),some (.ref v),z]/\G' m=some (.lst (cN dn))/\G' v=some (.lst (cN st.reverse))/\GE G G'/\dn++dJ st=makes p/\k=cb st,
  ⟨_,[],[p],.none,rfl,by rw[aE (aG hvm),af];rfl,by rw[af];rfl,(GE.refl.new hm).mod hv,by simp[dJ],rfl⟩,?_⟩
 rintro k τ G' ⟨dn,st,z,rfl,gm,gv,ge,he,rfl⟩
 have hl:dn.length+cb st=size p:=by
  have:=congrArg ib he
  rwa [aL,fM,bW]at this
 refine pD (aO gv) ?_
 cases st with
 |nil=>
  have hd:dn=makes p:=by simpa [dJ]using he
  subst hd
  exact⟨_,ge.at gm,q m hm⟩
 |cons x st=>
  have ln:(cN (x::st).reverse).length=st.length+1:=by rw[cy,bK];rfl
  have hs:cb (x::st)=size x+cb st:=rfl
  have hx:=i8 x
  have hi:=cK (cE x)
  have hst:=cK st
  rw[show cN (x::st).reverse=cN st.reverse++[il x]by rw[eY,iI];rfl]at gv ln⊢
  refine ia ?_ ?_
  ·refine decide_eq_true ?_
   rw[ln];ac_nf
  refine⟨⟨_,gv⟩,Cy gv ?_⟩
  refine⟨⟨cN dn,by rw[aE (aG hvm)];exact gm⟩,fJ (by rw[aE (aG hvm)];exact gm) (by rw[cy];ac_nf) ?_⟩
  refine⟨⟨_,by rw[aE hvm,af]⟩,x,rfl,DZ (by rw[aE hvm,af]) ?_ ?_⟩
  ·rw[bK,cy,cy,bK];ac_nf
  refine⟨cb (cE x++st),?_,dn++[x],cE x++st,_,rfl,?_,?_,((ge.mod hv).mod hm).mod hv,?_,rfl⟩
  ·rw[nc];ac_nf
  ·rw[aE (aG hvm),af,iI];rfl
  ·rw[af,oh,iI,uW (cE x)]
  ·rw[lG]
   rw[<-he]
   simp[dJ,ju x]
end
theorem u0{lo:Int}{n i:Nat}{x:PV}(h:(jU lo n)[i]? =some x):i<n/\x= .int (lo-i):=by
 unfold jU at h
 rw[aC]at h
 cases e:(bE n)[i]? with
 |none=>rw[e]at h;cases h
 |some j=>
  rw[e]at h
  have hi:i<n:=by
   have:=(aq.mp e).1
   simpa using this
  rw[dA hi]at e
  cases e
  cases h
  exact⟨hi,rfl⟩
theorem rM(lo:Int)(n:Nat):(jU lo n).length=n:=by unfold jU;simp
theorem zM{n j:Nat}(h:j<n):AV n (j:Int)=some j:=by
 unfold AV
 rw[if_pos (by ac_nf),if_pos (by ac_nf)]
 simp
theorem rX{α:Type}(xs:List α)(x:α):qv (xs++[x]) (-1)=some x:=by
 unfold qv AV
 rw[if_neg (by ac_nf),if_pos (by simp;ac_nf)]
 show(xs++[x])[(-1+((xs++[x]).length:Int)).toNat]? =some x
 rw[aL,show(-1+((xs.length+[x].length:Nat):Int)).toNat=xs.length by simp;ac_nf]
 simp
theorem uX{ps:List Pt}{i:Nat}{x:PV}(h:(cN ps)[i]? =some x):∃c,ps[i]? =some c/\x=il c:=by
 rw[gx,aC]at h
 cases e:ps[i]? with
 |none=>rw[e]at h;cases h
 |some c=>rw[e]at h;cases h;exact⟨c,rfl,rfl⟩
theorem iV{ps:List Pt}{i:Nat}{c:Pt}(h:ps[i]? =some c):(cN ps)[i]? =some (il c):=by
 rw[gx,aC,h];rfl
noncomputable abbrev mG:Stmt:=top 6
section
variable{P:aK}{w:aX}{K:PySem.W.Frag}{mg:Str->Option ae}{base:Heap}{f fi fm:Addr}{fd di dm:a8}
theorem sS:bv ["pattern", "makes", "sizes", "parts", "number", "numbers", "part"] ["pattern"] (aN mG):=⟨rfl,rfl,rfl,by decide+kernel,rfl,by decide+kernel,by decide+kernel⟩
theorem tL:dE (aN mG) ["pattern", "makes", "sizes", "parts", "number", "numbers", "part"] (gn [(".0",.local),("make",.local)]) ["make"] [none] 0 "make" =true:=by decide+kernel
noncomputable def oB:hX:=λps G Q=>∃p,ps=[il p]/\size p<=10000/\∀c,G c=none->Q (.ref c) (up G c (.lst (gK p)))
theorem xP(F:Fun K "parts_of" "parts_of" mG f fd)(B:BN mg)(CI:cq P w K mg base 1 "inner_patterns" fi di ["pattern"] qk)(CM:cq P w K mg base 2 "makes_of" fm dm ["pattern"] qj):iL P w K mg base 3 f fd ["pattern"] oB:=by
 have nd:=sS.nd
 refine jX F sS (λvs G Q h=> ?_) (λcdv A outer s H E as G Q hr h=> ?_)
 ·obtain⟨p,rfl,_⟩:=h
  rfl
 have hU:=eD hr
 apply jw
 case a=>
  symm
  all_goals try (refine' nE (n:=2) (ix:=[none]) (j:=0) nd rfl rfl tL rfl ?_ (λC s H fp=>⟨?_,?_⟩))
  all_goals try (refine' nE (n:=3) (ix:=[none]) (j:=0) nd rfl rfl tL rfl ?_ (λC s H fp=>⟨?_,?_⟩))
  all_goals symm
 obtain⟨p,rfl,hz,q⟩:=h
 have lM:(cN (makes p)).length=size p:=by rw[cy,bW]
 exists⟨p,rfl,hz,λmk hmk=> ?_⟩
 left
 rw[lH]
 left
 intro sz hsz
 have nsm:sz≠mk:=(dD hsz).1
 refine nV (λ_=>true) (λ_=> .int 1) (by rw[lM];ac_nf) (λys=>aO (by rw[aE (aG nsm),af])) (λx ys R _ hR=>hR) (λx ys R _ _ hR=>hR) ?_
 rw[oi.mpr (λ_ _=>rfl),List.map_const',lM]
 left
 rw[aO (show up (up G mk _) sz _ mk=some (.lst (cN (makes p)))by rw[aE (aG nsm),af])]
 left
 intro pa hpa
 obtain⟨nps,hpa2⟩:=dD hpa
 obtain⟨npm,hpa3⟩:=dD hpa2
 have hsz':=(dD hsz).2
 refine nV (λ_=>true) (λ_=> .tup []) (by rw[lM];ac_nf) (λys=>aO (by rw[aE (aG npm),aE (aG nsm),af])) (λx ys R _ hR=>hR) (λx ys R _ _ hR=>⟨cA,hR⟩) ?_
 rw[oi.mpr (λ_ _=>rfl),List.map_const',lM]
 exists pD (xs:=cN (makes p)) (aO (by rw[aE (aG npm),aE (aG nsm),af])) ?_
 rw[lM]
 exists⟨rfl,⟨by ac_nf,by ac_nf,by decide,by decide⟩,?_⟩
 rw[show((size p:Int)-1- -1).toNat=size p by ac_nf]
 refine⟨λi τ G2=>∃(S T:List PV) (t4 t5 t6:Option PV),τ=[some (il p),some (.ref mk),some (.ref sz),some (.ref pa),t4,t5,t6]/\G2 mk=some (.lst (cN (makes p)))/\G2 sz=some (.lst S)/\G2 pa=some (.lst T)/\GE G G2/\
  S.length=size p/\T.length=size p/\(∀j,j<size p-i->S[j]? =some (.int 1))/\(∀j c,size p-i<=j->(makes p)[j]? =some c->S[j]? =some (.int (size c))/\T[j]? =some (.tup ((cO (j+1) (cE c)).map fR))),?_,?_,?_,?_⟩
 ·refine⟨_,_,_,_,_,rfl,by rw[aE (aG npm),aE (aG nsm),af],by rw[aE (aG nps),af],af,((GE.refl.new hmk).mod hsz').mod hpa3,by simp,by simp,λj hj=> ?_,λj c hj hc=> ?_⟩
  ·rw[kA,if_pos (by ac_nf)]
  ·have:=(aq.mp hc).1
   rw[bW]at this
   ac_nf
 ·intros;trivial
 ·rintro i x τ G2 hx ⟨S,T,t4,t5,t6,rfl,gm,gs,gp,ge,lS,lT,h1,h2⟩
  obtain⟨hi,rfl⟩:=u0 hx
  obtain⟨j0,hj0⟩:∃j0,j0=size p-1-i:=⟨_,rfl⟩
  have hjn:((size p:Int)-1-i)=(j0:Int):=by ac_nf
  rw[hjn]
  have hjl:j0<(makes p).length:=by rw[bW];ac_nf
  obtain⟨c0,hc0⟩:∃c0,(makes p)[j0]? =some c0:=⟨_,ak hjl⟩
  exists⟨cA,λnb hnb=> ?_⟩
  have nbm:mk≠nb:=aY gm hnb
  have nbs:sz≠nb:=aY gs hnb
  have nbp:pa≠nb:=aY gp hnb
  exists cj (aO (by rw[aE nbm];exact gm)) (bI (iV hc0)) ?_
  exists⟨c0,rfl,?_⟩
  exists⟨λk τ G3=>∃(S2:List PV) (t6:Option PV),τ=[some (il p),some (.ref mk),some (.ref sz),some (.ref pa),some (.int j0),some (.ref nb),t6]/\G3 mk=some (.lst (cN (makes p)))/\G3 sz=some (.lst S2)/\G3 pa=some (.lst T)/\G3 nb=some (.lst ((cO (j0+1) ((cE c0).take k)).map fR))/\GE G G3/\
   S2.length=size p/\S2[j0]? =some (.int (1+cb ((cE c0).take k)))/\∀j,j≠j0->S2[j]? =S[j]?,?_,?_,?_,?_⟩
  ·refine⟨S,t6,rfl,by rw[aE nbm];exact gm,by rw[aE nbs];exact gs,by rw[aE nbp];exact gp,af,ge.new hnb,lS,?_,λ_ _=>rfl⟩
   rw[h1 j0 (by ac_nf)];simp[cb]
  ·intros;trivial
  ·rintro k x τ G3 hx3 ⟨S2,t6',rfl,gm3,gs3,gp3,gn3,ge3,lS2,e1,e2⟩
   obtain⟨c,hc,rfl⟩:=uX hx3
   have hkl:k<(cE c0).length:=(aq.mp hc).1
   have tk:(cE c0).take (k+1)=(cE c0).take k++[c]:=by rw[bt,hc];rfl
   have spl:cE c0=(cE c0).take k++c::(cE c0).drop (k+1):=by
    have e3:=(cP k (cE c0)).symm
    rw[dF hkl]at e3
    have e4:(cE c0)[k]=c:=by
     have:=hc;rw[ak hkl]at this;exact bc this
    rw[e4]at e3
    exact e3
   have hpart:=vR hc0 spl
   have hle:=vQ hpart
   have hcp:=fH c
   exists⟨⟨_,gn3⟩,?_⟩
   exists cj (aO gs3) (bI e1) ?_
   exists vo ?_
   exists fJ gn3 (by rw[ai,eO,bo];have:=cK (cE c0);have:=vQ hc0;have:=i8 c0;ac_nf) ?_
   have nn:(nb:Addr)≠sz:=aG nbs
   exists ML (i:=(j0:Int)) (aO (by rw[aE nbs];exact gs3)) (bI e1) ?_
   exists cj (aO af) (rX _ _) ?_
   left
   have e5:S2[j0+1+cb ((cE c0).take k)]? =some (.int (size c)):=by
    rw[e2 _ (by ac_nf)]
    exact(h2 _ c (by ac_nf) hpart).1
   refine cj (aO (by rw[aE nbs];exact gs3)) (by
    have e6:=bI e5
    rw[show(((j0+1+cb ((cE c0).take k):Nat):Int))=(j0:Int)+(1+(cb ((cE c0).take k):Int))by ac_nf]at e6
    exact e6) ?_
   exists gJ (k:=(j0:Int)) (by rw[aE nbs];exact gs3) (zM (by ac_nf)) ?_
   refine⟨_,_,rfl,by rw[aE (aG nsm),aE nbm];exact gm3,af,by rw[aE (by exact nps),aE nbp];exact gp3,?_,(ge3.mod (by
    cases e:G nb with
    |none=>rfl
    |some o=>rw[ge _ _ e]at hnb;cases hnb)).mod hsz',by rw[List.length_set];exact lS2,?_,λj hj=> ?_⟩
   ·rw[aE (aG nbs),af,tk,lK,aR]
    simp[cO,fR]
    ac_nf
   ·rw[dZ (by ac_nf),tk,nc]
    simp[cb];ac_nf
   ·rw[cY (aG hj)];exact e2 j hj
  ·rintro τ G3 ⟨S2,t6',rfl,gm3,gs3,gp3,gn3,ge3,lS2,e1,e2⟩
   rw[cy,bj]at gn3 e1
   exists oj (aO gn3) ?_
   exists gJ (k:=(j0:Int)) gp3 (zM (by ac_nf)) ?_
   refine⟨S2,_,_,_,_,rfl,by rw[aE (aG npm)];exact gm3,by rw[aE (aG nps)];exact gs3,af,ge3.mod hpa3,lS2,by rw[List.length_set];exact lT,λj hj=> ?_,λj c hj hc=> ?_⟩
   ·rw[e2 j (by ac_nf)];exact h1 j (by ac_nf)
   ·by_cases hjj:j=j0
    ·subst hjj
     rw[hc0]at hc;cases hc
     refine⟨?_,?_⟩
     ·rw[e1,i8 c0];simp
     ·rw[dZ (by ac_nf)]
    ·rw[e2 j hjj,cY (aG hjj)]
     exact h2 j c (by ac_nf) hc
 ·rintro τ G2 ⟨S,T,t4,t5,t6,rfl,gm,gs,gp,ge,lS,lT,h1,h2⟩
  rw[rM]at h1 h2
  have eT:T=gK p:=by
   apply List.ext_getElem?
   intro j
   by_cases hj:j<size p
   ·obtain⟨c,hc⟩:∃c,(makes p)[j]? =some c:=⟨_,ak (by rw[bW];exact hj)⟩
    rw[(h2 j c (by ac_nf) hc).2,fW hc]
   ·rw[cQ (by ac_nf),cQ (by rw[sh];ac_nf)]
  subst eT
  exact⟨_,ge.at gp,q pa hpa3⟩
end
noncomputable abbrev Ig:Stmt:=top 8
section
variable{P:aK}{w:aX}{K:PySem.W.Frag}{mg:Str->Option ae}{base:Heap}{f:Addr}{fd:a8}
theorem HC:bv ["ways", "more", "times", "place"] ["ways", "more", "times"] (aN Ig):=⟨rfl,rfl,rfl,by decide+kernel,rfl,by decide+kernel,by decide+kernel⟩
noncomputable def vO:hX:=λps G Q=>∃(a b:Addr) (t n:Nat) (ws ms:Ws) (h g:Nat->Nat),ps=[.ref a,.ref b,.int (t:Int)]/\G a=some (.dK (fk ws))/\G b=some (.rd (fk ms))/\Wy ws n h/\Wy ms n g/\0<t/\n<=1000/\(∀w∈ms,w.2<2^64)/\Q .non (up G a (.dK (fk (mv t ws ms))))
theorem Jq(F:Fun K "add_ways" "add_ways" Ig f fd)(B:BN mg):iL P w K mg base 1 f fd ["ways", "more", "times"] vO:=by
 have nd:=HC.nd
 refine jX F HC (λvs G Q h=> ?_) (λcdv A outer s H E as G Q hr h=> ?_)
 ·obtain⟨_,_,_,_,_,_,_,_,rfl,_⟩:=h
  rfl
 have hU:=eD hr
 apply jw
 case a=>symm
 obtain⟨a,b,t,n,ws,ms,h,g,rfl,ga,gb,hw,hm,ht,hn,hb,q⟩:=h
 have key:(fk ms).map (λkv=>kP kv.1)=ms.map λw=>PV.int (w.1:Int):=by unfold fk;rw[bp];rfl
 have nab:b≠a:=λz=>by rw[z,ga]at gb;cases gb
 exists yl rfl gb ?_
 rw[key]
 refine⟨λi τ G'=>∃z:Option PV,τ=[some (.ref a),some (.ref b),some (.int (t:Int)),z]/\G'=up G a (.dK (fk (mv t ws (ms.take i)))),⟨none,rfl,?_⟩,?_,?_,?_⟩
 ·rw[List.take_zero];exact(EM ga).symm
 ·rintro i τ G' _ ⟨z,_,rfl⟩
  rw[aE nab];exact gb
 ·rintro i x τ G' hx ⟨z,rfl,rfl⟩
  rw[aC]at hx
  cases em:ms[i]? with
  |none=>rw[em]at hx;cases hx
  |some m=>
   rw[em]at hx
   cases hx
   have hi:=hw.put_part (i:=i) ht hm
   exists⟨uR (kl af),?_⟩
   exists yg (kl af) rfl ?_
   rw[BD hi.pos]
   left
   have e1:=oV hm.nd em
   have hp:=hm.pos m (ax em)
   refine nG (rQ (by rw[aE nab];exact gb)) rfl (show ig (fk ms) (.inl (m.1:Int))=some (.int (m.2:Int))by rw[mN ms m.1 hm.pos,e1,if_neg (by ac_nf)]) ?_
   exists Dr (.inl ⟨by ac_nf,by have:=hb m (ax em);ac_nf⟩) ?_
   exists vo ?_
   exists qU af rfl (by have:=hi.len;unfold fk;rw[ai];ac_nf) ?_
   refine⟨_,rfl,?_⟩
   rw[fZ,Bb em,<-qY _ _ _ hi.nd]
   congr 4
 ·rintro τ G' ⟨z,rfl,rfl⟩
  rw[ai,bj]
  exact⟨_,GE.refl,q⟩
end
noncomputable abbrev yG:Stmt:=eX (top 9) 0
noncomputable abbrev Bu:Stmt:=eX (top 9) 3
noncomputable abbrev Ib:Stmt:=eX (top 9) 4
noncomputable abbrev Br:Stmt:=eX (top 9) 5
noncomputable abbrev xu:Stmt:=eX (top 9) 6
section
variable{P:aK}{w:aX}{K:PySem.W.Frag}{mg:Str->Option ae}{base:Heap}{f fa C:Addr}{fd da:a8}
theorem Hx:bv ["self", "number", "at", "ways", "part", "further", "place"] ["self", "number", "at"] (aN Ib):=⟨rfl,rfl,rfl,by decide+kernel,rfl,by decide+kernel,by decide+kernel⟩
noncomputable def Be(C:Addr)(V:List Nat->Pt->Nat->Nat->Nat)(ok:Pt->Bool):hX:=λps G Q=>∃(a dx m pa tb:Addr) (ts:List Addr) (T:List Nat) (p q:Pt) (n e:Nat),ps=[.ref a,.int (n:Int),.int (e:Int)]/\Cs T p/\Tb C G a T p (Dn n e) dx m pa tb ts/\(makes p)[n]? =some q/\ok q=true/\e<=T.length/\
 ∀d ws,G d=none->Wy ws (T.length+1) (V T q e)->Q (.ref d) (up G d (.rd (fk ws)))
noncomputable def Ih:List Nat->Pt->Nat->Nat->Nat:=λT q e=>lu T (cE q) (dl e)
theorem Jn(c:Cls K C)(n1:NoAttr K C "signs")(n2:NoAttr K C "makes")(n3:NoAttr K C "parts")(n4:NoAttr K C "table")(F:Fun K "count_row" "Counts.count_row" Ib f fd)(B:BN mg)(CA:cq P w K mg base 1 "add_ways" fa da ["ways", "more", "times"] vO):iL P w K mg base 2 f fd ["self", "number", "at"] (Be C Ih λ_=>true):=by
 have nd:=Hx.nd
 refine GS F Hx (λvs G Q h=> ?_) (λcdv A outer s H E as G Q hr h=> ?_)
 ·obtain⟨_,_,_,_,_,_,_,_,_,_,_,rfl,_⟩:=h
  rfl
 have hU:=eD hr
 apply jw
 case a=>symm
 obtain⟨a,dx,m,pa,tb,ts,T,p,qq,n,e,rfl,cs,tbl,hq,-,he,q⟩:=h
 left
 intro w0 hw0
 exists vc rfl af ?_
 rw[fZ]
 exists cI (by rw[aE (aY tbl.ins hw0)];exact tbl.ins) rfl ?_
 exists cj (aO (by rw[aE (aY tbl.pts hw0)];exact tbl.pts)) (bI (fW hq)) ?_
 left
 have lnP:((cO (n+1) (cE qq)).map fR).length=(cE qq).length:=by rw[ai,eO]
 refine⟨λi τ G'=>∃(w1:Addr) (ws:Ws) (t4 t5 t6:Option PV),τ=[some (.ref a),some (.int (n:Int)),some (.int (e:Int)),some (.ref w1),t4,t5,t6]/\G w1=none/\G' w1=some (.dK (fk ws))/\GE G G'/\Wy ws (T.length+1) (lu T ((cE qq).take i) (dl e)),?_,?_,?_,?_⟩
 ·exact⟨w0,[(e,1)],none,none,none,rfl,hw0,af,GE.refl.new hw0,Wy.one (by ac_nf)⟩
 ·intros;trivial
 ·rintro i x τ G' hx ⟨w1,ws,t4,t5,t6,rfl,hw1,gw,ge,wy⟩
  have hxl:=(aq.mp hx).1
  rw[lnP]at hxl
  obtain⟨cc,hcc⟩:∃cc,(cE qq)[i]? =some cc:=⟨_,ak hxl⟩
  obtain⟨j,rfl,hj,hnj⟩:=gY hq hcc hx
  left
  intro fu hfu
  have nfw:fu≠w1:=λz=>by rw[z,gw]at hfu;cases hfu
  have hfu0:G fu=none:=by
   cases ez:G fu with
   |none=>rfl
   |some o=>rw[ge _ _ ez]at hfu;cases hfu
  exists KC rfl (by rw[aE (aG nfw)];exact gw) ?_
  rw[jS]
  refine⟨λi τ G2=>∃(fs:Ws) (t6:Option PV),τ=[some (.ref a),some (.int (n:Int)),some (.int (e:Int)),some (.ref w1),some (.int (j:Int)),some (.ref fu),t6]/\G2 w1=some (.rd (fk ws))/\G2 fu=some (.dK (fk fs))/\GE G G2/\Wy fs (T.length+1) (xM T cc (ws.take i)),?_,?_,?_,?_⟩
  ·exact⟨[],t6,rfl,af,by rw[aE nfw,af];rfl,((ge.mod hfu0).mod hw1),Wy.nil⟩
  ·rintro i τ G2 _ ⟨fs,t6,_,g1,_⟩
   exact g1
  ·rintro i2 x τ G2 hx ⟨fs,t6,rfl,g1,g2,mB,wf⟩
   obtain⟨v,hv,rfl⟩:=zG hx
   obtain⟨k1,k2,k3⟩:=wy.key hv
   have hle:e<=v.1:=uA _ (λk hk=>HW hk) v.1 (by rw[k1];ac_nf)
   have tb2:=tbl.ge mB
   obtain⟨t,d,kvs,ms,r1,r2,r3,r4,r5⟩:=tb2.read hj (k:=v.1) (by
    rcases cW e v.1 with z|z
    ·exact .inl z
    ·exact .inr ⟨by ac_nf,hnj⟩) (by ac_nf)
   exists cI tb2.ins rfl ?_
   exists cj (aO tb2.tbl) (bI r1) ?_
   exists nG (kl r2) rfl r3 ?_
   exists nG (rQ g1) rfl (wy.read hv) ?_
   exists⟨fu,d,v.2,T.length+1,fs,ms,_,_,rfl,g2,r4,wf,r5,k2,by have:=cs.len;ac_nf,r5.big cs (ax hj) (by ac_nf),?_⟩
   refine⟨mv v.2 fs ms,_,rfl,by rw[aE (aG nfw)];exact g1,af,mB.mod hfu0,?_⟩
   refine(wf.add k2 r5.nd r5.lt r5.pos).congr λx=> ?_
   rw[tq hv,r5.val]
  ·rintro τ G2 ⟨fs,t6,rfl,g1,g2,mB,wf⟩
   rw[ai,bj]at wf
   exists⟨fu,fs,_,_,_,rfl,hfu0,g2,mB,wf.congr λx=> ?_⟩
   rw[wb wy,mD,hcc]
   exact congrFun (oJ T cc _ _).symm x
 ·rintro τ G' ⟨w1,ws,t4,t5,t6,rfl,hw1,gw,ge,wy⟩
  rw[lnP]at wy
  rw[bj]at wy
  left
  exact⟨_,GW.rd ge gw,q w1 ws hw1 wy⟩
end
section
variable{P:aK}{w:aX}{K:PySem.W.Frag}{mg:Str->Option ae}{base:Heap}{f fa C:Addr}{fd da:a8}
theorem Cb:bv ["self", "number", "at", "ways", "part"] ["self", "number", "at"] (aN Br):=⟨rfl,rfl,rfl,by decide+kernel,rfl,by decide+kernel,by decide+kernel⟩
noncomputable def BE:List Nat->Pt->Nat->Nat->Nat:=λT q e j=>((cE q).map λp=>nT T p e j).sum
theorem none_of{G G':Gp}{a:Addr}(ge:GE G G')(h:G' a=none):G a=none:=by
 cases ez:G a with
 |none=>rfl
 |some o=>rw[ge _ _ ez]at h;cases h
theorem FI(c:Cls K C)(n1:NoAttr K C "signs")(n2:NoAttr K C "makes")(n3:NoAttr K C "parts")(n4:NoAttr K C "table")(F:Fun K "count_pick" "Counts.count_pick" Br f fd)(B:BN mg)(CA:cq P w K mg base 1 "add_ways" fa da ["ways", "more", "times"] vO):iL P w K mg base 2 f fd ["self", "number", "at"] (Be C BE λ_=>true):=by
 have nd:=Cb.nd
 refine GS F Cb (λvs G Q h=> ?_) (λcdv A outer s H E as G Q hr h=> ?_)
 ·obtain⟨_,_,_,_,_,_,_,_,_,_,_,rfl,_⟩:=h
  rfl
 have hU:=eD hr
 apply jw
 case a=>symm
 obtain⟨a,dx,m,pa,tb,ts,T,p,qq,n,e,rfl,cs,tbl,hq,-,he,q⟩:=h
 left
 intro w0 hw0
 exists cI (by rw[aE (aY tbl.ins hw0)];exact tbl.ins) rfl ?_
 exists cj (aO (by rw[aE (aY tbl.pts hw0)];exact tbl.pts)) (bI (fW hq)) ?_
 left
 have lnP:((cO (n+1) (cE qq)).map fR).length=(cE qq).length:=by rw[ai,eO]
 refine⟨λi τ G'=>∃(ws:Ws) (t4:Option PV),τ=[some (.ref a),some (.int (n:Int)),some (.int (e:Int)),some (.ref w0),t4]/\G' w0=some (.dK (fk ws))/\GE G G'/\Wy ws (T.length+1) (λj=>(((cE qq).take i).map λp=>nT T p e j).sum),?_,?_,?_,?_⟩
 ·exact⟨[],none,rfl,af,GE.refl.new hw0,Wy.nil⟩
 ·intros;trivial
 ·rintro i x τ G' hx ⟨ws,t4,rfl,gw,ge,wy⟩
  have hxl:=(aq.mp hx).1
  rw[lnP]at hxl
  obtain⟨cc,hcc⟩:∃cc,(cE qq)[i]? =some cc:=⟨_,ak hxl⟩
  obtain⟨j,rfl,hj,hnj⟩:=gY hq hcc hx
  have tb2:=tbl.ge ge
  obtain⟨t,d,kvs,ms,r1,r2,r3,r4,r5⟩:=tb2.read hj (k:=e) (.inr ⟨rfl,hnj⟩) he
  exists cI tb2.ins rfl ?_
  exists cj (aO tb2.tbl) (bI r1) ?_
  exists nG (kl r2) rfl r3 ?_
  exists⟨w0,d,1,T.length+1,ws,ms,_,_,rfl,gw,r4,wy,r5,by ac_nf,by have:=cs.len;ac_nf,r5.big cs (ax hj) he,?_⟩
  refine⟨mv 1 ws ms,_,rfl,af,ge.mod hw0,?_⟩
  refine(wy.add (by ac_nf) r5.nd r5.lt r5.pos).congr λx=> ?_
  rw[r5.val,mD,hcc]
  simp
 ·rintro τ G' ⟨ws,t4,rfl,gw,ge,wy⟩
  rw[lnP]at wy
  rw[bj]at wy
  left
  exact⟨_,GW.rd ge gw,q w0 ws hw0 wy⟩
theorem zn:bv ["self", "number", "at", "ways", "turns", "place"] ["self", "number", "at"] (aN xu):=⟨rfl,rfl,rfl,by decide+kernel,rfl,by decide+kernel,by decide+kernel⟩
noncomputable def Ab:List Nat->Pt->Nat->Nat->Nat:=λT q e=>nT T q e
noncomputable def Kt:Pt->Bool
 | .again _=>true
 |_=>false
theorem Do(c:Cls K C)(n1:NoAttr K C "signs")(n2:NoAttr K C "makes")(n3:NoAttr K C "parts")(n4:NoAttr K C "table")(F:Fun K "count_again" "Counts.count_again" xu f fd)(B:BN mg)(CA:cq P w K mg base 1 "add_ways" fa da ["ways", "more", "times"] vO):iL P w K mg base 2 f fd ["self", "number", "at"] (Be C Ab Kt):=by
 have nd:=zn.nd
 refine GS F zn (λvs G Q h=> ?_) (λcdv A outer s H E as G Q hr h=> ?_)
 ·obtain⟨_,_,_,_,_,_,_,_,_,_,_,rfl,_⟩:=h
  rfl
 have hU:=eD hr
 apply jw
 case a=>symm
 obtain⟨a,dx,m,pa,tb,ts,T,p,qq,n,e,rfl,cs,tbl,hq,hag,he,q⟩:=h
 cases qq with
 |again r=>
  have hcb:=cs.ag r (ax hq)
  obtain⟨j,ej,hj,hnj⟩:=gY (i:=0) (cc:=r) hq rfl rfl
  have hj1:j=n+1:=i0.mp (PV.int.inj ej).symm
  left
  intro w0 hw0
  exists vc rfl af ?_
  rw[fZ]
  have ge0:GE G (up G w0 (.dK [(.inl (e:Int),.int 1)])):=GE.refl.new hw0
  have tb1:=tbl.ge ge0
  obtain⟨t,d,kvs,tw,r1,r2,r3,r4,r5⟩:=tb1.read hj (k:=e) (.inr ⟨rfl,hnj⟩) he
  exists cI tb1.ins rfl ?_
  exists cI tb1.ins rfl ?_
  exists cj (aO tb1.pts) (bI (fW hq)) ?_
  exists eF (x:= .int (j:Int)) (by rw[hj1];rfl) ?_
  exists cj (aO tb1.tbl) (bI r1) ?_
  exists nG (kl r2) rfl r3 ?_
  exists yl rfl r4 ?_
  rw[jS]
  refine⟨λi τ G'=>∃(ws:Ws) (t5:Option PV),τ=[some (.ref a),some (.int (n:Int)),some (.int (e:Int)),some (.ref w0),some (.ref d),t5]/\G' w0=some (.dK (fk ws))/\G' d=some (.rd (fk tw))/\GE G G'/\Wy ws (T.length+1) (λj=>dl e j+xM T (.again r) (tw.take i) j),?_,?_,?_,?_⟩
  ·exact⟨[(e,1)],none,rfl,af,r4,ge0,(Wy.one (by ac_nf)).congr λj=>rfl⟩
  ·rintro i τ G' _ ⟨ws,t5,_,_,g2,_⟩
   exact g2
  ·rintro i x τ G' hx ⟨ws,t5,rfl,gw,gd,ge,wy⟩
   obtain⟨v,hv,rfl⟩:=zG hx
   obtain⟨k1,k2,k3⟩:=r5.key hv
   have hle:e<v.1:=by
    rcases cW e v.1 with z|z
    ·exact z
    ·rw[jP hcb z]at k1;ac_nf
   have tb2:=tbl.ge ge
   obtain⟨t2,d2,kvs2,ms,s1,s2,s3,s4,s5⟩:=tb2.read hq (k:=v.1) (.inl hle) (by ac_nf)
   exists cI tb2.ins rfl ?_
   exists cj (aO tb2.tbl) (bI s1) ?_
   exists nG (kl s2) rfl s3 ?_
   exists nG (rQ gd) rfl (r5.read hv) ?_
   exists⟨w0,d2,v.2,T.length+1,ws,ms,_,_,rfl,gw,s4,wy,s5,k2,by have:=cs.len;ac_nf,s5.big cs (ax hq) (by ac_nf),?_⟩
   refine⟨mv v.2 ws ms,_,rfl,af,by rw[aE (λz=>by rw[z,gw]at gd;cases gd)];exact gd,ge.mod hw0,?_⟩
   refine(wy.add k2 s5.nd s5.lt s5.pos).congr λx=> ?_
   rw[tq hv,s5.val,Nat.add_assoc]
  ·rintro τ G' ⟨ws,t5,rfl,gw,gd,ge,wy⟩
   rw[ai,bj]at wy
   exists⟨_,GW.rd ge gw,q w0 ws hw0 (wy.congr λx=> ?_)⟩
   rw[wb r5]
   exact(iG hcb he).symm
 |_=>cases hag
end
section
variable{P:aK}{w:aX}{K:PySem.W.Frag}{mg:Str->Option ae}{base:Heap}{f fa fp fr C:Addr}{fd da dp dr:a8}
theorem HQ{S:Str}{c:Nat}{G:Gp}{Q:K2}(q:Q (.bl (decide (c∈S.cps.toList))) G):MQ false (.str ⟨#[c]⟩) (.str S) G Q:=by
 show Q (.bl ((!(gG S ⟨#[c]⟩ 0 S.length 1).isEmpty))) G
 rw[StrLaws.found_one];exact q
theorem kK{z:Str}{G:Gp}{Q:K2}(h:z.length<=16000000)(q:Q (.int z.length) G):jj [.str z] G Q:=⟨h,q⟩
theorem Cf:bv ["self", "number", "at", "make", "kind"] ["self", "number", "at"] (aN Bu):=⟨rfl,rfl,rfl,by decide+kernel,rfl,by decide+kernel,by decide+kernel⟩
theorem FN(c:Cls K C)(n1:NoAttr K C "signs")(n2:NoAttr K C "makes")(n3:NoAttr K C "parts")(n4:NoAttr K C "table")(F:Fun K "count_from" "Counts.count_from" Bu f fd)(B:BN mg)(MP:fq P w K mg base C 2 "count_pick" fp dp ["self", "number", "at"] (Be C BE λ_=>true))(MA:fq P w K mg base C 2 "count_again" fa da ["self", "number", "at"] (Be C Ab Kt))(MR:fq P w K mg base C 2 "count_row" fr dr ["self", "number", "at"] (Be C Ih λ_=>true)):iL P w K mg base 3 f fd ["self", "number", "at"] (Be C Ab λ_=>true):=by
 have nd:=Cf.nd
 refine GS F Cf (λvs G Q h=> ?_) (λcdv A outer s H E as G Q hr h=> ?_)
 ·obtain⟨_,_,_,_,_,_,_,_,_,_,_,rfl,_⟩:=h
  rfl
 have hU:=eD hr
 apply jw
 case a=>symm
 obtain⟨a,dx,m,pa,tb,ts,T,p,qq,n,e,rfl,cs,tbl,hq,-,he,q⟩:=h
 exists cI tbl.ins rfl ?_
 exists cj (aO tbl.mks) (bI (iV hq)) ?_
 left
 cases qq with
 |none=>
  nofun
  exists fz rfl rfl (ia rfl ?_)
  left
  intro w0 hw0
  exact⟨_,GW.rd (GE.refl.new hw0) af,q w0 [] hw0 Wy.nil⟩
 |sign z=>
  nofun
  ext
  exists fz rfl rfl (ia rfl ?_)
  exists cI tbl.ins rfl ?_
  exists kK (by rw[eW];have:=cs.len;ac_nf) ?_
  rw[eW]
  left
  have no:nT T (.sign z) e=(λ_=>0)->∀w0,G w0=none->∃G0,GW G0 (up G w0 (.dK []))/\Q (.ref w0) G0:=λh w0 hw0=>⟨_,GW.rd (GE.refl.new hw0) af,q w0 [] hw0 (by show Wy [] _ (nT T (.sign z) e);rw[h];exact Wy.nil)⟩
  refine sr (λh=> ?_) (λh=> ?_)
  ·have h1:(e:Int)<(T.length:Nat):=of_decide_eq_true h
   have h2:e<T.length:=by ac_nf
   obtain⟨ch,ec⟩:∃ch,T[e]? =some ch:=⟨_,ak h2⟩
   exists cI tbl.ins rfl ?_
   exists pE (c:=ch) (by rw[eW];have:=cs.len;ac_nf) (bI (by rw[qo];exact ec)) ?_
   exists eF (x:= .str z) rfl ?_
   exists HQ ?_
   left
   by_cases hc:ch∈z.cps.toList
   ·refine ia (decide_eq_true hc) ?_
    left
    intro w0 hw0
    exists vo ?_
    exists vc rfl af ?_
    rw[fZ]
    refine⟨_,GW.rd (GE.refl.new hw0) af,q w0 [(e+1,1)] hw0 ((Wy.one (by ac_nf)).congr λj=> ?_)⟩
    show _=jY (bf T (.sign z) e) j
    unfold bf
    rw[ec]
    simp only[if_pos hc]
    exact(kc _ _ _).symm
   ·refine lw (decide_eq_false hc) ?_
    exists no ?_
    funext j
    show jY (bf T (.sign z) e) j=0
    unfold bf
    rw[ec]
    simp only[if_neg hc]
    rfl
  ·have h1:¬(e:Int)<(T.length:Nat):=of_decide_eq_false h
   exists no ?_
   funext j
   show jY (bf T (.sign z) e) j=0
   unfold bf
   rw[cQ (by ac_nf)]
   rfl
 |pick ps=>
  nofun
  ext
  ext
  exists fz rfl rfl (ia rfl ?_)
  exists⟨⟨a,dx,_,rfl,tbl.ins,rfl⟩,?_⟩
  exists⟨a,dx,m,pa,tb,ts,T,p,_,n,e,rfl,cs,tbl,hq,rfl,he,λd ws hd hw=>⟨_,GE.refl.gw,q d ws hd (hw.congr λj=> ?_)⟩⟩
  exact qm.symm
 |again r=>
  nofun
  ext
  ext
  ext
  exists fz rfl rfl (ia rfl ?_)
  exists⟨⟨a,dx,_,rfl,tbl.ins,rfl⟩,?_⟩
  left
  exact⟨a,dx,m,pa,tb,ts,T,p,_,n,e,rfl,cs,tbl,hq,rfl,he,λd ws hd hw=>⟨_,GE.refl.gw,q d ws hd hw⟩⟩
 |blank=>
  nofun
  ext
  ext
  ext
  ext
  exists⟨⟨a,dx,_,rfl,tbl.ins,rfl⟩,?_⟩
  left
  exact⟨a,dx,m,pa,tb,ts,T,p,_,n,e,rfl,cs,tbl,hq,rfl,he,λd ws hd hw=>⟨_,GE.refl.gw,q d ws hd (hw.congr λj=>(kZ rfl he).symm)⟩⟩
 |row ps=>
  nofun
  ext
  ext
  ext
  ext
  exists⟨⟨a,dx,_,rfl,tbl.ins,rfl⟩,?_⟩
  left
  exact⟨a,dx,m,pa,tb,ts,T,p,_,n,e,rfl,cs,tbl,hq,rfl,he,λd ws hd hw=>⟨_,GE.refl.gw,q d ws hd (hw.congr λj=>(kZ rfl he).symm)⟩⟩
 |held nm r=>
  nofun
  ext
  ext
  ext
  ext
  exists⟨⟨a,dx,_,rfl,tbl.ins,rfl⟩,?_⟩
  left
  exact⟨a,dx,m,pa,tb,ts,T,p,_,n,e,rfl,cs,tbl,hq,rfl,he,λd ws hd hw=>⟨_,GE.refl.gw,q d ws hd (hw.congr λj=>(kZ rfl he).symm)⟩⟩
 |price nm r=>
  nofun
  ext
  ext
  ext
  ext
  exists⟨⟨a,dx,_,rfl,tbl.ins,rfl⟩,?_⟩
  left
  exact⟨a,dx,m,pa,tb,ts,T,p,_,n,e,rfl,cs,tbl,hq,rfl,he,λd ws hd hw=>⟨_,GE.refl.gw,q d ws hd (hw.congr λj=>(kZ rfl he).symm)⟩⟩
end
section
variable{P:aK}{w:aX}{K:PySem.W.Frag}{mg:Str->Option ae}{base:Heap}{f fm fp fr C:Addr}{fd dm dp dr:a8}
theorem Cd:bv ["self", "pattern", "text", "at", "number"] ["self", "pattern", "text"] (aN yG):=⟨rfl,rfl,rfl,by decide+kernel,rfl,by decide+kernel,by decide+kernel⟩
theorem KI:dE (aN yG) ["self", "pattern", "text", "at", "number"] (gn [(".0",.local),("make",.local)]) ["make"] [none] 0 "make" =true:=by decide+kernel
noncomputable def xD(C:Addr):hX:=λps G Q=>∃(a dx:Addr) (T:List Nat) (p:Pt),ps=[.ref a,il p,.str (pR T)]/\G a=some (.ins C dx [])/\Cs T p/\∀G' m pa tb ts,Ch [a] G G'->Tb C G' a T p (λ_ _=>True) dx m pa tb ts->Q .non G'
theorem FL(c:Cls K C)(n1:NoAttr K C "signs")(n2:NoAttr K C "makes")(n3:NoAttr K C "parts")(n4:NoAttr K C "table")(F:Fun K "__init__" "Counts.__init__" yG f fd)(B:BN mg)(CM:cq P w K mg base 2 "makes_of" fm dm ["pattern"] qj)(CP:cq P w K mg base 3 "parts_of" fp dp ["pattern"] oB)(MF:fq P w K mg base C 3 "count_from" fr dr ["self", "number", "at"] (Be C Ab λ_=>true)):iL P w K mg base 4 f fd ["self", "pattern", "text"] (xD C):=by
 have nd:=Cd.nd
 refine jX F Cd (λvs G Q h=> ?_) (λcdv A outer s H E as G Q hr h=> ?_)
 ·obtain⟨_,_,_,_,rfl,_⟩:=h
  rfl
 have hU:=eD hr
 apply jw
 case a=>
  symm
  all_goals try (refine' o4 (ix:=[none]) (j:=0) KI rfl ?_ (λC s H fp=>⟨?_,?_⟩))
  all_goals symm
 obtain⟨a,dx,T,p,rfl,ga,cs,q⟩:=h
 have lM:(cN (makes p)).length=size p:=by rw[cy,bW]
 have hsz:=cs.siz
 have hln:=cs.len
 exists jB ga (aW rfl) ?_
 exists⟨p,rfl,by ac_nf,λm hm=> ?_⟩
 left
 have nma:m≠a:=(dD hm).1
 refine jB (by rw[aE (aG nma),af]) (aW rfl) ?_
 exists⟨p,rfl,by ac_nf,λpa hpa=> ?_⟩
 left
 obtain⟨npa,hpa2⟩:=dD hpa
 obtain⟨npm,hpa3⟩:=dD hpa2
 have hpa0:G pa=none:=(dD hpa3).2
 have hm0:G m=none:=(dD hm).2
 refine jB (by rw[aE (aG npa),af]) (aW rfl) ?_
 rw[ug (a:=a) (b:=m) (aG nma),fZ,ug (a:=a) (b:=pa) (aG npa),fZ]
 exists cI af rfl ?_
 left
 rw[aO (show up (up (up G m _) pa _) a _ m=some (.lst (cN (makes p)))by rw[aE nma,aE (aG npm),af])]
 left
 intro acc hacc
 obtain⟨nca,hac2⟩:=dD hacc
 obtain⟨ncp,hac3⟩:=dD hac2
 obtain⟨ncm,hac0⟩:=dD hac3
 have k0:Ch [a] G (up (up (up G m (.lst (cN (makes p)))) pa (.lst (gK p))) a (.ins C dx [("signs",.str (pR T)),("makes",.ref m),("parts",.ref pa)])):=((Ch.refl.mod' hm0).mod' hpa0).put (by simp)
 have g0a:up (up (up G m (.lst (cN (makes p)))) pa (.lst (gK p))) a (.ins C dx [("signs",.str (pR T)),("makes",.ref m),("parts",.ref pa)]) a=some (.ins C dx [("signs",.str (pR T)),("makes",.ref m),("parts",.ref pa)]):=af
 have g0m:up (up (up G m (.lst (cN (makes p)))) pa (.lst (gK p))) a (.ins C dx [("signs",.str (pR T)),("makes",.ref m),("parts",.ref pa)]) m=some (.lst (cN (makes p))):=by rw[aE nma,aE (aG npm),af]
 have g0p:up (up (up G m (.lst (cN (makes p)))) pa (.lst (gK p))) a (.ins C dx [("signs",.str (pR T)),("makes",.ref m),("parts",.ref pa)]) pa=some (.lst (gK p)):=by rw[aE npa,af]
 change Nv _ _ _ _ _ _ _ _ (up (up (up G m (.lst (cN (makes p)))) pa (.lst (gK p))) a (.ins C dx [("signs",.str (pR T)),("makes",.ref m),("parts",.ref pa)])) acc
 change up (up (up G m (.lst (cN (makes p)))) pa (.lst (gK p))) a (.ins C dx [("signs",.str (pR T)),("makes",.ref m),("parts",.ref pa)]) acc=none at hacc
 generalize up (up (up G m (.lst (cN (makes p)))) pa (.lst (gK p))) a (.ins C dx [("signs",.str (pR T)),("makes",.ref m),("parts",.ref pa)])=G0 at k0 g0a g0m g0p hacc⊢
 refine⟨λi ys G1=>∃ts:List Addr,ys=ts.map PV.ref/\ts.length=i/\ts.Nodup/\(∀t∈ts,G1 t=some (.dK [])/\G0 t=none)/\GE G0 G1/\G1 acc=some (.lst ys),?_,?_,?_,?_⟩
 ·exact⟨[],rfl,rfl,by simp,by simp,GE.refl.new hacc,af⟩
 ·rintro i ys G1 hi ⟨ts,rfl,rfl,nd',ht,ge,gc⟩
  refine⟨aO (ge _ _ g0m),gc,?_⟩
  rw[ai];ac_nf
 ·rintro i ys G1 x hx ⟨ts,rfl,rfl,nd',ht,ge,gc⟩
  refine ia rfl ?_
  left
  intro d hd
  have hd0:=none_of ge hd
  have ndc:d≠acc:=λz=>by rw[z,gc]at hd;cases hd
  refine⟨by rw[aE (aG ndc)];exact gc,ts++[d],by rw[aR];rfl,by simp,?_,λt h=> ?_,((ge.mod hd0).mod hacc),af⟩
  ·rw[List.nodup_append]
   refine⟨nd',by simp,λx hx y hy=> ?_⟩
   cases au.mp hy
   intro z
   rw[z]at hx
   rw[(ht d hx).1]at hd;cases hd
  ·rcases aZ.mp h with h|h
   ·have h1:=ht t h
    exact⟨by rw[aE (λz=>by rw[z,gc]at h1;cases h1.1),aE (aY h1.1 hd)];exact h1.1,h1.2⟩
   ·cases au.mp h
    exact⟨by rw[aE ndc,af],hd0⟩
 ·rintro ys G1 ⟨ts,rfl,hts,nd',ht,ge,gc⟩
  rw[lM]at hts
  exists jB (ge _ _ g0a) (aW rfl) ?_
  have nac:a≠acc:=aY g0a hacc
  have k1:Ch [a] G (up G1 a (.ins C dx (K7 T m pa acc))):=(k0.trans ge.ch).put (by simp)
  have nta:∀t∈ts,t≠a:=λt h z=>by have:=(ht t h).2;rw[z,g0a]at this;cases this
  have htG:∀t∈ts,G t=none:=λt h=>by
   cases ez:G t with
   |none=>rfl
   |some o=>
    have:=k0 t o (by simpa using nta t h) ez
    rw[(ht t h).2]at this;cases this
  have tb0:Tb C (up G1 a (.ins C dx (K7 T m pa acc))) a T p (λ_ _=>False) dx m pa acc ts:=⟨af,by rw[aE nma];exact ge _ _ g0m,by rw[aE npa];exact ge _ _ g0p,by rw[aE (aG nac)];exact gc,hts,λi t hi=>⟨[],by rw[aE (nta t (ax hi))];exact(ht t (ax hi)).1,λ_ _ _ hf=>hf.elim⟩⟩
  have l0:∀(j:Nat) (t:Addr),ts[j]? =some t->∃kvs,up G1 a (.ins C dx (K7 T m pa acc)) t=some (.dK kvs)/\kvs.length<=0:=λj t hj=>⟨[],by rw[aE (nta t (ax hj))];exact(ht t (ax hj)).1,am _⟩
  change (λG3=>_) (up G1 a (.ins C dx (K7 T m pa acc)))
  generalize up G1 a (.ins C dx (K7 T m pa acc))=G2 at k1 tb0 l0⊢
  exists kK (by rw[eW];ac_nf) ?_
  rw[eW]
  exists⟨rfl,⟨by ac_nf,by ac_nf,by decide,by decide⟩,?_⟩
  rw[show((T.length:Int)- -1).toNat=T.length+1 by ac_nf]
  refine⟨λi τ G3=>∃(t3 t4:Option PV),τ=[some (.ref a),some (il p),some (.str (pR T)),t3,t4]/\Ch [a] G G3/\Tb C G3 a T p (λ_ e=>T.length<e+i) dx m pa acc ts/\∀(j:Nat) (t:Addr),ts[j]? =some t->∃kvs,G3 t=some (.dK kvs)/\kvs.length<=i,?_,?_,?_,?_⟩
  ·exact⟨none,none,rfl,k1,tb0.mono λ_ e h1 h2=>by ac_nf,l0⟩
  ·intros;trivial
  ·rintro i x τ G3 hx ⟨t3,t4,rfl,k3,tb3,l3⟩
   obtain⟨hi,rfl⟩:=u0 hx
   obtain⟨e0,he0⟩:∃e0,e0=T.length-i:=⟨_,rfl⟩
   rw[show((T.length:Int)-(i:Nat))=(e0:Nat)by ac_nf]
   exists cI tb3.ins rfl ?_
   exists pD (aO tb3.mks) ?_
   rw[lM]
   exists⟨rfl,⟨by ac_nf,by ac_nf,by decide,by decide⟩,?_⟩
   rw[show((size p:Int)-1- -1).toNat=size p by ac_nf]
   refine⟨λk τ G4=>∃(t4:Option PV),τ=[some (.ref a),some (il p),some (.str (pR T)),some (.int (e0:Nat)),t4]/\Ch [a] G G4/\Tb C G4 a T p (λj e=>e0<e\/e=e0/\size p<=j+k) dx m pa acc ts/\∀(j:Nat) (t:Addr),ts[j]? =some t->∃kvs,G4 t=some (.dK kvs)/\kvs.length<=i+1/\(j+k<size p->kvs.length<=i),?_,?_,?_,?_⟩
   ·refine⟨t4,rfl,k3,tb3.mono' λj e h0 h1 h2=> ?_,λj t hj=> ?_⟩
    ·rcases h2 with h2|⟨h2,h3⟩
     ·ac_nf
     ·ac_nf
    ·obtain⟨kvs,h1,h2⟩:=l3 j t hj
     exact⟨kvs,h1,by ac_nf,λ_=>h2⟩
   ·intros;trivial
   ·rintro k x τ G4 hx ⟨t4,rfl,k4,tb4,l4⟩
    obtain⟨hk,rfl⟩:=u0 hx
    obtain⟨n,hn⟩:∃n,n=size p-1-k:=⟨_,rfl⟩
    rw[show((size p:Int)-1-(k:Nat))=(n:Nat)by ac_nf]
    have hnl:n<(makes p).length:=by rw[bW];ac_nf
    obtain⟨qn,hqn⟩:∃qn,(makes p)[n]? =some qn:=⟨_,ak hnl⟩
    obtain⟨t,htn⟩:∃t,ts[n]? =some t:=⟨_,ak (by ac_nf)⟩
    obtain⟨kvs,hk1,_,hk3⟩:=l4 n t htn
    exists⟨⟨a,dx,_,rfl,tb4.ins,rfl⟩,?_⟩
    exists⟨a,dx,m,pa,acc,ts,T,p,qn,n,e0,rfl,cs,tb4.mono λj e h1 h2=> ?_,hqn,rfl,by ac_nf,λd ws hd hw=> ?_⟩
    ·rcases h2 with h2|⟨h2,h3⟩
     ·exact .inl h2
     ·exact .inr ⟨h2,by ac_nf⟩
    left
    have ge5:GE G4 (up G4 d (.rd (fk ws))):=GE.refl.new hd
    have tb5:=tb4.ge ge5
    refine cI tb5.ins rfl ?_
    exists cj (aO tb5.tbl) (bI (Ep (α:=Nat) htn)) ?_
    exists qU (ge5 _ _ hk1) rfl (by have:=hk3 (by ac_nf);ac_nf) ?_
    refine⟨_,rfl,(k4.new hd).mod' (htG t (ax htn)),tb4.write nd' htn hqn hk1 hd hw λj e h1 h2=> ?_,λj t' hj=> ?_⟩
    ·rcases h2 with h2|⟨h2,h3⟩
     ·exact .inl (.inl h2)
     ·by_cases z:j=n
      ·exact .inr ⟨z,h2⟩
      ·exact .inl (.inr ⟨h2,by ac_nf⟩)
    ·obtain⟨kv',m1,m2,m3⟩:=l4 j t' hj
     by_cases z:t'=t
     ·subst z
      refine⟨_,af,?_,λh=> ?_⟩
      ·have:=ni (k:= .inl (e0:Int)) (v:= .ref d) kvs
       have:=hk3 (by ac_nf)
       ac_nf
      ·exfalso
       have pw:=wZ.mp nd'
       obtain⟨a1,b1⟩:=aq.mp hj
       obtain⟨a2,b2⟩:=aq.mp htn
       rcases Nat.lt_or_gt_of_ne (show j≠n by ac_nf)with z|z
       ·exact pw j n a1 a2 z (by rw[b1,b2])
       ·ac_nf
     ·exact⟨kv',by rw[aE z,aE (aY m1 hd)];exact m1,m2,λh=>m3 (by ac_nf)⟩
   ·rintro τ G4 ⟨t4,rfl,k4,tb4,l4⟩
    rw[rM]at tb4 l4
    refine⟨_,_,rfl,k4,tb4.mono λj e h1 h2=> ?_,λj t hj=> ?_⟩
    ·by_cases z:e0<e
     ·exact .inl z
     ·exact .inr ⟨by ac_nf,by ac_nf⟩
    ·obtain⟨kvs,h1,h2,_⟩:=l4 j t hj
     exact⟨kvs,h1,h2⟩
  ·rintro τ G3 ⟨t3,t4,rfl,k3,tb3,l3⟩
   rw[rM]at tb3
   exact⟨_,GE.refl,q G3 m pa acc ts k3 (tb3.mono λj e h1 _=>by ac_nf)⟩
end
noncomputable abbrev Bq:Stmt:=top 24
noncomputable abbrev yF:Stmt:=top 25
noncomputable abbrev qz:Stmt:=top 26
theorem fV{G:Gp}{a l:Addr}(p:Pool G a)(h:G l=none):l≠a:=λe=>by
 obtain⟨o,z⟩:=p.some
 subst e;rw[h]at z;cases z
theorem uw{a:Addr}{G:Gp}{Q:K2}{kvs:List (Key×PV)}(h:G a=some (.dK kvs))(hl:kvs.length<64)(hk:∀kv∈kvs,∃c,kv.1=dG (eM c))
  (q:∀(cs:List Nat) c,cs.Pairwise (· <·)->(∀x,x∈cs↔dG (eM x)∈kvs.map (·.1))->G c=none->Q (.ref c) (up G c (.lst (cs.map λc=> .str (eM c))))):iD [.ref a] G Q:=by
 unfold iD;simp only[h];exact⟨hl,hk,q⟩
open Classical in
theorem sZ{kvs:List (Key×PV)}{k:Key}{v:PV}:(iE kvs k v).map (·.1)=if k∈kvs.map (·.1)then kvs.map (·.1)else kvs.map (·.1)++[k]:=by
 have hany:(kvs.any λkv=>decide (kv.1=k))=true↔k∈kvs.map (·.1):=by
  rw[List.any_eq_true,av]
  constructor
  ·rintro⟨x,hx,e⟩;exact⟨x,hx,of_decide_eq_true e⟩
  ·rintro⟨x,hx,e⟩;exact⟨x,hx,decide_eq_true e⟩
 unfold iE
 by_cases h:k∈kvs.map (·.1)
 ·rw[if_pos (hany.mpr h),if_pos h,bp]
  refine fE λkv _=> ?_
  show(if kv.1=k then(kv.1,v)else kv).1=kv.1
  split<;>rfl
 ·rw[if_neg (λe=>h (hany.mp e)),if_neg h,aR]
  rfl
theorem j8{lo:Int}{n i:Nat}{x:PV}(h:(jR lo n)[i]? =some x):i<n/\x= .int (lo+i):=by
 unfold jR at h
 rw[aC]at h
 cases e:(bE n)[i]? with
 |none=>rw[e]at h;cases h
 |some j=>
  rw[e]at h
  have hi:i<n:=by
   have:=(aq.mp e).1
   simpa using this
  rw[dA hi]at e
  cases e
  cases h
  exact⟨hi,rfl⟩
theorem iH(lo:Int)(n:Nat):(jR lo n).length=n:=by unfold jR;simp
theorem wz(cs:List Nat):(g9 (aD "") (cs.map eM)).length=cs.length:=by
 rw[<-j6 cs,br];rw[j6];rfl
theorem v9{kvs:List (Key×PV)}{k:Key}{v:PV}{x:Key×PV}(h:x∈iE kvs k v):x.1=k\/x.1∈kvs.map (·.1):=by
 have hm:x.1∈(iE kvs k v).map (·.1):=av.mpr ⟨x,h,rfl⟩
 rw[sZ]at hm
 split at hm
 ·exact .inr hm
 ·rcases aZ.mp hm with h|h
  ·exact .inr h
  ·exact .inl (au.mp h)
section
variable{P:aK}{w:aX}{K:PySem.W.Frag}{mg:Str->Option ae}{base:Heap}{f fn:Addr}{fd dn:a8}
theorem sT:bv ["pool", "every", "found", "k"] ["pool"] (aN qz):=⟨rfl,rfl,rfl,by decide+kernel,rfl,by decide+kernel,by decide+kernel⟩
noncomputable def oE:hX:=λps G Q=>∃a,ps=[.ref a]/\Pool G a/\∀z G',1<=z.length->z.length<=5->Pool G' a->Ch [a] G G'->Q (.str z) G'
theorem xQ(F:Fun K "_law_letters" "_law_letters" qz f fd)(B:BN mg)(C:cq P w K mg base 1 "_law_next" fn dn ["pool", "base"] gI):iL P w K mg base 2 f fd ["pool"] oE:=by
 have nd:=sT.nd
 refine jX F sT (λvs G Q h=> ?_) (λcdv A outer s H E as G Q hr h=> ?_)
 ·obtain⟨_,rfl,_⟩:=h
  rfl
 have hU:=eD hr
 apply jw
 case a=>symm
 obtain⟨a,rfl,p1,q⟩:=h
 exists⟨by decide,?_⟩
 have evl:(aD " !\"#$&'()*+,-./0123456789:;<=>?@ABCDEFGHIJKLMNOPQRSTUVWXYZ[\\]^_`" ++aD "abcdefghijklmnopqrstuvwxyz{|}~" :Str).cps.toList.length=94:=by decide+kernel
 generalize (aD " !\"#$&'()*+,-./0123456789:;<=>?@ABCDEFGHIJKLMNOPQRSTUVWXYZ[\\]^_`" ++aD "abcdefghijklmnopqrstuvwxyz{|}~" :Str)=ev at evl⊢
 have evs:ev.length=94:=by rw[<-evl,br];rfl
 left
 intro fd0 hfd
 have nfa:fd0≠a:=fV p1 hfd
 exists⟨a,3,rfl,p1.new hfd,by decide,by decide,λn G1 n0 n3 p2 c1=> ?_⟩
 exists vo ?_
 exists⟨by ac_nf,by ac_nf,λi τ G2=>∃(kvs:List (Key×PV)) (t3:Option PV),τ=[some (.ref a),some (.str ev),some (.ref fd0),t3]/\G2 fd0=some (.dK kvs)/\kvs.length<=i/\(∀kv∈kvs,∃c,kv.1=dG (eM c))/\Pool G2 a/\Ch [a] G G2,⟨[],none,rfl,c1 _ _ (by simpa using nfa) af,am _,by simp,p2,(Ch.refl.new hfd).trans c1⟩,?_,?_,?_⟩
 ·intros;trivial
 ·rintro i x τ G2 hx ⟨kvs,t3,rfl,g2,l2,k2,p3,c3⟩
  obtain⟨hi,rfl⟩:=j8 hx
  exists⟨a,94,rfl,p3,by decide,by decide,λm G3 m0 m94 p4 c4=> ?_⟩
  obtain⟨c,ec,hcm⟩:=mr (xs:=ev.cps.toList) m0 (by rw[evl];exact m94)
  exists pE (by ac_nf) ec ?_
  left
  have g3:G3 fd0=some (.dK kvs):=c4 _ _ (by simpa using nfa) g2
  refine qU g3 rfl (by ac_nf) ?_
  refine⟨_,_,rfl,af,?_,λkv hkv=> ?_,p4.ne nfa,(c3.trans c4).mod' hfd⟩
  ·have:=ni (k:=dG (⟨#[c]⟩:Str)) (v:= .bl true) kvs
   ac_nf
  ·rcases v9 hkv with h|h
   ·exact⟨c,h⟩
   ·obtain⟨y,hy,e⟩:=av.mp h
    rw[<-e];exact k2 y hy
 ·rintro τ G2 ⟨kvs,t3,rfl,g2,l2,k2,p3,c3⟩
  rw[iH]at l2
  exists qU g2 rfl (by ac_nf) ?_
  have hl:=ni (k:=dG (aD "a")) (v:= .bl true) kvs
  exists uw af (by ac_nf) (λkv hkv=> ?_) λcs l hcs hm hl2=> ?_
  ·rcases v9 hkv with h|h
   ·exact⟨97,h⟩
   ·obtain⟨y,hy,e⟩:=av.mp h
    rw[<-e];exact k2 y hy
  have hne:97∈cs:=(hm 97).mpr (by
   have e97:(dG (eM 97):Key)=dG (aD "a"):=rfl
   rw[e97,sZ]
   split
   ·rename_i h;exact h
   ·simp)
  have hcl:cs.length<=(iE kvs (dG (aD "a")) (.bl true)).length:=by
   have h1:(cs.map λx=>(dG (eM x):Key)).Nodup:=by
    refine List.Pairwise.map _ (λx y h e=> ?_) (hcs.imp λh=>aS h)
    exact h (wc (dG.inj e))
   have h2:=lF h1 (b:=(iE kvs (dG (aD "a")) (.bl true)).map (·.1)) λk hk=>by
    obtain⟨x,hx,rfl⟩:=av.mp hk
    exact(hm x).mp hx
   simpa using h2
  exists qp (zs:=cs.map eM) (aO (by rw[af,bp];rfl)) (by rw[vJ,ai];show cs.length+cs.length*0<=_;ac_nf) ?_
  have c0:0<cs.length:=List.length_pos_of_mem hne
  refine⟨_,GE.refl,q _ _ (by rw[wz];ac_nf) (by rw[wz];ac_nf) ((p3.ne nfa).new hl2) ((c3.mod' hfd).new hl2)⟩
end
noncomputable abbrev tZ:Stmt:=top 27
section
variable{P:aK}{w:aX}{K:PySem.W.Frag}{mg:Str->Option ae}{base:Heap}{f fn:Addr}{fd dn:a8}
theorem Ca:bv ["cell"] ["cell"] (aN Bq):=⟨rfl,rfl,rfl,by decide+kernel,rfl,by decide+kernel,by decide+kernel⟩
theorem FH(F:Fun K "_law_pool" "_law_pool" Bq f fd)(B:BN mg):iL P w K mg base 1 f fd ["cell"] xC:=by
 have nd:=Ca.nd
 refine jX F Ca (λvs G Q h=> ?_) (λcdv A outer s H E as G Q hr h=> ?_)
 ·obtain⟨p,rfl,_⟩:=h
  rfl
 have hU:=eD hr
 apply jw
 case a=>symm
 obtain⟨c,rfl,q⟩:=h
 have cp:K3 10 18:=⟨by decide,by decide,by decide⟩
 refine⟨cp,cp,(by decide:(0:Int)<10^18),cA,λa ha=>⟨_,GE.refl,q a _ ha ⟨_,_,0,af,?_⟩ (Ch.refl.put (by simp))⟩⟩
 show(0:Int)<=if c-10^18>0 then c-10^18 else 0
 split<;>ac_nf
theorem uz:bv ["pool", "base", "digit", "near", "stir"] ["pool", "base"] (aN yF):=⟨rfl,rfl,rfl,by decide+kernel,rfl,by decide+kernel,by decide+kernel⟩
theorem FJ(F:Fun K "_law_next" "_law_next" yF f fd)(B:BN mg):iL P w K mg base 1 f fd ["pool", "base"] gI:=by
 have nd:=uz.nd
 refine jX F uz (λvs G Q h=> ?_) (λcdv A outer s H E as G Q hr h=> ?_)
 ·obtain⟨a,b,rfl,_⟩:=h
  rfl
 have hU:=eD hr
 apply jw
 case a=>symm
 obtain⟨a,b,rfl,⟨x,y,z,ga,hx⟩,b1,b2,q⟩:=h
 exists cj (aO ga) rfl ?_
 refine sr (λhp=> ?_) (λhp=> ?_)
 ·left
  refine cj (i:=0) (aO ga) rfl ?_
  refine⟨by ac_nf,?_⟩
  exists cj (i:=0) (aO ga) rfl ?_
  refine⟨⟨by ac_nf,Int.le_trans b2 (by decide)⟩,?_⟩
  exists gJ (k:=0) ga rfl ?_
  exact⟨_,GE.refl,q _ _ (e7 _ (by ac_nf)) (dM _ (by ac_nf)) ⟨x/b,y,z,af,Int.ediv_nonneg hx (by ac_nf)⟩ (Ch.refl.put (by simp))⟩
 ·left
  refine cj (i:=2) (aO ga) rfl ?_
  exists gJ (k:=2) ga rfl ?_
  exists cj (i:=1) (aO af) rfl ?_
  exists cj (i:=2) (aO af) rfl ?_
  refine⟨.inl ⟨by decide,by decide⟩,(by decide:(0:Int)<1000000007),?_⟩
  have n0:0<=(y+7919*(z+1))%1000000007:=e7 _ (by decide)
  have n1:(y+7919*(z+1))%1000000007<1000000007:=dM _ (by decide)
  refine⟨.inl ⟨?_,?_⟩,(by decide:(0:Int)<998244353),?_⟩
  ·show-(2^64)<(y+7919*(z+1))%1000000007+11
   ac_nf
  ·show(y+7919*(z+1))%1000000007+11<2^64
   ac_nf
  generalize ((y+7919*(z+1))%1000000007+11)*((y+7919*(z+1))%1000000007+48271)=k
  have s0:0<=k%998244353:=e7 _ (by decide)
  have s1:k%998244353<998244353:=dM _ (by decide)
  refine⟨.inl ⟨?_,?_⟩,(by decide:(0:Int)<2147483647),⟨by decide,by decide⟩,(by ac_nf:0<b),?_⟩
  ·show-(2^64)<k%998244353
   ac_nf
  ·show k%998244353<2^64
   ac_nf
  exact⟨_,GE.refl,q _ _ (e7 _ (by ac_nf)) (dM _ (by ac_nf)) ⟨x,y,z+1,af,hx⟩ (Ch.refl.put (by simp))⟩
theorem za:bv ["pool", "letters", "some"] ["pool", "letters"] (aN tZ):=⟨rfl,rfl,rfl,by decide+kernel,rfl,by decide+kernel,by decide+kernel⟩
theorem He:dE (aN tZ) ["pool", "letters", "some"] (gn [(".0",.local),("sign",.local),("_law_next",.globalImplicit),("pool",.free)]) ["sign", "pool"] [none,some 0] 0 "sign" =true:=by decide+kernel
noncomputable def mX:hX:=λps G Q=>∃(a:Addr) (z:Str),ps=[.ref a,.str z]/\Pool G a/\1<=z.length/\z.length<=5/\∀s G',1<=s.length->s.length<=5->Pool G' a->Ch [a] G G'->Q (il (.sign s)) G'
theorem Db(F:Fun K "_law_signs" "_law_signs" tZ f fd)(B:BN mg)(C:cq P w K mg base 1 "_law_next" fn dn ["pool", "base"] gI):iL P w K mg base 2 f fd ["pool", "letters"] mX:=by
 have nd:=za.nd
 refine jX F za (λvs G Q h=> ?_) (λcdv A outer s H E as G Q hr h=> ?_)
 ·obtain⟨_,_,rfl,_⟩:=h
  rfl
 have hU:=eD hr
 apply jw
 case a=>
  symm
  all_goals try (refine' nE (n:=2) (ix:=[none,some 0]) (j:=0) nd rfl rfl He rfl ?_ (λC s H fp=>⟨?_,?_⟩))
  all_goals symm
 obtain⟨a,z,rfl,p1,z1,z6,q⟩:=h
 have c1:Ch [a] G G:=Ch.refl
 left
 intro acc hacc
 have hla:acc≠a:=λe=>by subst e;obtain⟨o,eo⟩:=p1.some;rw[eo]at hacc;cases hacc
 have fin:∀(y:Addr) (cs:List Nat) G2 τ,gt τ 2=some (.ref y)->cs≠[]->cs.Sublist z.cps.toList->G2 y=some (.lst (cs.map λc=> .str (eM c)))->Pool G2 a->Ch [a] G G2->
   (pP (jT (aV (eC (PV.str "sign")) (aV (Ha rq (eC (PV.str "")) (aV (eV 2) cV)) cV)))) {nx:=λx G'=>∃G0,GE G0 G'/\Q PV.non G0,rt:=λp G'=>∃G0,GE G0 G'/\Q p G0} τ G2:=by
  intro y cs G2 τ ht hne hsub gy hp2 hc2
  have hl:cs.length<=5:=aP hsub.length_le (by rw[br];exact z6)
  left
  rw[ht]
  exists qp (zs:=cs.map eM) (by rw[bp];exact aO gy) (by rw[vJ,ai];show cs.length+cs.length*0<=_;ac_nf) ?_
  left
  have hle:(g9 (aD "") (cs.map eM)).length=cs.length:=by
   rw[<-j6 cs,br];rw[j6];rfl
  refine⟨cA,G2,GE.refl,q _ G2 ?_ ?_ hp2 hc2⟩
  ·rw[hle];exact EA.mpr hne
  ·rw[hle];exact hl
 refine⟨λi ys G2=>∃cs:List Nat,ys=cs.map (λc=> .str (eM c))/\cs.Sublist (z.cps.toList.take i)/\G2 acc=some (.lst ys)/\Pool G2 a/\Ch [a] G G2,⟨[],rfl,List.nil_sublist _,af,p1.new hacc,Ch.refl.new hacc⟩,?_,?_,?_⟩
 ·rintro i ys G2 hi ⟨cs,rfl,hs,ga,_,_⟩
  refine⟨trivial,ga,?_⟩
  have h1:=hs.length_le
  rw[bo]at h1
  have h2:z.cps.toList.length<=5:=by rw[br];exact z6
  rw[ai];ac_nf
 ·rintro i ys G2 x hx ⟨cs,rfl,hs,ga,hp2,hc2⟩
  obtain⟨c,hc,rfl⟩:=B1 hx
  have tk:z.cps.toList.take (i+1)=z.cps.toList.take i++[c]:=by rw[bt,hc];rfl
  exists⟨a,2,rfl,hp2,by decide,by decide,λm G3 m0 m1 p3 c3=> ?_⟩
  have ga3:G3 acc=_:=c3 acc _ (by simpa using hla) ga
  exists⟨rfl,rfl,?_⟩
  exists sr (λ_=> ?_) (λ_=> ?_)
  ·left
   refine⟨ga3,cs++[c],by simp,?_,af,p3.ne hla,(hc2.trans c3).mod' hacc⟩
   rw[tk];exact hs.append_right _|>.trans (List.Sublist.refl _)
  ·refine⟨cs,rfl,?_,ga3,p3,hc2.trans c3⟩
   rw[tk];exact hs.trans (List.sublist_append_left _ _)
 ·rintro ys G2 ⟨cs,rfl,hs,ga,hp2,hc2⟩
  have hs':cs.Sublist z.cps.toList:=by
   have hl:(jA z).length=z.cps.toList.length:=by unfold jA;rw[ai]
   rwa [hl,bj]at hs
  exists⟨cA,λl hl=> ?_⟩
  left
  have lal:acc≠l:=aY ga hl
  refine Nh (xs:=cs.map λc=> .str (eM c)) (ys:=[]) (aO (by rw[aE lal];exact ga)) lH ?_ rfl ?_
  ·exact Ap cs
  left
  cases cs with
  |nil=>
   refine ia rfl ?_
   exists⟨by ac_nf,?_⟩
   refine⟨a,z.length,rfl,hp2.new hl,by ac_nf,by ac_nf,λm G3 m0 m1 p3 c3=> ?_⟩
   obtain⟨c,ec,mc⟩:=mr (xs:=z.cps.toList) m0 (by rw[br];exact m1)
   exists pE (by ac_nf) ec ?_
   exists⟨cA,λl2 hl2=> ?_⟩
   exact fin l2 [c] _ [some (.ref a),some (.str z),some (.ref l2)] rfl (by simp) (List.singleton_sublist.mpr mc) af (p3.new hl2) ((((c1.trans hc2).new hl).trans c3).new hl2)
  |cons c cs=>
   refine lw rfl ?_
   exact fin acc (c::cs) _ [some (.ref a),some (.str z),some (.ref acc)] rfl (by simp) hs' (by rw[aE lal];exact ga) (hp2.new hl) ((c1.trans hc2).new hl)
end
noncomputable abbrev yE:Stmt:=top 28
noncomputable abbrev Bp:Stmt:=top 29
noncomputable abbrev Bt:Stmt:=top 30
noncomputable abbrev qx:Stmt:=top 31
theorem D7{ps:List Pt}{i:Nat}{x:PV}(h:(cN ps)[i]? =some x):∃c,ps[i]? =some c/\x=il c:=by
 rw[gx,aC]at h
 cases e:ps[i]? with
 |none=>rw[e]at h;cases h
 |some c=>rw[e]at h;exact⟨c,rfl,(bc h).symm⟩
theorem Eh{cs:List Pt}{c:Gp->Prop}{ix:List (Option Nat)}{j:Nat}{τ:je}{te:E2}{Q:K2}{G1:Gp}{acc:Addr}(g:Pt->PV)(hz:cs.length<1000000)
  (hc:∀ys,c (up G1 acc (.lst ys))) (he:∀x ys (R:K2),x∈cs->R (g x) (up G1 acc (.lst ys))->te (L3.st (kS ix τ) j (some (il x))) (up G1 acc (.lst ys)) R)
  (hq:Q (.ref acc) (up G1 acc (.lst (cs.map g)))):Nv (cN cs) c ix j τ kj te Q G1 acc:=by
 refine⟨λi ys G=>ys=(cs.take i).map g/\G=up G1 acc (.lst ys),⟨by simp,rfl⟩,?_,?_,?_⟩
 ·rintro i ys G hi ⟨rfl,rfl⟩
  refine⟨hc _,af,?_⟩
  rw[ai,bo]
  ac_nf
 ·rintro i ys G x hx ⟨rfl,rfl⟩
  obtain⟨d,hd,rfl⟩:=D7 hx
  have tk:cs.take (i+1)=cs.take i++[d]:=by rw[bt,hd];rfl
  refine ia rfl ?_
  refine he d _ _ (ax hd) ⟨af,?_,fZ⟩
  rw[tk,aR]
  rfl
 ·rintro ys G ⟨rfl,rfl⟩
  rw[cy,bj]
  exact hq
section
variable{P:aK}{w:aX}{K:PySem.W.Frag}{mg:Str->Option ae}{base:Heap}{f fa:Addr}{fd da:a8}
theorem B9:bv ["pattern"] ["pattern"] (aN yE):=⟨rfl,rfl,rfl,by decide+kernel,rfl,by decide+kernel,by decide+kernel⟩
theorem KH:dE (aN yE) ["pattern"] (gn [(".0",.local),("part",.local),("_law_size",.globalImplicit)]) ["part"] [none] 0 "part" =true:=by decide+kernel
noncomputable def lY(n:Nat):hX:=λps G Q=>∃p,ps=[il p]/\depth p<=n/\size p<=10000/\Q (.int (size p:Nat)) G
theorem sQ:∀ps:List Pt,(ps.map λp=>((size p:Nat):Int)).sum=((cb ps:Nat):Int)
 |[]=>rfl
 |p::ps=>by rw[aw,ba,sQ ps];simp only[cb];ac_nf
theorem FG{n k:Nat}(hk:1<=k)(F:Fun K "_law_size" "_law_size" yE f fd)(B:BN mg)(C:cq P w K mg base k "_law_size" fa da ["pattern"] (lY n)):iL P w K mg base (k+1) f fd ["pattern"] (lY (n+1)):=by
 have nd:=B9.nd
 have hUE:=pV.mk
 refine jX F B9 (λvs G Q h=> ?_) (λcdv A outer s H E as G Q hr h=> ?_)
 ·obtain⟨_,rfl,_⟩:=h
  rfl
 have hU:=eD hr
 apply jw
 case a=>
  symm
  all_goals try (refine' o4 KH rfl ?_ λ_ _ _ _=>⟨?_,?_⟩)
  all_goals symm
 obtain⟨p,rfl,hd,hz,q⟩:=h
 have hdi:=jO p
 have hsi:=i8 p
 have key:∀(ps:List Pt) (τ:je) (R:K2),a9 ps<=n->cb ps<=10000->(∀acc,G acc=none->R (.ref acc) (up G acc (.lst (ps.map λc=> .int (size c:Nat)))))->∀acc,G acc=none->Nv (cN ps) (λ_=>True) [none] 0 τ kj (gS (lY n) (aV (eV 0) cV)) R G acc:=λps τ R h1 h2 r acc hacc=>by
  refine Eh (λc=> .int (size c:Nat)) ?_ (λ_=>trivial) (λx ys R hx r=> ?_) (r acc hacc)
  ·have:=cK ps;ac_nf
  ·have:=fO hx
   have:=vP hx
   exact⟨x,rfl,by ac_nf,by ac_nf,r⟩
 have fin:∀(ps:List Pt) (acc:Addr),G acc=none->size p=1+cb ps->Ai [.ref acc] (up G acc (.lst (ps.map λc=> .int (size c:Nat)))) λy G2=>jd (.int 1) y G2 λp G'=>∃G0,GE G0 G'/\Q p G0:=λps acc hacc e=>by
  refine xz (ns:=ps.map λc=>((size c:Nat):Int)) (aO (by rw[af,bp];rfl)) ?_
  rw[sQ]
  refine kg ⟨G,GE.refl.new hacc,?_⟩
  rw[show(1:Int)+((cb ps:Nat):Int)=((size p:Nat):Int)by ac_nf]
  exact q
 have one:∀(p':Pt),cE p=[p']->lY n [il p'] G λy G2=>jd (.int 1) y G2 λp G'=>∃G0,GE G0 G'/\Q p G0:=λp' e=>by
  rw[e]at hdi hsi
  simp only[a9,cb]at hdi hsi
  refine⟨p',rfl,by ac_nf,by ac_nf,?_⟩
  refine kg ⟨G,GE.refl,?_⟩
  rw[show(1:Int)+((size p':Nat):Int)=((size p:Nat):Int)by ac_nf]
  exact q
 cases p with
 |row ps=>
  have hdi':depth (.row ps)=1+a9 ps:=hdi
  have hsi':size (.row ps)=1+cb ps:=hsi
  refine⟨cA,rfl,rfl,?_⟩
  exact key ps _ _ (by ac_nf) (by ac_nf) λacc hacc=>fin ps acc hacc hsi
 |pick ps=>
  have hdi':depth (.pick ps)=1+a9 ps:=hdi
  have hsi':size (.pick ps)=1+cb ps:=hsi
  refine⟨cA,rfl,rfl,?_⟩
  exact key ps _ _ (by ac_nf) (by ac_nf) λacc hacc=>fin ps acc hacc hsi
 |again p'=>exact⟨cA,rfl,rfl,cA,rfl,rfl,one p' rfl⟩
 |held m p'=>exact⟨cA,rfl,rfl,cA,rfl,rfl,one p' rfl⟩
 |price m p'=>exact⟨cA,rfl,rfl,cA,rfl,rfl,one p' rfl⟩
 |none=>exact⟨cA,rfl,rfl,cA,rfl,rfl,G,GE.refl,q⟩
 |blank=>exact⟨cA,rfl,rfl,cA,rfl,rfl,G,GE.refl,q⟩
 |sign s=>exact⟨cA,rfl,rfl,cA,rfl,rfl,G,GE.refl,q⟩
end
section
variable{P:aK}{w:aX}{K:PySem.W.Frag}{mg:Str->Option ae}{base:Heap}{f fn fp fs:Addr}{fd dn dp ds:a8}
noncomputable def xf(d:Int):Nat:=max 1 d.toNat
structure Wd(G:Gp)(a r:Addr)(z:Str)(m:Int):Prop where
 pl:Pool G a
 rm:G r=some (.lst [.int m])
 ne:a≠r
 z1:1<=z.length
 z5:z.length<=5
noncomputable def mY(n:Nat):hX:=λps G Q=>∃(a r:Addr) (z:Str) (d m:Int) (b:Bool),ps=[.ref a,.str z,.int d,.ref r,.bl b]/\Wd G a r z m/\(1<=d/\d<=n)/\d<=5/\m<=9/\
 ∀p (m':Int) G',m'<m->fQ p->Dm (bq m-bq m') p->(b=false->bN p=false)->depth p<=xf d->Wd G' a r z m'->Ch [a,r] G G'->Q (il p) G'
noncomputable def BW(n:Nat):hX:=λps G Q=>∃(a r:Addr) (z:Str) (d m:Int) (b:Bool),ps=[.ref a,.str z,.int d,.ref r,.bl b]/\Wd G a r z m/\(1<=d/\d<=n)/\d<=5/\m<=8/\
 ∀qs (m':Int) G',m'<m->Rw (bq m-bq m') qs->(b=false->iJ qs=false)->a9 qs<=xf d->Wd G' a r z m'->Ch [a,r] G G'->Q (.tup (cN qs)) G'
theorem B8:bv ["pool", "letters", "deep", "room", "blank", "size", "hard", "found", "k", "may"] ["pool", "letters", "deep", "room", "blank"] (aN Bp):=⟨rfl,rfl,rfl,by decide+kernel,rfl,by decide+kernel,by decide+kernel⟩
theorem FF{n k:Nat}(hk:8<=k)(F:Fun K "_law_some" "_law_some" Bp f fd)(B:BN mg)(CN:cq P w K mg base 1 "_law_next" fn dn ["pool", "base"] gI)(CS:cq P w K mg base 6 "_law_size" fs ds ["pattern"] (lY 5))(CP:cq P w K mg base k "_law_pattern" fp dp ["pool", "letters", "deep", "room", "blank"] (mY n)):
  iL P w K mg base (k+1) f fd ["pool", "letters", "deep", "room", "blank"] (BW n):=by
 have nd:=B8.nd
 have hUE:=pV.mk
 refine jX F B8 (λvs G Q h=> ?_) (λcdv A outer s H E as G Q hr h=> ?_)
 ·obtain⟨_,_,_,_,_,_,rfl,_⟩:=h
  rfl
 have hU:=eD hr
 apply jw
 case a=>symm
 obtain⟨a,r,z,d,m,b,rfl,wd,hdn,hd5,hm,q⟩:=h
 exists⟨a,2,rfl,wd.pl,by decide,by decide,λs0 G1 s1 s2 p1 c1=> ?_⟩
 exists kg ?_
 exists⟨a,2+s0,rfl,p1,by ac_nf,by ac_nf,λh0 G2 h1 h2 p2 c2=> ?_⟩
 exists⟨cA,λfu hfu=> ?_⟩
 have c02:Ch [a] G G2:=c1.trans c2
 have nfa:fu≠a:=fV p2 hfu
 have hfu0:G fu=none:=by
  cases ez:G fu with
  |none=>rfl
  |some o=>rw[c02 _ _ (by simpa using nfa) ez]at hfu;cases hfu
 have r2:G2 r=some (.lst [.int m]):=c02 _ _ (by simpa using wd.ne.symm) wd.rm
 have nfr:fu≠r:=λe=>by rw[e,r2]at hfu;cases hfu
 have cAR:Ch [a,r] G G2:=c02.mono (by simp)
 obtain⟨N,hN⟩:∃N:Nat,(N:Int)=2+s0:=⟨(2+s0).toNat,by ac_nf⟩
 obtain⟨hh,hhN⟩:∃hh:Nat,(hh:Int)=h0:=⟨h0.toNat,by ac_nf⟩
 have hhl:hh<N:=by ac_nf
 rw[<-hN,<-hhN]
 have fin:∀(qs:List Pt) (mi:Int) (G4:Gp) (τ:je),gt τ 7=some (.ref fu)->G4 fu=some (.lst (cN qs))->Rw (bq m-bq mi) qs->(b=false->iJ qs=false)->a9 qs<=xf d->Wd G4 a r z mi->mi<m->Ch [a,r] G G4->
   (pP (tJ lW (aV (eV 7) cV))) {nx:=λx G'=>∃G0,GE G0 G'/\Q PV.non G0,rt:=λp G'=>∃G0,GE G0 G'/\Q p G0} τ G4:=by
  intro qs mi G4 τ ht g4 rw4 b4 d4 w4 hmi c4
  left
  rw[ht]
  exists oj (aO g4) ?_
  exact⟨_,GE.refl,q qs mi G4 hmi rw4 b4 d4 w4 c4⟩
 exists⟨by ac_nf,by ac_nf,?_⟩
 rw[show((N:Int)).toNat=N by ac_nf]
 refine⟨λi τ G3=>∃(ks:List Nat) (qs:List Pt) (mi:Int) (t8 t9:Option PV),τ=[some (.ref a),some (.str z),some (.int d),some (.ref r),some (.bl b),some (.int (N:Int)),some (.int (hh:Int)),some (.ref fu),t8,t9]/\G3 fu=some (.lst (cN qs))/\qs.length=i/\Fam ks qs/\ks.sum+bq mi=bq m/\mi<=m/\(0<i->mi<m)/\a9 qs<=xf d/\(b=false->∀c,qs[hh]? =some c->bN c=false)/\Wd G3 a r z mi/\Ch [a,r] G G3,?_,?_,?_,?_⟩
 ·exact⟨[],[],m,none,none,rfl,af,rfl,.nil,by simp,Int.le_refl _,λh=>by ac_nf,bn _,λ_ c h=>by simp at h,⟨p2.new hfu,by rw[aE (aG nfr)];exact r2,wd.ne,wd.z1,wd.z5⟩,cAR.new hfu⟩
 ·intros;trivial
 ·rintro i x τ G3 hx ⟨ks,qs,mi,t8,t9,rfl,g3,hl,fam,hks,hmi,hmi2,hdq,hbq,w3,c3⟩
  obtain⟨hi,rfl⟩:=j8 hx
  have go:∀(may:Bool) (τ:je),τ=[some (.ref a),some (.str z),some (.int d),some (.ref r),some (.bl b),some (.int (N:Int)),some (.int (hh:Int)),some (.ref fu),some (.int (0+(i:Int))),some (.bl may)]->(b=false->i=hh->may=false)->∀D:D2,(∀τ G',(∃(ks:List Nat) (qs:List Pt) (mi:Int) (t8 t9:Option PV),τ=[some (.ref a),some (.str z),some (.int d),some (.ref r),some (.bl b),some (.int (N:Int)),some (.int (hh:Int)),some (.ref fu),t8,t9]/\G' fu=some (.lst (cN qs))/\qs.length=i+1/\Fam ks qs/\ks.sum+bq mi=bq m/\mi<=m/\(0<i+1->mi<m)/\a9 qs<=xf d/\(b=false->∀c,qs[hh]? =some c->bN c=false)/\Wd G' a r z mi/\Ch [a,r] G G')->D.nx τ G')->
    (qV (uY kf (eV 7) (aV (gS (mY n) (aV (eV 0) (aV (eV 1) (aV (eV 2) (aV (eV 3) (aV (eV 9) cV)))))) cV))) D τ G3:=by
   intro may τ hτ hmay D hD
   subst hτ
   exists⟨⟨_,g3⟩,?_⟩
   exists⟨a,r,z,d,mi,may,rfl,w3,hdn,hd5,by ac_nf,λp m' G4 hm' okp dmp hbp dp w4 c4=> ?_⟩
   left
   have g4:G4 fu=some (.lst (cN qs)):=c4 _ _ (by simp[nfa,nfr]) g3
   have hl6:(cN qs).length<=3:=by rw[cy];ac_nf
   refine fJ g4 (by ac_nf) (hD _ _ ⟨ks++[bq mi-bq m'],qs++[p],m',_,_,rfl,?_,by simp[hl],fam.snoc dmp okp,?_,by ac_nf,λ_=>by ac_nf,?_,λhb c hc=> ?_,?_,?_⟩)
   ·rw[af,iI];rfl
   ·have:bq m'<=bq mi:=by unfold bq;ac_nf
    simp only[List.sum_append,ba,dN]
    ac_nf
   ·rw[lJ]
    simp only[a9]
    ac_nf
   ·by_cases e:hh=i
    ·have:(qs++[p])[hh]? =some p:=by rw[e,<-hl];simp
     rw[this]at hc;cases hc
     exact hbp (hmay hb e.symm)
    ·by_cases e2:hh<qs.length
     ·rw[bT e2]at hc
      exact hbq hb c hc
     ·rw[cQ (by simp;ac_nf)]at hc;cases hc
   ·exact⟨w4.pl.ne nfa,by rw[aE (aG nfr)];exact w4.rm,wd.ne,wd.z1,wd.z5⟩
   ·exact(c3.trans c4).mod' hfu0
  left
  cases hb:b with
  |true=>
   refine go true _ (by rw[hb]) (λh=>by rw[hb]at h;cases h) _ (λτ G' h=> ?_)
   rw[hb]at h
   exact h
  |false=>
   refine lw rfl ?_
   exists L7 rfl rfl ?_
   exists go _ _ (by rw[hb]) (λ_ e=> ?_) _ (λτ G' h=> ?_)
   ·subst e
    simp[mh]
   ·rw[hb]at h
    exact h
 ·rintro τ G3 ⟨ks,qs,mi,t8,t9,rfl,g3,hl,fam,hks,hmi,hmi2,hdq,hbq,w3,c3⟩
  rw[iH]at hl hmi2
  left
  have hmi3:mi<m:=hmi2 (by ac_nf)
  have hbm:bq m<=4:=by unfold bq;ac_nf
  obtain⟨cc,hcc⟩:∃cc,qs[hh]? =some cc:=⟨_,ak (by ac_nf)⟩
  have hdcc:depth cc<=a9 qs:=fO (ax hcc)
  have dm5:xf d<=5:=by unfold xf;ac_nf
  refine⟨a,3,rfl,w3.pl,by decide,by decide,λn3 G5 n30 n33 p5 c5=> ?_⟩
  have g5:G5 fu=some (.lst (cN qs)):=c5 _ _ (by simpa using nfa) g3
  have w5:Wd G5 a r z mi:=⟨p5,c5 _ _ (by simpa using wd.ne.symm) w3.rm,wd.ne,wd.z1,wd.z5⟩
  have c35:Ch [a,r] G G5:=c3.trans (c5.mono (by simp))
  have plain:Rw (bq m-bq mi) qs:=by
   rcases(show N=2\/N=3 by ac_nf)with e|e
   ·obtain⟨a1,b1,x,y,rfl,rfl,hx,hy⟩:=fam.two (by ac_nf)
    simp only[ba,dN]at hks
    exact(Rw.two hx.1 hy.1 hx.2 hy.2 (by ac_nf)).mono (by ac_nf) (by ac_nf)
   ·obtain⟨a1,b1,c1,x,y,zz,rfl,rfl,hx,hy,hz⟩:=fam.three (by ac_nf)
    simp only[ba,dN]at hks
    exact(Rw.three hx.1 hy.1 hz.1 hx.2 hy.2 hz.2 (by ac_nf)).mono (by ac_nf) (by ac_nf)
  have plainB:b=false->iJ qs=false:=λhb=>by
   cases e:iJ qs with
   |false=>rfl
   |true=>rw[<-hbq hb cc hcc,zW hcc e]
  have fin2:=λqs' G4=>fin qs' mi G4 [some (.ref a),some (.str z),some (.int d),some (.ref r),some (.bl b),some (.int (N:Int)),some (.int (hh:Int)),some (.ref fu),t8,t9] rfl
  exists fz rfl rfl ?_
  exists sr (λ_=> ?_) (λ_=> ?_)
  ·left
   refine cj (aO g5) (bI (iV hcc)) ?_
   left
   have okcc:fQ cc:=ja plain.ok.2.2 cc (ax hcc)
   have szc:size cc<=10000:=by
    have h1:=jb cc okcc
    have h2:4^depth cc<=4^5:=bV (by ac_nf) (by ac_nf)
    ac_nf
   refine⟨cc,rfl,by ac_nf,szc,?_⟩
   exists sr (λhs=> ?_) (λ_=> ?_)
   ·have hs4:size cc<4:=by have h1:((size cc:Nat):Int)<4:=of_decide_eq_true hs;ac_nf
    exists cj (aO g5) (bI (iV hcc)) ?_
    left
    have wU:∀qs',Wd (up G5 fu (.lst (cN qs'))) a r z mi:=λqs'=>⟨w5.pl.ne nfa,by rw[aE (aG nfr)];exact w5.rm,wd.ne,wd.z1,wd.z5⟩
    rcases(show N=2\/N=3 by ac_nf)with e|e
    ·obtain⟨a1,b1,x,y,rfl,rfl,hx,hy⟩:=fam.two (by ac_nf)
     simp only[ba,dN]at hks
     simp only[a9]at hdq
     rcases(show hh=0\/hh=1 by ac_nf)with rfl|rfl
     ·obtain rfl:x=cc:=by simpa using hcc
      refine gJ (j:=1) g5 (by rfl) ?_
      exact fin2 [x,x] _ af ((Rw.twins hx.1 hx.2 hs4 (by ac_nf)).mono (by ac_nf) (by ac_nf)) (λhb=>by simp[iJ,hbq hb x rfl]) (by simp only[a9];ac_nf) (wU [x,x]) hmi3 (c35.mod' hfu0)
     ·obtain rfl:y=cc:=by simpa using hcc
      refine gJ (j:=0) g5 (by rfl) ?_
      exact fin2 [y,y] _ af ((Rw.twins hy.1 hy.2 hs4 (by ac_nf)).mono (by ac_nf) (by ac_nf)) (λhb=>by simp[iJ,hbq hb y rfl]) (by simp only[a9];ac_nf) (wU [y,y]) hmi3 (c35.mod' hfu0)
    ·obtain⟨a1,b1,c1,x,y,zz,rfl,rfl,hx,hy,hz⟩:=fam.three (by ac_nf)
     simp only[ba,dN]at hks
     simp only[a9]at hdq
     rcases(show hh=0\/hh=1\/hh=2 by ac_nf)with rfl|rfl|rfl
     ·obtain rfl:x=cc:=by simpa using hcc
      refine gJ (j:=2) g5 (by rfl) ?_
      exact fin2 [x,y,x] _ af ((Rw.d1 hy.1 hx.1 hy.2 hx.2 hs4 (by ac_nf)).mono (by ac_nf) (by ac_nf)) (λhb=>by simp[iJ,hbq hb x rfl]) (by simp only[a9];ac_nf) (wU [x,y,x]) hmi3 (c35.mod' hfu0)
     ·obtain rfl:y=cc:=by simpa using hcc
      refine gJ (j:=0) g5 (by rfl) ?_
      exact fin2 [y,y,zz] _ af ((Rw.d2 hz.1 hy.1 hz.2 hy.2 hs4 (by ac_nf)).mono (by ac_nf) (by ac_nf)) (λhb=>by simp[iJ,hbq hb y rfl]) (by simp only[a9];ac_nf) (wU [y,y,zz]) hmi3 (c35.mod' hfu0)
     ·obtain rfl:zz=cc:=by simpa using hcc
      refine gJ (j:=1) g5 (by rfl) ?_
      exact fin2 [x,zz,zz] _ af ((Rw.d0 hx.1 hz.1 hx.2 hz.2 hs4 (by ac_nf)).mono (by ac_nf) (by ac_nf)) (λhb=>by simp[iJ,hbq hb zz rfl]) (by simp only[a9];ac_nf) (wU [x,zz,zz]) hmi3 (c35.mod' hfu0)
   ·exact fin2 qs _ g5 plain plainB hdq w5 hmi3 c35
  ·exact fin2 qs _ g5 plain plainB hdq w5 hmi3 c35
end
section
variable{P:aK}{w:aX}{K:PySem.W.Frag}{mg:Str->Option ae}{base:Heap}{f fn fp fs:Addr}{fd dn dp ds:a8}
noncomputable def BY(n:Nat):hX:=λps G Q=>∃(a r:Addr) (z:Str) (d m:Int) (b:Bool),ps=[.ref a,.str z,.int d,.ref r,.bl b]/\Wd G a r z m/\(1<=d/\d<=n)/\d<=5/\m<=8/\
 ∀qs (m':Int) G',m'<m->Pk (bq m-bq m') qs->(b=false->jk qs=false)->a9 qs<=xf d->Wd G' a r z m'->Ch [a,r] G G'->Q (.tup (cN qs)) G'
theorem Ce:bv ["pool", "letters", "deep", "room", "blank", "found", "k"] ["pool", "letters", "deep", "room", "blank"] (aN Bt):=⟨rfl,rfl,rfl,by decide+kernel,rfl,by decide+kernel,by decide+kernel⟩
theorem FM{n k:Nat}(hk:8<=k)(F:Fun K "_law_hard" "_law_hard" Bt f fd)(B:BN mg)(CN:cq P w K mg base 1 "_law_next" fn dn ["pool", "base"] gI)(CS:cq P w K mg base 6 "_law_size" fs ds ["pattern"] (lY 5))(CP:cq P w K mg base k "_law_pattern" fp dp ["pool", "letters", "deep", "room", "blank"] (mY n)):
  iL P w K mg base (k+1) f fd ["pool", "letters", "deep", "room", "blank"] (BY n):=by
 have nd:=Ce.nd
 have hUE:=pV.mk
 refine jX F Ce (λvs G Q h=> ?_) (λcdv A outer s H E as G Q hr h=> ?_)
 ·obtain⟨_,_,_,_,_,_,rfl,_⟩:=h
  rfl
 have hU:=eD hr
 apply jw
 case a=>symm
 obtain⟨a,r,z,d,m,b,rfl,wd,hdn,hd5,hm,q⟩:=h
 exists⟨cA,λfu hfu=> ?_⟩
 have nfa:fu≠a:=fV wd.pl hfu
 have nfr:fu≠r:=λe=>by rw[e,wd.rm]at hfu;cases hfu
 exists⟨a,2,rfl,wd.pl.new hfu,by decide,by decide,λs0 G1 s1 s2 p1 c1=> ?_⟩
 exists kg ?_
 left
 obtain⟨N,hN⟩:∃N:Nat,(N:Int)=2+s0:=⟨(2+s0).toNat,by ac_nf⟩
 rw[<-hN]
 have cAR:Ch [a,r] G G1:=(Ch.refl.new hfu).trans (c1.mono (by simp))
 have fin:∀(qs:List Pt) (mi:Int) (G4:Gp) (τ:je),gt τ 5=some (.ref fu)->G4 fu=some (.lst (cN qs))->Pk (bq m-bq mi) qs->(b=false->jk qs=false)->a9 qs<=xf d->Wd G4 a r z mi->mi<m->Ch [a,r] G G4->
   (pP (tJ lW (aV (eV 5) cV))) {nx:=λx G'=>∃G0,GE G0 G'/\Q PV.non G0,rt:=λp G'=>∃G0,GE G0 G'/\Q p G0} τ G4:=by
  intro qs mi G4 τ ht g4 rw4 b4 d4 w4 hmi c4
  left
  rw[ht]
  exists oj (aO g4) ?_
  exact⟨_,GE.refl,q qs mi G4 hmi rw4 b4 d4 w4 c4⟩
 refine⟨by ac_nf,by ac_nf,?_⟩
 rw[show((N:Int)).toNat=N by ac_nf]
 refine⟨λi τ G3=>∃(ks:List Nat) (qs:List Pt) (mi:Int) (t6:Option PV),τ=[some (.ref a),some (.str z),some (.int d),some (.ref r),some (.bl b),some (.ref fu),t6]/\G3 fu=some (.lst (cN qs))/\qs.length=i/\Fam ks qs/\ks.sum+bq mi=bq m/\mi<=m/\(0<i->mi<m)/\a9 qs<=xf d/\(b=false->jk qs=false)/\Wd G3 a r z mi/\Ch [a,r] G G3,?_,?_,?_,?_⟩
 ·exact⟨[],[],m,none,rfl,c1 _ _ (by simpa using nfa) af,rfl,.nil,by simp,Int.le_refl _,λh=>by ac_nf,bn _,λ_=>rfl,⟨p1,c1 _ _ (by simpa using wd.ne.symm) (by rw[aE (aG nfr)];exact wd.rm),wd.ne,wd.z1,wd.z5⟩,cAR⟩
 ·intros;trivial
 ·rintro i x τ G3 hx ⟨ks,qs,mi,t6,rfl,g3,hl,fam,hks,hmi,hmi2,hdq,hbq,w3,c3⟩
  obtain⟨hi,rfl⟩:=j8 hx
  exists⟨⟨_,g3⟩,?_⟩
  exists⟨a,r,z,d,mi,b,rfl,w3,hdn,hd5,by ac_nf,λp m' G4 hm' okp dmp hbp dp w4 c4=> ?_⟩
  left
  have g4:G4 fu=some (.lst (cN qs)):=c4 _ _ (by simp[nfa,nfr]) g3
  have hl6:(cN qs).length<=3:=by rw[cy];ac_nf
  refine fJ g4 (by ac_nf) ⟨ks++[bq mi-bq m'],qs++[p],m',_,rfl,?_,by simp[hl],fam.snoc dmp okp,?_,by ac_nf,λ_=>by ac_nf,?_,λhb=> ?_,?_,?_⟩
  ·rw[af,iI];rfl
  ·have:bq m'<=bq mi:=by unfold bq;ac_nf
   simp only[List.sum_append,ba,dN]
   ac_nf
  ·rw[lJ]
   simp only[a9]
   ac_nf
  ·rw[wW,hbq hb]
   simp[jk,hbp hb]
  ·exact⟨w4.pl.ne nfa,by rw[aE (aG nfr)];exact w4.rm,wd.ne,wd.z1,wd.z5⟩
  ·exact(c3.trans c4).mod' hfu
 ·rintro τ G3 ⟨ks,qs,mi,t6,rfl,g3,hl,fam,hks,hmi,hmi2,hdq,hbq,w3,c3⟩
  rw[iH]at hl hmi2
  have hmi3:mi<m:=hmi2 (by ac_nf)
  have hbm:bq m<=4:=by unfold bq;ac_nf
  obtain⟨cc,hcc⟩:∃cc,qs[0]? =some cc:=⟨_,ak (by ac_nf)⟩
  have hdcc:depth cc<=a9 qs:=fO (ax hcc)
  have dm5:xf d<=5:=by unfold xf;ac_nf
  exists⟨a,3,rfl,w3.pl,by decide,by decide,λn3 G5 n30 n33 p5 c5=> ?_⟩
  have g5:G5 fu=some (.lst (cN qs)):=c5 _ _ (by simpa using nfa) g3
  have w5:Wd G5 a r z mi:=⟨p5,c5 _ _ (by simpa using wd.ne.symm) w3.rm,wd.ne,wd.z1,wd.z5⟩
  have c35:Ch [a,r] G G5:=c3.trans (c5.mono (by simp))
  have plain:Pk (bq m-bq mi) qs:=by
   rcases(show N=2\/N=3 by ac_nf)with e|e
   ·obtain⟨a1,b1,x,y,rfl,rfl,hx,hy⟩:=fam.two (by ac_nf)
    simp only[ba,dN]at hks
    exact(Pk.two hx.1 hy.1 hx.2 hy.2 (by ac_nf)).mono (by ac_nf) (by ac_nf)
   ·obtain⟨a1,b1,c1,x,y,zz,rfl,rfl,hx,hy,hz⟩:=fam.three (by ac_nf)
    simp only[ba,dN]at hks
    exact(Pk.three hx.1 hy.1 hz.1 hx.2 hy.2 hz.2 (by ac_nf)).mono (by ac_nf) (by ac_nf)
  have fin2:=λqs' G4=>fin qs' mi G4 [some (.ref a),some (.str z),some (.int d),some (.ref r),some (.bl b),some (.ref fu),t6] rfl
  exists fz rfl rfl ?_
  exists sr (λ_=> ?_) (λ_=> ?_)
  ·left
   refine cj (i:=0) (aO g5) (bI (j:=0) (iV hcc)) ?_
   left
   have okcc:fQ cc:=ja plain.ok.2.2 cc (ax hcc)
   have szc:size cc<=10000:=by
    have h1:=jb cc okcc
    have h2:4^depth cc<=4^5:=bV (by ac_nf) (by ac_nf)
    ac_nf
   refine⟨cc,rfl,by ac_nf,szc,?_⟩
   exists sr (λhs=> ?_) (λ_=> ?_)
   ·have hs4:size cc<4:=by have h1:((size cc:Nat):Int)<4:=of_decide_eq_true hs;ac_nf
    exists cj (i:=0) (aO g5) (bI (j:=0) (iV hcc)) ?_
    left
    have wU:∀qs',Wd (up G5 fu (.lst (cN qs'))) a r z mi:=λqs'=>⟨w5.pl.ne nfa,by rw[aE (aG nfr)];exact w5.rm,wd.ne,wd.z1,wd.z5⟩
    rcases(show N=2\/N=3 by ac_nf)with e|e
    ·obtain⟨a1,b1,x,y,rfl,rfl,hx,hy⟩:=fam.two (by ac_nf)
     simp only[ba,dN]at hks
     simp only[a9]at hdq
     obtain rfl:x=cc:=by simpa using hcc
     refine gJ (j:=1) g5 (by rfl) ?_
     exact fin2 [x,x] _ af ((Pk.twins hx.1 hx.2 hs4 (by ac_nf)).mono (by ac_nf) (by ac_nf)) (λhb=>by have:=hbq hb;simp[jk]at this⊢;exact this.1) (by simp only[a9];ac_nf) (wU [x,x]) hmi3 (c35.mod' hfu)
    ·obtain⟨a1,b1,c1,x,y,zz,rfl,rfl,hx,hy,hz⟩:=fam.three (by ac_nf)
     simp only[ba,dN]at hks
     simp only[a9]at hdq
     obtain rfl:x=cc:=by simpa using hcc
     refine gJ (j:=2) g5 (by rfl) ?_
     exact fin2 [x,y,x] _ af ((Pk.d1 hy.1 hx.1 hy.2 hx.2 hs4 (by ac_nf)).mono (by ac_nf) (by ac_nf)) (λhb=>by have:=hbq hb;simp[jk]at this⊢;exact⟨this.1,this.2.1,this.1⟩) (by simp only[a9];ac_nf) (wU [x,y,x]) hmi3 (c35.mod' hfu)
   ·exact fin2 qs _ g5 plain hbq hdq w5 hmi3 c35
  ·exact fin2 qs _ g5 plain hbq hdq w5 hmi3 c35
end
theorem IQ{x:PV}(h:x∈[PV.int 0,.int 1,.int 2,.int 3,.int 1000]):∃i:Int,x= .int i:=by
 simp only[aI,bF,or_false]at h
 rcases h with rfl|rfl|rfl|rfl|rfl<;>exact⟨_,rfl⟩
theorem Ky{x:PV}(h:x∈[PV.str (aD "x"),.str (aD "yy"),.str (aD "left"),.str (aD "pick"),.str (aD "none")]):∃s:Str,x= .str s/\s.length<=8:=by
 simp only[aI,bF,or_false]at h
 rcases h with rfl|rfl|rfl|rfl|rfl<;>exact⟨_,rfl,by decide⟩
section
variable{P:aK}{w:aX}{K:PySem.W.Frag}{mg:Str->Option ae}{base:Heap}{f fn fi ft fp fs:Addr}{fd dn di dt da dp ds:a8}
theorem sR:bv ["pool", "letters", "deep", "room", "blank", "way", "part"] ["pool", "letters", "deep", "room", "blank"] (aN qx):=⟨rfl,rfl,rfl,by decide+kernel,rfl,by decide+kernel,by decide+kernel⟩
theorem xO{n k:Nat}(hk:8<=k)(F:Fun K "_law_pattern" "_law_pattern" qx f fd)(B:BN mg)(CN:cq P w K mg base 1 "_law_next" fn dn ["pool", "base"] gI)(CG:cq P w K mg base 2 "_law_signs" fs ds ["pool", "letters"] mX)
  (CS:cq P w K mg base (k+1) "_law_some" fi di ["pool", "letters", "deep", "room", "blank"] (BW n)) (CH:cq P w K mg base (k+1) "_law_hard" ft dt ["pool", "letters", "deep", "room", "blank"] (BY n)) (CP:cq P w K mg base k "_law_pattern" fp dp ["pool", "letters", "deep", "room", "blank"] (mY n)):
  iL P w K mg base (k+2) f fd ["pool", "letters", "deep", "room", "blank"] (mY (n+1)):=by
 have nd:=sR.nd
 have hUE:=pV.mk
 refine jX F sR (λvs G Q h=> ?_) (λcdv A outer s H E as G Q hr h=> ?_)
 ·obtain⟨_,_,_,_,_,_,rfl,_⟩:=h
  rfl
 have hU:=eD hr
 apply jw
 case a=>symm
 obtain⟨a,r,z,d,m,b,rfl,wd,hdn,hd5,hm,q⟩:=h
 exists⟨a,13,rfl,wd.pl,by decide,by decide,λw0 G1 w1 w2 p1 c1=> ?_⟩
 left
 have r1:G1 r=some (.lst [.int m]):=c1 _ _ (by simpa using wd.ne.symm) wd.rm
 refine cj (i:=0) (aO r1) rfl ?_
 exists gJ (k:=0) r1 rfl ?_
 have wd2:Wd (up G1 r (.lst [.int (m-1)])) a r z (m-1):=⟨p1.ne wd.ne.symm,af,wd.ne,wd.z1,wd.z5⟩
 have c2:Ch [a,r] G (up G1 r (.lst [.int (m-1)])):=(c1.mono (by simp)).put (by simp)
 change (λG=>_) (up G1 r (.lst [.int (m-1)]))
 generalize up G1 r (.lst [.int (m-1)])=G2 at wd2 c2⊢
 have hq1:bq (m-1)<=bq m:=by unfold bq;ac_nf
 have hq5:bq m<=5:=by unfold bq;ac_nf
 have leaf:∀D:D2,D.rt=(λp G'=>∃G0,GE G0 G'/\Q p G0)->(oH (NE (Hu (yV (iT OH (eV 5) (eC (PV.int 10)))) (yV (eV 4))) (pP (iT rC (D9 (aV (jT (aV (eC (PV.str (aD "blank"))) cV)) (aV (jT (aV (eC (PV.str (aD "none"))) cV)) cV))) (iT DY (gS gI (aV (eV 0) (aV (eC (PV.int 8)) cV))) (eC (PV.int 7))))) vY) (pP (gS mX (aV (eV 0) (aV (eV 1) cV))))) D [some (.ref a),some (.str z),some (.int d),some (.ref r),some (.bl b),some (.int w0),none] G2:=by
  intro D hD
  have tell:∀p G',fQ p->Dm 0 p->(b=false->bN p=false)->depth p<=1->Pool G' a->Ch [a] G2 G'->D.rt (il p) G':=λp G' ok dm hb hd pl ch=>by
   rw[hD]
   exact⟨_,GE.refl,q p (m-1) G' (by ac_nf) ok (dm.mono (by ac_nf) (by ac_nf)) hb (by unfold xf;ac_nf) ⟨pl,ch _ _ (by simpa using wd.ne.symm) wd2.rm,wd.ne,wd.z1,wd.z5⟩ (c2.trans (ch.mono (by simp)))⟩
  have sg:mX [.ref a,.str z] G2 D.rt:=⟨a,z,rfl,wd2.pl,wd.z1,wd.z5,λs G' h1 h5 pl ch=>tell (.sign s) G' ⟨h1,h5⟩ Dm.sign (λ_=>rfl) (am _) pl ch⟩
  exists sr (λ_=> ?_) (λ_=>sg)
  left
  cases hb:b with
  |false=>exact sg
  |true=>
   refine ia rfl ?_
   exists⟨cA,cA,cA,λl hl=> ?_⟩
   have nla:l≠a:=fV wd2.pl hl
   exists⟨a,8,rfl,wd2.pl.new hl,by decide,by decide,λn8 G3 n0 n1 p3 c3=> ?_⟩
   exists⟨⟨by decide,by decide⟩,?_⟩
   left
   have g3:G3 l=some (.lst [il .blank,il .none]):=c3 _ _ (by simpa using nla) af
   have ch:Ch [a] G2 G3:=(Ch.refl.new hl).trans c3
   rcases(show n8/7=0\/n8/7=1 by ac_nf)with e|e
   ·show rC (.ref l) (.int (n8/7)) G3 D.rt
    rw[e]
    refine cj (i:=0) (aO g3) rfl ?_
    exact tell .blank G3 trivial Dm.blank (λh=>by rw[hb]at h;cases h) (am _) p3 ch
   ·show rC (.ref l) (.int (n8/7)) G3 D.rt
    rw[e]
    refine cj (i:=1) (aO g3) rfl ?_
    exact tell .none G3 trivial Dm.none (λ_=>rfl) (am _) p3 ch
 exists sr (λ_=>leaf _ rfl) (λhd2=> ?_)
 have hd2':¬d<2:=of_decide_eq_false hd2
 exists cj (i:=0) (aO wd2.rm) rfl ?_
 exists sr (λ_=>leaf _ rfl) (λhm4=> ?_)
 have hm4':¬m-1<4:=of_decide_eq_false hm4
 exists sr (λ_=>leaf _ rfl) (λ_=> ?_)
 have bqm:∀m':Int,m'<m-1->bq m-bq m'=bq (m-1)-bq m'+1/\bq (m-1)-bq m'<=4:=λm' h=>by unfold bq;ac_nf
 have dpm:1+xf (d-1)<=xf d:=by unfold xf;ac_nf
 exists sr (λ_=> ?_) (λ_=> ?_)
 ·left
  refine⟨a,r,z,d-1,m-1,b,rfl,wd2,by ac_nf,by ac_nf,by ac_nf,λqs m' G3 hm' rw3 hb3 hd3 w3 c3=> ?_⟩
  obtain⟨e1,e2⟩:=bqm m' hm'
  refine⟨cA,_,GE.refl,q (.row qs) m' G3 (by ac_nf) rw3.ok (by rw[e1];exact rw3.dm) (λhb=>by simpa [bN]using hb3 hb) (by simp only[depth];ac_nf) w3 (c2.trans c3)⟩
 exists sr (λ_=> ?_) (λ_=> ?_)
 ·left
  refine⟨a,r,z,d-1,m-1,b,rfl,wd2,by ac_nf,by ac_nf,by ac_nf,λqs m' G3 hm' rw3 hb3 hd3 w3 c3=> ?_⟩
  obtain⟨e1,e2⟩:=bqm m' hm'
  refine⟨cA,_,GE.refl,q (.pick qs) m' G3 (by ac_nf) rw3.ok (by rw[e1];exact rw3.dm) (λhb=>by simpa [bN]using hb3 hb) (by simp only[depth];ac_nf) w3 (c2.trans c3)⟩
 left
 have tail:∀D:D2,D.rt=(λp G'=>∃G0,GE G0 G'/\Q p G0)->(oH (oI (gS (mY n) (aV (eV 0) (aV (eV 1) (aV (iT Io (eV 2) (eC (PV.int 1))) (aV (eV 3) (aV (eV 4) cV)))))) (gN 6)) (oH (NE (yV (iT GY (eV 5) (eC (PV.int 12)))) (pP (jT (aV (eC (PV.str (aD "price"))) (aV (iT rC (D9 (aV (eC (PV.int 0)) (aV (eC (PV.int 1)) (aV (eC (PV.int 2)) (aV (eC (PV.int 3)) (aV (eC (PV.int 1000)) cV)))))) (gS gI (aV (eV 0) (aV (eC (PV.int 5)) cV)))) (aV (eV 6) cV))))) vY)
   (pP (jT (aV (eC (PV.str (aD "held"))) (aV (iT rC (D9 (aV (eC (PV.str (aD "x"))) (aV (eC (PV.str (aD "yy"))) (aV (eC (PV.str (aD "left"))) (aV (eC (PV.str (aD "pick"))) (aV (eC (PV.str (aD "none"))) cV)))))) (gS gI (aV (eV 0) (aV (eC (PV.int 5)) cV)))) (aV (eV 6) cV))))))) D [some (.ref a),some (.str z),some (.int d),some (.ref r),some (.bl b),some (.int w0),none] G2:=by
  intro D hD
  exists⟨a,r,z,d-1,m-1,b,rfl,wd2,by ac_nf,by ac_nf,by ac_nf,λp m' G3 hm' okp dmp hbp dp w3 c3=> ?_⟩
  obtain⟨e1,e2⟩:=bqm m' hm'
  have tell:∀pp G',fQ pp->Dm (bq (m-1)-bq m'+1) pp->bN pp=bN p->depth pp=1+depth p->Pool G' a->Ch [a] G3 G'->D.rt (il pp) G':=λpp G' ok dm hb hd pl ch=>by
   rw[hD]
   exact⟨_,GE.refl,q pp m' G' (by ac_nf) ok (by rw[e1];exact dm) (λh=>by rw[hb];exact hbp h) (by ac_nf) ⟨pl,ch _ _ (by simpa using wd.ne.symm) w3.rm,wd.ne,wd.z1,wd.z5⟩ ((c2.trans c3).trans (ch.mono (by simp)))⟩
  exists fz rfl rfl ?_
  exists sr (λ_=> ?_) (λ_=> ?_)
  ·left
   refine⟨cA,λl hl=> ?_⟩
   have nla:l≠a:=fV w3.pl hl
   exists⟨a,5,rfl,w3.pl.new hl,by decide,by decide,λn5 G4 n0 n1 p4 c4=> ?_⟩
   have g4:G4 l=some (.lst [.int 0,.int 1,.int 2,.int 3,.int 1000]):=c4 _ _ (by simpa using nla) af
   obtain⟨x,ex,mx⟩:=mr (xs:=[PV.int 0,.int 1,.int 2,.int 3,.int 1000]) n0 n1
   obtain⟨pi,rfl⟩:=IQ mx
   exists cj (aO g4) ex ?_
   refine⟨cA,tell (.price pi p) G4 okp (dmp.price (by ac_nf)) rfl rfl p4 ((Ch.refl.new hl).trans c4)⟩
  ·left
   refine⟨cA,λl hl=> ?_⟩
   have nla:l≠a:=fV w3.pl hl
   exists⟨a,5,rfl,w3.pl.new hl,by decide,by decide,λn5 G4 n0 n1 p4 c4=> ?_⟩
   have g4:G4 l=some (.lst [.str (aD "x"),.str (aD "yy"),.str (aD "left"),.str (aD "pick"),.str (aD "none")]):=c4 _ _ (by simpa using nla) af
   obtain⟨x,ex,mx⟩:=mr (xs:=[PV.str (aD "x"),.str (aD "yy"),.str (aD "left"),.str (aD "pick"),.str (aD "none")]) n0 n1
   obtain⟨si,rfl,hs8⟩:=Ky mx
   exists cj (aO g4) ex ?_
   refine⟨cA,tell (.held si p) G4 ⟨hs8,okp⟩ (dmp.held (by ac_nf)) rfl rfl p4 ((Ch.refl.new hl).trans c4)⟩
 refine sr (λ_=> ?_) (λ_=>tail _ rfl)
 left
 cases hb:b with
 |false=>
  rw[hb]at tail
  exact tail _ rfl
 |true=>
  refine ia rfl ?_
  exists⟨a,r,z,d-1,m-1,false,rfl,wd2,by ac_nf,by ac_nf,by ac_nf,λp m' G3 hm' okp dmp hbp dp w3 c3=> ?_⟩
  obtain⟨e1,e2⟩:=bqm m' hm'
  have hc:=hbp rfl
  have da:Dm (bq (m-1)-bq m'+1) (.again p):=dmp.again hc (by ac_nf)
  refine⟨cA,_,GE.refl,q (.again p) m' G3 (by ac_nf) ⟨hc,fT da,okp⟩ (by rw[e1];exact da) (λh=>by rw[hb]at h;cases h) (by simp only[depth];ac_nf) w3 (c2.trans c3)⟩
end
noncomputable abbrev ua:Stmt:=top 32
section
variable{P:aK}{w:aX}{K:PySem.W.Frag}{mg:Str->Option ae}{base:Heap}{f fn fp:Addr}{fd dn dp:a8}
theorem zi:bv ["pool", "pattern", "room", "some", "turn"] ["pool", "pattern", "room"] (aN ua):=⟨rfl,rfl,rfl,by decide+kernel,rfl,by decide+kernel,by decide+kernel⟩
theorem Hg:dE (aN ua) ["pool", "pattern", "room", "some", "turn"] (gn [(".0",.local),("part",.local),("_law_grown",.globalImplicit),("pool",.free),("room",.free)]) ["part", "pool", "room"] [none,some 0,some 2] 0 "part" =true:=by decide+kernel
theorem AN(zs:List Str):(g9 (aD "") zs).length=(zs.map (·.length)).sum:=by
 have h:=congrArg ib (oZ zs)
 rw[br,List.length_flatten,bp]at h
 exact h
theorem x8{xs:List PV}{G:Gp}{Q:K2}(q:Q (.int xs.length) G):jj [.tup xs] G Q:=q
noncomputable def Gw(b:Nat)(v:PV):Prop:=v= .non\/∃s,v= .str s/\s.length<=b
theorem Gw.mono{b c:Nat}{v:PV}(h:Gw b v)(hbc:b<=c):Gw c v:=by
 rcases h with h|⟨s,h,hl⟩
 ·exact .inl h
 ·exact .inr ⟨s,h,by ac_nf⟩
theorem zQ:∀{ys:List PV} {b:Nat},(∀y∈ys,Gw b y)->dI 100 ys=true
 |[],_,_=>rfl
 |y::ys,b,h=>by
  unfold dI
  rw[zQ (ys:=ys) λz hz=>h z (by simp[hz]),Bool.and_true]
  rcases h y (by simp)with rfl|⟨s,rfl,_⟩<;>rfl
theorem zP:∀{ys:List PV} {b:Nat},(∀y∈ys,Gw b y)->(ys.any λy=>mh y .non)=false->∃zs:List Str,ys=zs.map PV.str/\(zs.map (·.length)).sum<=ys.length*b
 |[],b,_,_=>⟨[],rfl,by simp⟩
 |y::ys,b,h,e=>by
  rw[cT,Bool.or_eq_false_iff]at e
  obtain⟨zs,rfl,hz⟩:=zP (ys:=ys) (λz hz=>h z (by simp[hz])) e.2
  rcases h y (by simp)with rfl|⟨s,rfl,hl⟩
  ·exact absurd e.1 (by decide)
  ·refine⟨s::zs,rfl,?_⟩
   rw[aw,ba,aM,Nat.add_mul]
   ac_nf
noncomputable def m5(n:Nat):hX:=λps G Q=>∃(a r:Addr) (p:Pt) (m:Int),ps=[.ref a,il p,.ref r]/\Pool G a/\G r=some (.lst [.int m])/\a≠r/\fQ p/\depth p<=n/\depth p<=5/\
 ∀v (m':Int) G',Gw (3^depth p) v->Pool G' a->G' r=some (.lst [.int m'])->Ch [a,r] G G'->Q v G'
theorem Di{n k:Nat}(hk:2<=k)(F:Fun K "_law_grown" "_law_grown" ua f fd)(B:BN mg)(CN:cq P w K mg base 1 "_law_next" fn dn ["pool", "base"] gI)(CP:cq P w K mg base k "_law_grown" fp dp ["pool", "pattern", "room"] (m5 n)):
  iL P w K mg base (k+1) f fd ["pool", "pattern", "room"] (m5 (n+1)):=by
 have nd:=zi.nd
 have hUE:=pV.mk
 refine jX F zi (λvs G Q h=> ?_) (λcdv A outer s H E as G Q hr h=> ?_)
 ·obtain⟨_,_,_,_,rfl,_⟩:=h
  rfl
 have hU:=eD hr
 apply jw
 case a=>
  symm
  all_goals try (refine' nE (n:=3) (ix:=[none,some 0,some 2]) (j:=0) nd rfl rfl Hg rfl ?_ (λC s H fp=>⟨?_,?_⟩))
  all_goals symm
 obtain⟨a,r,p,m,rfl,pl,gr,nar,ok,hd,hd5,q⟩:=h
 left
 have pw:3^depth p<=3^5:=bV (by ac_nf) hd5
 have pw1:1<=3^depth p:=km (by ac_nf)
 have fin:∀(kd:Str) (xs:List PV) (so:Addr) (ys:List PV) (m3:Int) (G3:Gp) (bb:Nat) (t4:Option PV),il p= .tup (.str kd::xs)->mh (.str kd) (.str (aD "none"))=false->G3 so=some (.lst ys)->ys.length<=3->(∀y∈ys,Gw bb y)->3*bb<=3^depth p->Pool G3 a->G3 r=some (.lst [.int m3])->Ch [a,r] G G3->
   (oH (NE (Li (yV (iT GY (iT rC (eV 1) (eC (PV.int 0))) (eC (PV.str (aD "none"))))) (yV (iT rF (eC PV.non) (eV 3)))) (pP (eC PV.non)) vY) (pP (Ha rq (eC (PV.str (aD ""))) (aV (eV 3) cV)))) {nx:=λx G'=>∃G0,GE G0 G'/\Q PV.non G0,rt:=λp G'=>∃G0,GE G0 G'/\Q p G0} [some (.ref a),some (il p),some (.ref r),some (.ref so),t4] G3:=by
  intro kd xs so ys m3 G3 bb t4 he hk0 gs hl hy hb p3 r3 c3
  rw[he]
  exists eF (i:=0) (x:= .str kd) (bI (j:=0) rfl) ?_
  exists fz rfl rfl (lw hk0 ?_)
  exists⟨ys,aO gs,zQ hy,?_⟩
  exists sr (λ_=>⟨_,GE.refl,q .non m3 G3 (.inl rfl) p3 r3 c3⟩) (λhn=> ?_)
  obtain⟨zs,rfl,hz⟩:=zP hy hn
  rw[ai]at hl hz
  have hz2:zs.length*bb<=3*bb:=jg _ hl
  exists qp (zs:=zs) (aO gs) (by show _+zs.length*0<=_;ac_nf) ?_
  exact⟨_,GE.refl,q _ m3 G3 (.inr ⟨_,rfl,by rw[AN];ac_nf⟩) p3 r3 c3⟩
 cases p with
 |sign z=>
  nofun
  exists fz rfl rfl (ia rfl ?_)
  exists cj (i:=0) (aO gr) rfl ?_
  exists gJ (k:=0) gr rfl ?_
  exists eF (x:= .str z) rfl ?_
  exists eF (x:= .str z) rfl ?_
  left
  have ok':1<=z.length/\z.length<=5:=ok
  refine kK (by ac_nf) ?_
  exists⟨a,z.length,rfl,pl.ne (aG nar),by ac_nf,by ac_nf,λn1 G2 n0 n2 p2 c2=> ?_⟩
  obtain⟨c,ec,_⟩:=mr (xs:=z.cps.toList) n0 (by rw[br];exact n2)
  exists pE (by ac_nf) ec ?_
  refine⟨_,GE.refl,q _ (m-1) G2 (.inr ⟨_,rfl,?_⟩) p2 (c2 _ _ (by simpa using aG nar) af) ((Ch.refl.put (by simp)).trans (c2.mono (by simp)))⟩
  exact pw1
 |pick ps=>
  have okp:(2<=ps.length/\ps.length<=3)/\inA 5 (.pick ps)/\oQ ps:=ok
  nofun
  ext
  nofun
  exists fz rfl rfl (ia rfl ?_)
  exists eF (x:= .tup (cN ps)) rfl ?_
  exists eF (x:= .tup (cN ps)) rfl ?_
  exists x8 ?_
  rw[cy]
  exists⟨a,ps.length,rfl,pl,by ac_nf,by ac_nf,λn1 G2 n0 n2 p2 c2=> ?_⟩
  obtain⟨x,ex,mx⟩:=mr (xs:=ps) n0 n2
  have ex':qv (cN ps) n1=some (il x):=by
   obtain⟨j,rfl⟩:∃j:Nat,(j:Int)=n1:=⟨n1.toNat,by ac_nf⟩
   have:ps[j]? =some x:=by
    have hj:j<ps.length:=by ac_nf
    rw[bI (ak hj)]at ex
    rw[ak hj];exact ex
   exact bI (iV this)
  exists eF ex' ?_
  left
  have hdx:=fO mx
  have hdp:depth (.pick ps)=1+a9 ps:=rfl
  refine⟨a,r,x,m,rfl,p2,c2 _ _ (by simpa using aG nar) gr,nar,ja okp.2.2 x mx,by ac_nf,by ac_nf,λv m' G3 gv p3 r3 c3=>⟨_,GE.refl,q v m' G3 (gv.mono (bV (by ac_nf) (by ac_nf))) p3 r3 ((c2.mono (by simp)).trans c3)⟩⟩
 |held nm x=>
  have okx:nm.length<=8/\fQ x:=ok
  have hdp:depth (.held nm x)=1+depth x:=rfl
  nofun
  ext
  nofun
  ext
  nofun
  exists⟨cA,rfl,rfl,?_⟩
  refine ia rfl ?_
  exists eF (x:=il x) rfl ?_
  left
  exact⟨a,r,x,m,rfl,pl,gr,nar,okx.2,by ac_nf,by ac_nf,λv m' G3 gv p3 r3 c3=>⟨_,GE.refl,q v m' G3 (gv.mono (bV (by ac_nf) (by ac_nf))) p3 r3 c3⟩⟩
 |price nm x=>
  have okx:fQ x:=ok
  have hdp:depth (.price nm x)=1+depth x:=rfl
  nofun
  ext
  nofun
  ext
  nofun
  exists⟨cA,rfl,rfl,?_⟩
  refine ia rfl ?_
  exists eF (x:=il x) rfl ?_
  left
  exact⟨a,r,x,m,rfl,pl,gr,nar,okx,by ac_nf,by ac_nf,λv m' G3 gv p3 r3 c3=>⟨_,GE.refl,q v m' G3 (gv.mono (bV (by ac_nf) (by ac_nf))) p3 r3 c3⟩⟩
 |blank=>
  nofun
  ext
  nofun
  ext
  nofun
  exists⟨cA,rfl,rfl,?_⟩
  refine lw rfl ?_
  exists⟨cA,λso hso=> ?_⟩
  have nsa:so≠a:=fV pl hso
  have nsr:so≠r:=λe=>by rw[e,gr]at hso;cases hso
  nofun
  ext
  nofun
  ext
  left
  exact fin "blank" [] so [] m _ 0 none rfl rfl af (by simp) (by simp) (by ac_nf) (pl.new hso) (by rw[aE (aG nsr)];exact gr) (Ch.refl.new hso)
 |none=>
  nofun
  ext
  nofun
  ext
  nofun
  exists⟨cA,rfl,rfl,?_⟩
  refine lw rfl ?_
  exists⟨cA,λso hso=> ?_⟩
  have nsa:so≠a:=fV pl hso
  have nsr:so≠r:=λe=>by rw[e,gr]at hso;cases hso
  nofun
  ext
  nofun
  ext
  nofun
  exists fz rfl rfl (ia rfl ?_)
  left
  exact⟨_,GE.refl,q .non m _ (.inl rfl) (pl.new hso) (by rw[aE (aG nsr)];exact gr) (Ch.refl.new hso)⟩
 |row ps=>
  have okp:(2<=ps.length/\ps.length<=3)/\(inA 5 (.row ps)/\∀i,inR 5 (ps.take i))/\oQ ps:=ok
  have hdp:depth (.row ps)=1+a9 ps:=rfl
  have hp3:3*3^a9 ps=3^depth (.row ps):=by rw[hdp,jf]
  nofun
  ext
  nofun
  ext
  nofun
  exists⟨cA,rfl,rfl,?_⟩
  refine lw rfl ?_
  exists⟨cA,λso hso=> ?_⟩
  have nsa:so≠a:=fV pl hso
  have nsr:so≠r:=λe=>by rw[e,gr]at hso;cases hso
  nofun
  exists fz rfl rfl (ia rfl ?_)
  exists eF (x:= .tup (cN ps)) rfl ?_
  left
  intro acc hacc
  have nca:acc≠a:=fV (pl.new hso) hacc
  have gr1:up G so (.lst []) r=some (.lst [.int m]):=by rw[aE (aG nsr)];exact gr
  have ncr:acc≠r:=λe=>by rw[e,gr1]at hacc;cases hacc
  have hac0:G acc=none:=(dD hacc).2
  refine⟨λi ys G2=>ys.length=i/\(∀y∈ys,Gw (3^a9 ps) y)/\G2 acc=some (.lst ys)/\Pool G2 a/\(∃m2:Int,G2 r=some (.lst [.int m2]))/\Ch [a,r] G G2,?_,?_,?_,?_⟩
  ·exact⟨rfl,by simp,af,(pl.new hso).new hacc,⟨m,by rw[aE (aG ncr)];exact gr1⟩,(Ch.refl.new hso).new hacc⟩
  ·rintro i ys G2 hi ⟨hl,hy,ga,p2,r2,c2⟩
   rw[cy]at hi
   exact⟨trivial,ga,by ac_nf⟩
  ·rintro i ys G2 x hx ⟨hl,hy,ga,p2,⟨m2,r2⟩,c2⟩
   obtain⟨c,hc,rfl⟩:=uX hx
   have mc:=ax hc
   have hdx:=fO mc
   refine ia rfl ?_
   exists⟨a,r,c,m2,rfl,p2,r2,nar,ja okp.2.2 c mc,by ac_nf,by ac_nf,λv m' G3 gv p3 r3 c3=> ?_⟩
   have ga3:G3 acc=some (.lst ys):=c3 _ _ (by simp[nca,ncr]) ga
   refine⟨ga3,by simp[hl],λy h=> ?_,af,p3.ne nca,⟨m',by rw[aE (aG ncr)];exact r3⟩,(c2.trans c3).mod' hac0⟩
   rcases aZ.mp h with h|h
   ·exact hy y h
   ·cases au.mp h
    exact gv.mono (bV (by ac_nf) hdx)
  ·rintro ys G2 ⟨hl,hy,ga,p2,⟨m2,r2⟩,c2⟩
   rw[cy]at hl
   nofun
   ext
   exact fin "row" [.tup (cN ps)] acc ys m2 G2 (3^a9 ps) none rfl rfl ga (by ac_nf) hy (by ac_nf) p2 r2 c2
 |again x=>
  have okx:bN x=false/\inA 5 (.again x)/\fQ x:=ok
  have hdp:depth (.again x)=1+depth x:=rfl
  have hp3:3*3^depth x=3^depth (.again x):=by rw[hdp,jf]
  nofun
  ext
  nofun
  ext
  nofun
  exists⟨cA,rfl,rfl,?_⟩
  refine lw rfl ?_
  exists⟨cA,λso hso=> ?_⟩
  have nsa:so≠a:=fV pl hso
  have nsr:so≠r:=λe=>by rw[e,gr]at hso;cases hso
  nofun
  ext
  nofun
  exists fz rfl rfl (ia rfl ?_)
  exists⟨a,4,rfl,pl.new hso,by decide,by decide,λn4 G1 n0 n1 p1 c1=> ?_⟩
  left
  have gr1:up G so (.lst []) r=some (.lst [.int m]):=by rw[aE (aG nsr)];exact gr
  refine⟨by ac_nf,by ac_nf,λi τ G2=>∃(ys:List PV) (t4:Option PV) (m2:Int),τ=[some (.ref a),some (il (.again x)),some (.ref r),some (.ref so),t4]/\ys.length<=i/\(∀y∈ys,Gw (3^depth x) y)/\G2 so=some (.lst ys)/\Pool G2 a/\G2 r=some (.lst [.int m2])/\Ch [a,r] G G2,?_,?_,?_,?_⟩
  ·exact⟨[],none,m,rfl,am _,by simp,c1 _ _ (by simpa using nsa) af,p1,c1 _ _ (by simpa using aG nar) gr1,(Ch.refl.new hso).trans (c1.mono (by simp))⟩
  ·intros;trivial
  ·rintro i y τ G2 hx ⟨ys,t4,m2,rfl,hl,hy,ga,p2,r2,c2⟩
   obtain⟨hi,rfl⟩:=j8 hx
   exists cj (i:=0) (aO r2) rfl ?_
   exists sr (λ_=> ?_) (λ_=>⟨ys,_,m2,rfl,by ac_nf,hy,ga,p2,r2,c2⟩)
   exists⟨⟨_,ga⟩,?_⟩
   exists eF (x:=il x) rfl ?_
   exists⟨a,r,x,m2,rfl,p2,r2,nar,okx.2.2,by ac_nf,by ac_nf,λv m' G3 gv p3 r3 c3=> ?_⟩
   have ga3:G3 so=some (.lst ys):=c3 _ _ (by simp[nsa,nsr]) ga
   exists fJ ga3 (by ac_nf) ⟨ys++[v],_,m',rfl,by simp;ac_nf,λy h=> ?_,af,p3.ne nsa,by rw[aE (aG nsr)];exact r3,(c2.trans c3).mod' hso⟩
   rcases aZ.mp h with h|h
   ·exact hy y h
   ·cases au.mp h
    exact gv
  ·rintro τ G2 ⟨ys,t4,m2,rfl,hl,hy,ga,p2,r2,c2⟩
   rw[iH]at hl
   exact fin "again" [il x] so ys m2 G2 (3^depth x) t4 rfl rfl ga (by ac_nf) hy (by ac_nf) p2 r2 c2
end
noncomputable abbrev Bo:Stmt:=top 33
section
variable{P:aK}{w:aX}{K:PySem.W.Frag}{mg:Str->Option ae}{base:Heap}{f fn fp:Addr}{fd dn dp:a8}
theorem B7:bv ["pool", "pattern", "letters", "most", "text", "k"] ["pool", "pattern", "letters", "most"] (aN Bo):=⟨rfl,rfl,rfl,by decide+kernel,rfl,by decide+kernel,by decide+kernel⟩
noncomputable def uo:hX:=λps G Q=>∃(a:Addr) (p:Pt) (z:Str) (M:Int),ps=[.ref a,il p,.str z,.int M]/\Pool G a/\fQ p/\depth p<=5/\1<=z.length/\z.length<=5/\1<=M/\M<=5/\
 ∀T G',(T.length:Int)<=M->Pool G' a->Ch [a] G G'->Q (.str (pR T)) G'
theorem FE{k:Nat}(hk:8<=k)(F:Fun K "_law_text" "_law_text" Bo f fd)(B:BN mg)(CN:cq P w K mg base 1 "_law_next" fn dn ["pool", "base"] gI)(CP:cq P w K mg base k "_law_grown" fp dp ["pool", "pattern", "room"] (m5 5)):
  iL P w K mg base (k+1) f fd ["pool", "pattern", "letters", "most"] uo:=by
 have nd:=B7.nd
 have hUE:=pV.mk
 refine jX F B7 (λvs G Q h=> ?_) (λcdv A outer s H E as G Q hr h=> ?_)
 ·obtain⟨_,_,_,_,rfl,_⟩:=h
  rfl
 have hU:=eD hr
 apply jw
 case a=>symm
 obtain⟨a,p,z,M,rfl,pl,ok,hd,z1,z5,M1,M5,q⟩:=h
 exists⟨cA,λr hr0=> ?_⟩
 have nra:r≠a:=fV pl hr0
 refine⟨a,r,p,M-1,rfl,pl.new hr0,af,aG nra,ok,hd,hd,λv m' G2 gv p2 r2 c2=> ?_⟩
 have c02:Ch [a] G G2:=λc o hc h=>c2 c o (by
  have h1:c≠a:=by simpa using hc
  simp[h1,aY h hr0]) (by rw[aE (aY h hr0)];exact h)
 left
 have pw:3^depth p<=3^5:=bV (by ac_nf) hd
 have fin:∀(s:Str) (t5:Option PV) (G3:Gp),s.length<=1000->Pool G3 a->Ch [a] G G3->(pP (D8 (eV 4) NG (zy (eV 3)))) {nx:=λx G'=>∃G0,GE G0 G'/\Q PV.non G0,rt:=λp G'=>∃G0,GE G0 G'/\Q p G0} [some (.ref a),some (il p),some (.str z),some (.int M),some (.str s),t5] G3:=by
  intro s t5 G3 hs p3 c3
  exists⟨by ac_nf,?_⟩
  have hl1:((Txt.slice s none (some M)).length:Int)<=M:=by
   rcases PyProof.Rows.slice_ns_cases s M (by ac_nf)with⟨_,h⟩|⟨h0,h⟩<;>ac_nf
  refine⟨_,GE.refl,?_⟩
  have:=q (Txt.slice s none (some M)).cps.toList G3 (by rw[br];exact hl1) p3 c3
  rwa [Jx]at this
 have draw:∀(v4:Option PV) (G3:Gp) (D:D2),D.nx=(pP (D8 (eV 4) NG (zy (eV 3)))) {nx:=λx G'=>∃G0,GE G0 G'/\Q PV.non G0,rt:=λp G'=>∃G0,GE G0 G'/\Q p G0}->Pool G3 a->Ch [a] G G3->
   (oH (oI (eC (PV.str (aD ""))) (gN 4)) (Cm (AW (aV (gS gI (aV (eV 0) (aV (eV 3) cV))) cV)) (gN 5) (oI (iT jd (eV 4) (iT rC (eV 2) (gS gI (aV (eV 0) (aV (tJ jj (aV (eV 2) cV)) cV))))) (gN 4)))) D [some (.ref a),some (il p),some (.str z),some (.int M),v4,none] G3:=by
  intro v4 G3 D hD p3 c3
  exists⟨a,M,rfl,p3,by ac_nf,by ac_nf,λn1 G4 n0 n2 p4 c4=> ?_⟩
  exists⟨by ac_nf,by ac_nf,λi τ G5=>∃(s:Str) (t5:Option PV),τ=[some (.ref a),some (il p),some (.str z),some (.int M),some (.str s),t5]/\s.length<=i/\Pool G5 a/\Ch [a] G G5,?_,?_,?_,?_⟩
  ·exact⟨_,none,rfl,by decide,p4,c3.trans c4⟩
  ·intros;trivial
  ·rintro i x τ G5 hx ⟨s,t5,rfl,hs,p5,c5⟩
   obtain⟨hi,rfl⟩:=j8 hx
   exists kK (by ac_nf) ?_
   exists⟨a,z.length,rfl,p5,by ac_nf,by ac_nf,λn6 G6 n60 n61 p6 c6=> ?_⟩
   obtain⟨c,ec,_⟩:=mr (xs:=z.cps.toList) n60 (by rw[br];exact n61)
   exists pE (by ac_nf) ec ?_
   left
   have el:(s++(⟨#[c]⟩:Str)).length=s.length+1:=by
    show(s.cps++ #[c]).size=_
    rw[Array.size_append];rfl
   refine Hl (by show s.length+1<=_;ac_nf) ?_
   exact⟨_,_,rfl,by rw[el];ac_nf,p6,c5.trans c6⟩
  ·rintro τ G5 ⟨s,t5,rfl,hs,p5,c5⟩
   rw[iH]at hs
   rw[hD]
   exact fin s t5 G5 (by ac_nf) p5 c5
 rcases gv with rfl|⟨s,rfl,hs⟩
 ·refine ia rfl ?_
  exact draw _ _ _ rfl p2 c02
 ·refine lw rfl ?_
  exists⟨a,5,rfl,p2,by decide,by decide,λn1 G3 n0 n2 p3 c3=> ?_⟩
  exists fz rfl rfl ?_
  exists sr (λ_=> ?_) (λ_=> ?_)
  ·exact draw _ _ _ rfl p3 (c02.trans c3)
  ·exact fin s none G3 (by ac_nf) p3 (c02.trans c3)
end
noncomputable abbrev yH:Stmt:=top 34
noncomputable abbrev kC:Stmt:=top 35
theorem o5{G:Gp}{a:Addr}{xs:List PV}(h:G a=some (.lst xs)):NJ (.ref a) G:=⟨_,h⟩
noncomputable def qZ(x:Tr×Nat):PV:= .tup [ic x.1,.int (x.2:Nat)]
noncomputable def EF(x:List Tr×Nat):PV:= .tup [.tup (eI x.1),.int (x.2:Nat)]
theorem nW{L:List (Tr×Nat)}{c:Gp->Prop}{ix:List (Option Nat)}{j j2:Nat}{τ:je}{te:E2}{Q:K2}{G1:Gp}{acc:Addr}(g:Tr×Nat->PV)(hz:L.length<16000000)
  (hc:∀ys,c (up G1 acc (.lst ys))) (he:∀x ys (R:K2),x∈L->R (g x) (up G1 acc (.lst ys))->te (st (st (kS ix τ) j (some (ic x.1))) j2 (some (.int (x.2:Nat)))) (up G1 acc (.lst ys)) R)
  (hq:Q (.ref acc) (up G1 acc (.lst (L.map g)))):KN (L.map qZ) c ix j j2 τ kj te Q G1 acc:=by
 refine⟨λi ys G=>ys=(L.take i).map g/\G=up G1 acc (.lst ys),⟨by simp,rfl⟩,?_,?_,?_⟩
 ·rintro i ys G hi ⟨rfl,rfl⟩
  refine⟨hc _,af,?_⟩
  rw[ai,bo]
  ac_nf
 ·rintro i ys G x hx ⟨rfl,rfl⟩
  rw[aC]at hx
  cases e:L[i]? with
  |none=>rw[e]at hx;cases hx
  |some y=>
   rw[e]at hx
   cases hx
   have tk:L.take (i+1)=L.take i++[y]:=by rw[bt,e];rfl
   refine⟨_,_,rfl,?_⟩
   refine ia rfl ?_
   refine he y _ _ (ax e) ⟨af,?_,fZ⟩
   rw[tk,aR]
   rfl
 ·rintro ys G ⟨rfl,rfl⟩
  rw[ai,bj]
  exact hq
theorem A8{L:List (List Tr×Nat)}{c:Gp->Prop}{ix:List (Option Nat)}{j j2:Nat}{τ:je}{te:E2}{Q:K2}{G1:Gp}{acc:Addr}(g:List Tr×Nat->PV)(hz:L.length<16000000)
  (hc:∀ys,c (up G1 acc (.lst ys))) (he:∀x ys (R:K2),x∈L->R (g x) (up G1 acc (.lst ys))->te (st (st (kS ix τ) j (some (.tup (eI x.1)))) j2 (some (.int (x.2:Nat)))) (up G1 acc (.lst ys)) R)
  (hq:Q (.ref acc) (up G1 acc (.lst (L.map g)))):KN (L.map EF) c ix j j2 τ kj te Q G1 acc:=by
 refine⟨λi ys G=>ys=(L.take i).map g/\G=up G1 acc (.lst ys),⟨by simp,rfl⟩,?_,?_,?_⟩
 ·rintro i ys G hi ⟨rfl,rfl⟩
  refine⟨hc _,af,?_⟩
  rw[ai,bo]
  ac_nf
 ·rintro i ys G x hx ⟨rfl,rfl⟩
  rw[aC]at hx
  cases e:L[i]? with
  |none=>rw[e]at hx;cases hx
  |some y=>
   rw[e]at hx
   cases hx
   have tk:L.take (i+1)=L.take i++[y]:=by rw[bt,e];rfl
   refine⟨_,_,rfl,?_⟩
   refine ia rfl ?_
   refine he y _ _ (ax e) ⟨af,?_,fZ⟩
   rw[tk,aR]
   rfl
 ·rintro ys G ⟨rfl,rfl⟩
  rw[ai,bj]
  exact hq
noncomputable def sV(T:List Nat)(p:Pt)(sm:List (List Tr×Nat)):List (List Tr×Nat):=sm.flatMap λs=>(bf T p s.2).map λt=>(s.1++[t.1],t.2)
theorem Cn{T:List Nat}{p:Pt}{sm:List (List Tr×Nat)}{i:Nat}{y:List Tr×Nat}(h:sm[i]? =some y):sV T p (sm.take (i+1))=sV T p (sm.take i)++(bf T p y.2).map λt=>(y.1++[t.1],t.2):=by
 unfold sV
 rw[bt,h,gU]
 simp
theorem IC{T:List Nat}{p:Pt}(sm:List (List Tr×Nat))(i:Nat):(sV T p (sm.take i)).length<=(sV T p sm).length:=by
 have:sV T p sm=sV T p (sm.take i)++sV T p (sm.drop i):=by
  unfold sV
  rw[<-gU,cP]
 rw[this,aL]
 ac_nf
section
variable{P:aK}{w:aX}{K:PySem.W.Frag}{mg:Str->Option ae}{base:Heap}{f:Addr}{fd:a8}
noncomputable abbrev HK:List Str:=["some", "more", "found", "row", "end"]
theorem Ci:bv HK ["some", "more"] (aN yH):=⟨rfl,rfl,rfl,by decide+kernel,rfl,by decide+kernel,by decide+kernel⟩
noncomputable abbrev kB1:eL:=gn [(".0",.local),("one",.local),("to",.local),("row",.free)]
theorem cB1:dE (aN yH) HK kB1 ["one", "to", "row"] [none,none,some 3] 0 "one" =true:=by decide+kernel
theorem dB1:iA kB1 ["one", "to", "row"] [none,none,some 3] 1 "to" :=⟨rfl,by decide+kernel,rfl⟩
noncomputable def uv:hX:=λps G Q=>∃(so mo:Addr) (T:List Nat) (p:Pt) (sm:List (List Tr×Nat)) (ls:List Addr),ps=[.ref so,.ref mo]/\G so=some (.lst (sm.map EF))/\G mo=some (.lst (ls.map PV.ref))/\ls.length=T.length+1/\(∀k c,ls[k]? =some c->G c=some (.lst ((bf T p k).map qZ)))/\
 (∀s∈sm,s.2<=T.length/\s.1.length<=1000)/\(sV T p sm).length<=15000000/\(∀k,k<=T.length->(bf T p k).length<=15000000)/\∀c,G c=none->Q (.ref c) (up G c (.lst ((sV T p sm).map EF)))
theorem FQ(F:Fun K "_law_both" "_law_both" yH f fd)(B:BN mg):iL P w K mg base 1 f fd ["some", "more"] uv:=by
 have nd:=Ci.nd
 have hUE:=pV.mk
 refine jX F Ci (λvs G Q h=> ?_) (λcdv A outer s H E as G Q hr h=> ?_)
 ·obtain⟨_,_,_,_,_,_,rfl,_⟩:=h
  rfl
 have hU:=eD hr
 apply jw
 case a=>
  symm
  all_goals try (refine' j7 cB1 dB1 rfl ?_ λ_ _ _ _=>⟨?_,?_⟩)
  all_goals symm
 obtain⟨so,mo,T,p,sm,ls,rfl,gs,gm,hll,hls,hsm,hlen,hk,q⟩:=h
 exists⟨cA,λfu hfu=> ?_⟩
 left
 rw[aO (show up G fu (.lst []) so=some (.lst (sm.map EF))by rw[aE (aY gs hfu)];exact gs)]
 exists⟨λi τ G'=>∃t3 t4,τ=[some (.ref so),some (.ref mo),some (.ref fu),t3,t4]/\G' fu=some (.lst ((sV T p (sm.take i)).map EF))/\GE G G',⟨none,none,rfl,af,GE.refl.new hfu⟩,?_,?_,?_⟩
 ·rintro i τ G' hi ⟨_,_,rfl,g1,ge⟩
  exact aO (ge _ _ gs)
 ·rintro i x τ G' hx ⟨_,_,rfl,g1,ge⟩
  rw[aC]at hx
  cases ex:sm[i]? with
  |none=>rw[ex]at hx;cases hx
  |some y=>
   rw[ex]at hx
   cases hx
   obtain⟨hy1,hy2⟩:=hsm y (ax ex)
   have sn:=Cn (T:=T) (p:=p) ex
   have hle:=IC (T:=T) (p:=p) sm (i+1)
   rw[sn,aL,ai]at hle
   have hyl:=hk y.2 hy1
   obtain⟨c2,hc2⟩:∃c2,ls[y.2]? =some c2:=⟨_,ak (by ac_nf)⟩
   have gc2:=ge _ _ (hls y.2 c2 hc2)
   refine⟨o5 g1,?_⟩
   exists cj (aO (ge _ _ gm)) (bI (Ep (α:=Nat) hc2)) ?_
   left
   rw[aO gc2]
   left
   intro acc hacc
   have nca:c2≠acc:=aY gc2 hacc
   have nfa:fu≠acc:=aY g1 hacc
   refine nW (λt=>EF (y.1++[t.1],t.2)) (by ac_nf) (λys=>aO (by rw[aE nca];exact gc2)) (λx ys R hx r=> ?_) ?_
   ·refine⟨cA,?_⟩
    refine vp (xs:=eI y.1) (ys:=[ic x.1]) (by rw[fA];simp;ac_nf) ?_
    refine⟨cA,?_⟩
    have he:eI y.1++[ic x.1]=eI (y.1++[x.1]):=by rw[gR];rfl
    rw[he]
    exact r
   ·left
    refine mf (xs:=(sV T p (sm.take i)).map EF) (ys:=(bf T p y.2).map λt=>EF (y.1++[t.1],t.2)) (by rw[aE nfa];exact g1) af (by rw[ai,ai];ac_nf) ?_
    refine⟨_,_,rfl,?_,?_⟩
    ·rw[af,sn,aR,bp];rfl
    ·exact(ge.new hacc).mod hfu
 ·rintro τ G' ⟨_,_,rfl,g1,ge⟩
  rw[ai,bj]at g1
  left
  exact⟨_,ge.at g1,q fu hfu⟩
end
section
variable{w:aX}
noncomputable abbrev K5:List Str:=["pattern", "text", "at", "found", "k", "some", "part", "more", "one", "end"]
theorem Lx:bv K5 ["pattern", "text", "at"] (aN kC):=⟨rfl,rfl,rfl,by decide+kernel,rfl,by decide+kernel,by decide+kernel⟩
noncomputable abbrev kT1:eL:=gn [(".0",.local),("one",.local),("end",.local),("k",.free)]
noncomputable abbrev kT2:eL:=gn [(".0",.local),("one",.local),("end",.local),("pattern",.free)]
noncomputable abbrev kT3:eL:=gn [(".0",.local),("k",.local),("_law_trees",.globalImplicit),("part",.free),("text",.free)]
noncomputable abbrev kT4:eL:=gn [(".0",.local),("row",.local),("end",.local)]
noncomputable abbrev kT5:eL:=gn [(".0",.local),("rest",.local),("to",.local),("one",.free)]
theorem cT1:dE (aN kC) K5 kT1 ["one", "end", "k"] [none,none,some 4] 0 "one" =true:=by decide+kernel
theorem cT2:dE (aN kC) K5 kT2 ["one", "end", "pattern"] [none,none,some 0] 0 "one" =true:=by decide+kernel
theorem cT3:dE (aN kC) K5 kT3 ["k", "part", "text"] [none,some 6,some 1] 0 "k" =true:=by decide+kernel
theorem cT4:dE (aN kC) K5 kT4 ["row", "end"] [none,none] 0 "row" =true:=by decide+kernel
theorem cT5:dE (aN kC) K5 kT5 ["rest", "to", "one"] [none,none,some 8] 0 "rest" =true:=by decide+kernel
theorem dT1:iA kT1 ["one", "end", "k"] [none,none,some 4] 1 "end" :=⟨rfl,by decide+kernel,rfl⟩
theorem dT2:iA kT2 ["one", "end", "pattern"] [none,none,some 0] 1 "end" :=⟨rfl,by decide+kernel,rfl⟩
theorem dT4:iA kT4 ["row", "end"] [none,none] 1 "end" :=⟨rfl,by decide+kernel,rfl⟩
theorem dT5:iA kT5 ["rest", "to", "one"] [none,none,some 8] 1 "to" :=⟨rfl,by decide+kernel,rfl⟩
structure Ask(n:Nat)(p:Pt)(T:List Nat)(e:Nat):Prop where
 ok:fQ p
 d:7*depth p+(T.length-e)<=n
 e:e<=T.length
 t:T.length<=5
noncomputable def gC(n:Nat):hX:=λps G Q=>∃(p:Pt) (T:List Nat) (e:Nat),ps=[il p,.str (pR T),.int (e:Nat)]/\Ask n p T e/\∀c,G c=none->Q (.ref c) (up G c (.lst ((bf T p e).map qZ)))
theorem Ask.len{n:Nat}{p:Pt}{T:List Nat}{e:Nat}(a:Ask n p T e):(bf T p e).length<=14900788:=qd a.t (kY p a.ok) a.e
theorem Ask.sub{n:Nat}{p c:Pt}{T:List Nat}{e k:Nat}(a:Ask (n+1) p T e)(hc:fQ c)(hd:depth c<depth p)(hk:k<=T.length):Ask n c T k:=⟨hc,by have:=a.d;have:=a.t;ac_nf,hk,a.t⟩
noncomputable abbrev tPk(n:Nat):S2:=Cm (AW (aV (tJ jj (aV (iT rC (eV 0) (eC (PV.int 1))) cV)) cV)) (gN 4) (oH (oI (gS (gC n) (aV (iT rC (iT rC (eV 0) (eC (PV.int 1))) (eV 4)) (aV (eV 1) (aV (eV 2) cV)))) (gN 5))
 (qV (uY g6 (eV 3) (aV (o9 (K6 (eV 5)) [none,none,some 4] 0 1 kj (jT (aV (jT (aV (eC (PV.str (aD "pick"))) (aV (eV 2) (aV (eV 0) cV)))) (aV (eV 1) cV)))) cV))))
noncomputable abbrev tHd(n:Nat):S2:=oH (oI (gS (gC n) (aV (iT rC (eV 0) (eC (PV.int 2))) (aV (eV 1) (aV (eV 2) cV)))) (gN 5))
 (qV (uY g6 (eV 3) (aV (o9 (K6 (eV 5)) [none,none,some 0] 0 1 kj (jT (aV (iT jd (D8 (eV 2) NG (zy (eC (PV.int 2)))) (jT (aV (eV 0) cV))) (aV (eV 1) cV)))) cV)))
noncomputable abbrev tRw(n:Nat):S2:=oH (oI (D9 (aV (jT (aV (jT cV) (aV (eV 2) cV))) cV)) (gN 5)) (oH (Cm (itS (iT rC (eV 0) (eC (PV.int 1)))) (gN 6)
 (oH (oI (tI (AW (aV (iT jd (tJ jj (aV (eV 1) cV)) (eC (PV.int 1))) cV)) [none,some 6,some 1] 0 kj (gS (gC n) (aV (eV 1) (aV (eV 2) (aV (eV 0) cV))))) (gN 7)) (oI (gS uv (aV (eV 5) (aV (eV 7) cV))) (gN 5))))
 (qV (uY g6 (eV 3) (aV (o9 (K6 (eV 5)) [none,none] 0 1 kj (jT (aV (jT (aV (eC (PV.str (aD "row"))) (aV (eV 0) cV))) (aV (eV 1) cV)))) cV))))
noncomputable abbrev tAg(n:Nat):S2:=oH (Cm (K6 (gS (gC n) (aV (iT rC (eV 0) (eC (PV.int 1))) (aV (eV 1) (aV (eV 2) cV))))) (NL 8 (8+1)) (oH (oI (gS (gC n) (aV (eV 0) (aV (eV 1) (aV (eV 9) cV)))) (gN 5))
 (qV (uY g6 (eV 3) (aV (o9 (K6 (eV 5)) [none,none,some 8] 0 1 kj (jT (aV (jT (aV (eC (PV.str (aD "again"))) (aV (iT jd (jT (aV (eV 2) cV)) (iT rC (eV 0) (eC (PV.int 1)))) cV))) (aV (eV 1) cV)))) cV)))))
 (qV (uY kf (eV 3) (aV (jT (aV (jT (aV (eC (PV.str (aD "again"))) (aV (jT cV) cV))) (aV (eV 2) cV))) cV)))
theorem sJ(T:List Nat)(p:Pt)(e:Nat):∀(ps:List Pt) (k:Nat),eE T (ps++[p]) k e=eE T ps k e++(bf T p e).map λt=>(Tr.pick ((k+ps.length:Nat):Int) t.1,t.2)
 |[],k=>by simp[eE]
 |r::ps,k=>by
  show(bf T r e).map _++eE T (ps++[p]) (k+1) e=((bf T r e).map _++eE T ps (k+1) e)++_
  rw[sJ T p e ps (k+1),cx,aM]
  congr 4
  funext t
  rw[show k+1+ps.length=k+(ps.length+1)by ac_nf]
theorem vE(T:List Nat)(e:Nat):∀(ps qs:List Pt) (k:Nat),∃r,eE T (ps++qs) k e=eE T ps k e++r
 |[],qs,k=>⟨_,rfl⟩
 |p::ps,qs,k=>by
  obtain⟨r,hr⟩:=vE T e ps qs (k+1)
  refine⟨r,?_⟩
  show(bf T p e).map _++eE T (ps++qs) (k+1) e=((bf T p e).map _++eE T ps (k+1) e)++r
  rw[hr,cx]
theorem BL(T:List Nat)(e:Nat)(ps:List Pt)(i:Nat):(eE T (ps.take i) 0 e).length<=(eE T ps 0 e).length:=by
 obtain⟨r,hr⟩:=vE T e (ps.take i) (ps.drop i) 0
 rw[cP]at hr
 rw[hr,aL];ac_nf
noncomputable abbrev oA(p:Pt)(T:List Nat)(e:Nat)(so:Addr)(t4 t5 t6 t7 t8 t9:Option PV):je:=[some (il p),some (.str (pR T)),some (.int (e:Nat)),some (.ref so),t4,t5,t6,t7,t8,t9]
theorem Fl{n:Nat}{ps:List Pt}{T:List Nat}{e:Nat}{so:Addr}{G:Gp}{D:D2}(a:Ask (n+1) (.pick ps) T e)(gs:G so=some (.lst []))
  (q:∀t4 t5 G',G' so=some (.lst ((bf T (.pick ps) e).map qZ))->Ch [so] G G'->D.nx (oA (.pick ps) T e so t4 t5 none none none none) G'):tPk n D (oA (.pick ps) T e so none none none none none none) G:=by
 have okp:(2<=ps.length/\ps.length<=3)/\inA 5 (.pick ps)/\oQ ps:=a.ok
 have hdp:depth (.pick ps)=1+a9 ps:=rfl
 have tot:=a.len
 rw[show bf T (.pick ps) e=eE T ps 0 e by unfold bf;rfl]at tot q
 exists eF (x:= .tup (cN ps)) rfl ?_
 exists x8 ?_
 rw[cy]
 exists⟨by ac_nf,by ac_nf,?_⟩
 rw[show((ps.length:Int)).toNat=ps.length by ac_nf]
 refine⟨λi τ G'=>∃t4 t5,τ=oA (.pick ps) T e so t4 t5 none none none none/\G' so=some (.lst ((eE T (ps.take i) 0 e).map qZ))/\Ch [so] G G',⟨none,none,rfl,gs,Ch.refl⟩,?_,?_,?_⟩
 ·intros;trivial
 ·rintro i x τ G' hx ⟨t4,t5,rfl,g1,c1⟩
  obtain⟨hi,rfl⟩:=j8 hx
  rw[Int.zero_add]
  obtain⟨c,hc⟩:∃c,ps[i]? =some c:=⟨_,ak hi⟩
  have mc:=ax hc
  have hdc:=fO mc
  have ac:Ask n c T e:=a.sub (ja okp.2.2 c mc) (by ac_nf) a.e
  have sn:=sJ T c e (ps.take i) 0
  have tk:ps.take (i+1)=ps.take i++[c]:=by rw[bt,hc];rfl
  rw[<-tk,bo,lQ (by ac_nf),en]at sn
  have hle:=BL T e ps (i+1)
  rw[sn,aL,ai]at hle
  exists eF (x:= .tup (cN ps)) rfl ?_
  exists eF (bI (iV hc)) ?_
  exists⟨c,T,e,rfl,ac,λc2 hc2=> ?_⟩
  have nsc:so≠c2:=aY g1 hc2
  exists⟨o5 (by rw[aE nsc];exact g1),?_⟩
  left
  rw[aO af]
  left
  intro acc hacc
  have nca:c2≠acc:=aY af hacc
  have nsa:so≠acc:=aY (show up G' c2 _ so=_ by rw[aE nsc];exact g1) hacc
  refine nW (λt=>qZ (Tr.pick (i:Int) t.1,t.2)) (by ac_nf) (λys=>aO (by rw[aE nca,af])) (λx ys R hx r=>⟨cA,cA,r⟩) ?_
  exists mf (xs:=(eE T (ps.take i) 0 e).map qZ) (ys:=(bf T c e).map λt=>qZ (Tr.pick (i:Int) t.1,t.2)) (by rw[aE nsa,aE nsc];exact g1) af (by rw[ai,ai];ac_nf) ?_
  refine⟨_,_,rfl,?_,?_⟩
  ·rw[af,sn,aR,bp];rfl
  ·exact(((c1.new hc2).new hacc).put (by simp))
 ·rintro τ G' ⟨t4,t5,rfl,g1,c1⟩
  rw[iH,bj]at g1
  exact q t4 t5 G' g1 c1
theorem EU{x y z:PV}{G:Gp}{Q:K2}(q:Q (.tup [x,y]) G):B0 (.tup [x,y,z]) none (some 2) G Q:=by
 unfold B0
 simp[pf,HT.sIx]
 exact q
theorem zO{n:Nat}{p pp:Pt}{T:List Nat}{e:Nat}{so:Addr}{G:Gp}{D:D2}{h1 h2:PV}{w:Tr->Tr}(a:Ask (n+1) pp T e)(okp:fQ p)(hd:depth pp=1+depth p)(he:il pp= .tup [h1,h2,il p])(hw:∀t,ic (w t)= .tup [h1,h2,ic t])(ht:bf T pp e=(bf T p e).map λt=>(w t.1,t.2))(gs:G so=some (.lst []))
  (q:∀t5 G',G' so=some (.lst ((bf T pp e).map qZ))->Ch [so] G G'->D.nx (oA pp T e so none t5 none none none none) G'):tHd n D (oA pp T e so none none none none none none) G:=by
 have ac:Ask n p T e:=a.sub okp (by ac_nf) a.e
 have tot:=ac.len
 unfold oA at q⊢
 rw[he]at q⊢
 exists eF (x:=il p) rfl ?_
 exists⟨p,T,e,rfl,ac,λc2 hc2=> ?_⟩
 have nsc:so≠c2:=aY gs hc2
 exists⟨o5 (by rw[aE nsc];exact gs),?_⟩
 left
 rw[aO af]
 left
 intro acc hacc
 have nca:c2≠acc:=aY af hacc
 have nsa:so≠acc:=aY (show up G c2 _ so=_ by rw[aE nsc];exact gs) hacc
 refine nW (λt=>qZ (w t.1,t.2)) (by ac_nf) (λys=>aO (by rw[aE nca,af])) (λx ys R hx r=> ?_) ?_
 ·left
  refine EU ?_
  exists⟨cA,?_⟩
  refine vp (xs:=[h1,h2]) (ys:=[ic x.1]) (by simp) ?_
  refine⟨cA,?_⟩
  show R (.tup [.tup [h1,h2,ic x.1],.int (x.2:Nat)]) _
  rw[<-hw]
  exact r
 exists mf (xs:=[]) (ys:=(bf T p e).map λt=>qZ (w t.1,t.2)) (by rw[aE nsa,aE nsc];exact gs) af (by rw[ai];simp;ac_nf) ?_
 refine q _ _ ?_ (((Ch.refl.new hc2).new hacc).put (by simp))
 rw[af,ht,bp];rfl
end
theorem sH(T:List Nat)(p:Pt):∀(ps:List Pt) (sm:List (List Tr×Nat)),gl T (ps++[p]) sm=sV T p (gl T ps sm)
 |[],sm=>by show gl T [] (sV T p sm)=sV T p (gl T [] sm);unfold gl;rfl
 |r::ps,sm=>by show gl T (ps++[p]) (sV T r sm)=sV T p (gl T ps (sV T r sm));exact sH T p ps _
theorem qF(T:List Nat):∀(ps:List Pt) (sm:List (List Tr×Nat)) (m:Nat),(∀s∈sm,s.1.length<=m)->∀x∈gl T ps sm,x.1.length<=m+ps.length
 |[],sm,m,h,x,hx=>by unfold gl at hx;exact h x hx
 |p::ps,sm,m,h,x,hx=>by
  have:=qF T ps (sV T p sm) (m+1) (λs hs=>by
   obtain⟨u,hu,hs⟩:=bB.mp hs
   obtain⟨t,ht,rfl⟩:=av.mp hs
   have:=h u hu
   simp;ac_nf) x hx
  rw[aM];ac_nf
theorem BH{T:List Nat}{p:Pt}(hT:T.length<=5)(h:fQ p):∀k,k<=T.length->(bf T p k).length<=15000000:=λk hk=>by
 have:=qd hT (kY p h) hk
 ac_nf
theorem FY{n:Nat}{p c:Pt}{T:List Nat}{G:Gp}{Q:K2}{τ:je}(ac:∀k,k<=T.length->Ask n c T k)(hT:T.length<=5)(h6:gt τ 6=some (il c))(h1:gt τ 1=some (.str (pR T)))
  (q:∀(mo:Addr) (ls:List Addr) (G':Gp),G' mo=some (.lst (ls.map PV.ref))->ls.length=T.length+1->(∀(k:Nat) (x:Addr),ls[k]? =some x->G' x=some (.lst ((bf T c k).map qZ)))->GE G G'->G mo=none->Q (.ref mo) G'):
  tI (AW (aV (iT jd (tJ jj (aV (eV 1) cV)) (eC (PV.int 1))) cV)) [none,some 6,some 1] 0 kj (gS (gC n) (aV (eV 1) (aV (eV 2) (aV (eV 0) cV)))) τ G Q:=by
 left
 rw[h1]
 exists kK (by rw[eW];ac_nf) ?_
 rw[eW]
 exists kg ?_
 exists⟨by ac_nf,by ac_nf,?_⟩
 rw[show((T.length:Int)+1).toNat=T.length+1 by ac_nf]
 intro acc hacc
 refine⟨λi ys G1=>∃ls:List Addr,ys=ls.map PV.ref/\ls.length=i/\(∀k x,ls[k]? =some x->G1 x=some (.lst ((bf T c k).map qZ))/\x≠acc)/\GE G G1/\G1 acc=some (.lst ys),⟨[],rfl,rfl,λk x h=>by simp at h,GE.refl.new hacc,af⟩,?_,?_,?_⟩
 ·rintro i ys G1 hi ⟨ls,rfl,rfl,hl,ge,ga⟩
  rw[iH]at hi
  refine⟨trivial,ga,?_⟩
  rw[ai];ac_nf
 ·rintro i ys G1 x hx ⟨ls,rfl,rfl,hl,ge,ga⟩
  obtain⟨hi,rfl⟩:=j8 hx
  rw[Int.zero_add]
  refine ia rfl ?_
  show gS (gC n) (aV (eV 1) (aV (eV 2) (aV (eV 0) cV))) [some (.int (ls.length:Int)),gt τ 6,gt τ 1] G1 _
  rw[h6,h1]
  exists⟨c,T,ls.length,rfl,ac _ (by ac_nf),λc2 hc2=> ?_⟩
  have nca:c2≠acc:=λz=>by rw[z,ga]at hc2;cases hc2
  refine⟨by rw[aE (aG nca)];exact ga,ls++[c2],by rw[aR];rfl,by simp,λk x hk=> ?_,((ge.new hc2).mod hacc),af⟩
  by_cases e:k<ls.length
  ·rw[bT e]at hk
   obtain⟨h3,h4⟩:=hl k x hk
   exact⟨by rw[aE h4,aE (aY h3 hc2)];exact h3,h4⟩
  ·have hk2:k=ls.length:=by
    have:=(aq.mp hk).1
    simp at this;ac_nf
   subst hk2
   have:x=c2:=by simpa using hk.symm
   subst this
   exact⟨by rw[aE nca,af],nca⟩
 ·rintro ys G1 ⟨ls,rfl,hl0,hl,ge,ga⟩
  rw[iH]at hl0
  exact q acc ls G1 ga hl0 (λk x hk=>(hl k x hk).1) ge hacc
theorem IE{n:Nat}{ps:List Pt}{T:List Nat}{e:Nat}{so:Addr}{G:Gp}{D:D2}(a:Ask (n+1) (.row ps) T e)(gs:G so=some (.lst []))
  (q:∀t5 t6 t7 G',G' so=some (.lst ((bf T (.row ps) e).map qZ))->Ch [so] G G'->D.nx (oA (.row ps) T e so none t5 t6 t7 none none) G'):tRw n D (oA (.row ps) T e so none none none none none none) G:=by
 have okp:(2<=ps.length/\ps.length<=3)/\(inA 5 (.row ps)/\∀i,inR 5 (ps.take i))/\oQ ps:=a.ok
 have hdp:depth (.row ps)=1+a9 ps:=rfl
 have hT:=a.t
 have he:=a.e
 have lens:∀i,(gl T (ps.take i) [([],e)]).length<=14900788:=λi=>BK hT (okp.2.1.2 i) he
 exists⟨cA,cA,cA,λs0 hs0=> ?_⟩
 have ns0:so≠s0:=aY gs hs0
 exists eF (x:= .tup (cN ps)) rfl ?_
 exists⟨λi τ G'=>∃sm t6 t7,τ=oA (.row ps) T e so none (some (.ref sm)) t6 t7 none none/\G' sm=some (.lst ((gl T (ps.take i) [([],e)]).map EF))/\GE G G'/\G sm=none,⟨s0,none,none,rfl,?_,GE.refl.new hs0,hs0⟩,?_,?_,?_⟩
 ·rw[af];simp[gl,EF];rfl
 ·intros;trivial
 ·rintro i x τ G' hx ⟨sm,t6,t7,rfl,g1,ge,hsm⟩
  obtain⟨c,hc,rfl⟩:=uX hx
  have mc:=ax hc
  have hdc:=fO mc
  have okc:=ja okp.2.2 c mc
  have hi:=(aq.mp hc).1
  have ac:∀k,k<=T.length->Ask n c T k:=λk hk=>a.sub okc (by ac_nf) hk
  have sn:=sH T c (ps.take i) [([],e)]
  have tk:ps.take (i+1)=ps.take i++[c]:=by rw[bt,hc];rfl
  rw[<-tk]at sn
  have hl2:=lens (i+1)
  rw[sn]at hl2
  change tI (AW (aV (iT jd (tJ jj (aV (eV 1) cV)) (eC (PV.int 1))) cV)) [none,some 6,some 1] 0 kj (gS (gC n) (aV (eV 1) (aV (eV 2) (aV (eV 0) cV)))) (oA (.row ps) T e so none (some (.ref sm)) (some (il c)) t7 none none) G' _
  refine FY (p:=c) ac hT rfl rfl λmo ls G2 g2 hll hls mB hmo=> ?_
  exists⟨sm,mo,T,c,gl T (ps.take i) [([],e)],ls,rfl,mB _ _ g1,g2,hll,hls,λs hs=>⟨?_,?_⟩,by ac_nf,BH hT okc,λc2 hc2=> ?_⟩
  ·exact qe T (ps.take i) [([],e)] (λs hs=>by cases au.mp hs;exact he) s hs
  ·have:=qF T (ps.take i) [([],e)] 0 (λs hs=>by cases au.mp hs;exact am _) s hs
   rw[bo]at this
   ac_nf
  ·refine⟨c2,_,_,rfl,by rw[af,sn],(ge.trans mB).new hc2,none_of (ge.trans mB) hc2⟩
 ·rintro τ G' ⟨sm,t6,t7,rfl,g1,ge,hsm⟩
  have hl2:=lens ps.length
  rw[cy,bj]at g1
  rw[bj]at hl2
  have gs':=ge _ _ gs
  have nss:so≠sm:=aY gs hsm
  exists⟨o5 gs',?_⟩
  left
  rw[aO g1]
  left
  intro acc hacc
  have nsa:sm≠acc:=aY g1 hacc
  have noa:so≠acc:=aY gs' hacc
  refine A8 (λs=>qZ (Tr.row s.1,s.2)) (by ac_nf) (λys=>aO (by rw[aE nsa];exact g1)) (λx ys R hx r=>⟨cA,cA,r⟩) ?_
  exists mf (xs:=[]) (ys:=(gl T ps [([],e)]).map λs=>qZ (Tr.row s.1,s.2)) (by rw[aE noa];exact gs') af (by rw[ai];simp;ac_nf) ?_
  refine q _ _ _ _ ?_ ((ge.ch.new hacc).put (by simp))
  rw[af,show bf T (.row ps) e=(gl T ps [([],e)]).map λs=>(Tr.row s.1,s.2)by unfold bf;rfl,bp];rfl
noncomputable def vF:Tr->List Tr
 | .again ts=>ts
 |_=>[]
noncomputable def Ba(T:List Nat)(p:Pt)(l:List (Tr×Nat)):List (Tr×Nat):=l.flatMap λt=>(bf T (.again p) t.2).map λu=>(Tr.again (t.1::vF u.1),u.2)
theorem yN{T:List Nat}{p:Pt}{e:Nat}(hc:bN p=false)(he:e<=T.length):bf T (.again p) e=Ba T p (bf T p e)++[(.again [],e)]:=by
 rw[sG hc he]
 rfl
theorem BI{T:List Nat}{p:Pt}{e:Nat}{x:Tr×Nat}(h:x∈bf T (.again p) e):∃ts,x.1= .again ts/\ts.length<=T.length+1:=by
 unfold bf at h
 obtain⟨s,hs,rfl⟩:=av.mp h
 refine⟨s.1,rfl,?_⟩
 have go:∀(n e:Nat) (s:List Tr×Nat),s∈Bh (bf T p) n e->s.1.length<=n:=by
  intro n
  induction n with
  |zero=>intro e s hs;cases au.mp hs;exact am _
  |succ n ih=>
   intro e s hs
   rcases aZ.mp hs with hs|hs
   ·obtain⟨t,ht,hs⟩:=bB.mp hs
    obtain⟨u,hu,rfl⟩:=av.mp hs
    have:=ih t.2 u hu
    simp;ac_nf
   ·cases au.mp hs;exact bn _
 have:=go _ _ s hs
 ac_nf
theorem Es{n:Nat}{p:Pt}{T:List Nat}{e:Nat}{so:Addr}{G:Gp}{D:D2}(a:Ask (n+1) (.again p) T e)(gs:G so=some (.lst []))
  (q:∀t5 t8 t9 G',G' so=some (.lst ((bf T (.again p) e).map qZ))->Ch [so] G G'->D.nx (oA (.again p) T e so none t5 none none t8 t9) G'):tAg n D (oA (.again p) T e so none none none none none none) G:=by
 have okx:bN p=false/\inA 5 (.again p)/\fQ p:=a.ok
 have hdp:depth (.again p)=1+depth p:=rfl
 have hT:=a.t
 have he:=a.e
 have had:=a.d
 have tot:=a.len
 have eq:=yN (T:=T) okx.1 he
 rw[eq,aL]at tot
 have tot':(Ba T p (bf T p e)).length+1<=14900788:=tot
 exists eF (x:=il p) rfl ?_
 left
 have ap:Ask n p T e:=a.sub okx.2.2 (by ac_nf) he
 refine⟨p,T,e,rfl,ap,λc2 hc2=> ?_⟩
 have ns2:so≠c2:=aY gs hc2
 left
 rw[aO af]
 exists⟨λi τ G'=>∃t5 t8 t9,τ=oA (.again p) T e so none t5 none none t8 t9/\G' so=some (.lst ((Ba T p ((bf T p e).take i)).map qZ))/\G' c2=some (.lst ((bf T p e).map qZ))/\Ch [so] G G',⟨none,none,none,rfl,by rw[aE ns2];exact gs,af,Ch.refl.new hc2⟩,?_,?_,?_⟩
 ·rintro i τ G' hi ⟨_,_,_,rfl,g1,g2,c1⟩
  exact aO g2
 ·rintro i x τ G' hx ⟨t5,t8,t9,rfl,g1,g2,c1⟩
  rw[aC]at hx
  cases ex:(bf T p e)[i]? with
  |none=>rw[ex]at hx;cases hx
  |some y=>
   rw[ex]at hx
   cases hx
   have my:=ax ex
   have hy1:=j3 T p e okx.1 y my
   have hy2:=gH T p e he y my
   have ay:Ask n (.again p) T y.2:=⟨a.ok,by ac_nf,hy2,hT⟩
   have hyl:=ay.len
   have tk:(bf T p e).take (i+1)=(bf T p e).take i++[y]:=by rw[bt,ex];rfl
   have sn:Ba T p ((bf T p e).take (i+1))=Ba T p ((bf T p e).take i)++(bf T (.again p) y.2).map λu=>(Tr.again (y.1::vF u.1),u.2):=by
    rw[tk];unfold Ba;rw[gU];simp
   have hle:(Ba T p ((bf T p e).take (i+1))).length<=(Ba T p (bf T p e)).length:=by
    have:Ba T p (bf T p e)=Ba T p ((bf T p e).take (i+1))++Ba T p ((bf T p e).drop (i+1)):=by
     unfold Ba
     rw[<-gU,cP]
    rw[this,aL]
    ac_nf
   rw[sn,aL,ai]at hle
   exists⟨.again p,T,y.2,rfl,ay,λc3 hc3=> ?_⟩
   have ns3:so≠c3:=aY g1 hc3
   have n23:c2≠c3:=aY g2 hc3
   exists⟨o5 (by rw[aE ns3];exact g1),?_⟩
   left
   rw[aO af]
   left
   intro acc hacc
   have nca:c3≠acc:=aY af hacc
   have nsa:so≠acc:=aY (show up G' c3 _ so=_ by rw[aE ns3];exact g1) hacc
   have n2a:c2≠acc:=aY (show up G' c3 _ c2=_ by rw[aE n23];exact g2) hacc
   refine nW (λu=>qZ (Tr.again (y.1::vF u.1),u.2)) (by ac_nf) (λys=>aO (by rw[aE nca,af])) (λx ys R hx r=> ?_) ?_
   ·obtain⟨us,hus,hul⟩:=BI hx
    rw[hus]at r⊢
    refine⟨cA,?_⟩
    refine eF (x:= .tup (eI us)) rfl ?_
    refine vp (xs:=[ic y.1]) (ys:=eI us) (by rw[fA];simp;ac_nf) ?_
    exact⟨cA,cA,r⟩
   ·left
    refine mf (xs:=(Ba T p ((bf T p e).take i)).map qZ) (ys:=(bf T (.again p) y.2).map λu=>qZ (Tr.again (y.1::vF u.1),u.2)) (by rw[aE nsa,aE ns3];exact g1) af (by rw[ai,ai];ac_nf) ?_
    refine⟨_,_,_,rfl,?_,?_,?_⟩
    ·rw[af,sn,aR,bp];rfl
    ·rw[aE (aG ns2),aE n2a,aE n23];exact g2
    ·exact(((c1.new hc3).new hacc).put (by simp))
 ·rintro τ G' ⟨t5,t8,t9,rfl,g1,g2,c1⟩
  rw[ai,bj]at g1
  exists⟨o5 g1,?_⟩
  exists⟨cA,cA,cA,?_⟩
  refine fJ g1 (by rw[ai];ac_nf) ?_
  refine q _ _ _ _ ?_ (c1.put (by simp))
  rw[af,eq,aR];rfl
theorem BJ{T:List Nat}{nm:Str}{x:Pt}{e:Nat}:bf T (.held nm x) e=(bf T x e).map λt=>(Tr.held nm t.1,t.2):=by
 conv=>lhs;unfold bf
theorem Af{T:List Nat}{nm:Int}{x:Pt}{e:Nat}:bf T (.price nm x) e=(bf T x e).map λt=>(Tr.price nm t.1,t.2):=by
 conv=>lhs;unfold bf
section
variable{P:aK}{w:aX}{K:PySem.W.Frag}{mg:Str->Option ae}{base:Heap}{f fa fp fb:Addr}{fd da db:a8}
theorem C9{n k:Nat}(hk:1<=k)(F:Fun K "_law_trees" "_law_trees" kC f fd)(B:BN mg)(CB:cq P w K mg base 1 "_law_both" fb db ["some", "more"] uv)(C:cq P w K mg base k "_law_trees" fa da ["pattern", "text", "at"] (gC n)):iL P w K mg base (k+1) f fd ["pattern", "text", "at"] (gC (n+1)):=by
 have nd:=Lx.nd
 have hUE:=pV.mk
 refine jX F Lx (λvs G Q h=> ?_) (λcdv A outer s H E as G Q hr h=> ?_)
 ·obtain⟨_,_,_,rfl,_⟩:=h
  rfl
 have hU:=eD hr
 apply jw
 case a=>
  symm
  all_goals try first
   |(refine' j7 cT1 dT1 rfl ?_ λ_ _ _ _=>⟨?_,?_⟩)
   |(refine' j7 cT2 dT2 rfl ?_ λ_ _ _ _=>⟨?_,?_⟩)
   |(refine' j7 cT4 dT4 rfl ?_ λ_ _ _ _=>⟨?_,?_⟩)
   |(refine' j7 cT5 dT5 rfl ?_ λ_ _ _ _=>⟨?_,?_⟩)
   |(refine' nE (n:=7) (ix:=[none,some 6,some 1]) (j:=0) nd rfl rfl cT3 rfl ?_ (λC s H fp=>⟨?_,?_⟩))
   |(refine' o4 (ix:=[none,some 6,some 1]) (j:=0) cT3 rfl ?_ (λC s H fp=>⟨?_,?_⟩))
  all_goals symm
 obtain⟨p,T,e,rfl,a,q⟩:=h
 have hT:=a.t
 have he:=a.e
 left
 cases p with
 |blank=>
  nofun
  exists fz rfl rfl (ia rfl ?_)
  exists⟨cA,cA,cA,λc hc=>⟨_,GE.refl,?_⟩⟩
  have:=q c hc
  rw[show bf T .blank e=[(.blank,e)]by unfold bf;rfl]at this
  exact this
 |sign z=>
  have okz:1<=z.length/\z.length<=5:=a.ok
  nofun
  ext
  nofun
  exists fz rfl rfl (ia rfl ?_)
  have no:bf T (.sign z) e=[]->∀c,G c=none->∃G0,GE G0 (up G c (.lst []))/\Q (.ref c) G0:=λh c hc=>⟨_,GE.refl,by have:=q c hc;rw[h]at this;exact this⟩
  exists kK (by rw[eW];ac_nf) ?_
  rw[eW]
  exists sr (λh=> ?_) (λh=> ?_)
  ·have h1:(e:Int)<(T.length:Nat):=of_decide_eq_true h
   have h2:e<T.length:=by ac_nf
   obtain⟨ch,ec⟩:∃ch,T[e]? =some ch:=⟨_,ak h2⟩
   exists pE (c:=ch) (by rw[eW];ac_nf) (bI (by rw[qo];exact ec)) ?_
   exists eF (x:= .str z) rfl ?_
   exists HQ ?_
   left
   by_cases hc:ch∈z.cps.toList
   ·refine ia (decide_eq_true hc) ?_
    exists pE (c:=ch) (by rw[eW];ac_nf) (bI (by rw[qo];exact ec)) ?_
    exists⟨cA,?_⟩
    refine kg ?_
    refine⟨cA,cA,λc hc2=>⟨_,GE.refl,?_⟩⟩
    have:=q c hc2
    rw[show bf T (.sign z) e=[(.sign ⟨#[ch]⟩,e+1)]by unfold bf;rw[ec];simp only[if_pos hc]]at this
    exact this
   ·refine lw (decide_eq_false hc) ?_
    exists⟨cA,no ?_⟩
    unfold bf;rw[ec];simp only[if_neg hc]
  ·have h1:¬(e:Int)<(T.length:Nat):=of_decide_eq_false h
   exists⟨cA,no ?_⟩
   unfold bf;rw[cQ (by ac_nf)]
 |none=>
  nofun
  ext
  nofun
  ext
  exists⟨cA,λso hso=> ?_⟩
  nofun
  ext
  nofun
  exists⟨cA,rfl,rfl,?_⟩
  refine lw rfl ?_
  nofun
  ext
  nofun
  ext
  exists⟨_,GE.refl,?_⟩
  have:=q so hso
  rw[show bf T .none e=[]by unfold bf;rfl]at this
  exact this
 |pick ps=>
  nofun
  ext
  nofun
  ext
  exists⟨cA,λso hso=> ?_⟩
  nofun
  exists fz rfl rfl (ia rfl ?_)
  refine Fl a af λt4 t5 G1 g1 c1=> ?_
  nofun
  exists⟨cA,rfl,rfl,?_⟩
  refine lw rfl ?_
  nofun
  ext
  nofun
  ext
  exists⟨up G so (.lst _),λb o h=> ?_,q so hso⟩
  by_cases hb:b=so
  ·subst hb;rw[af]at h;cases h;exact g1
  ·rw[aE hb]at h
   exact c1 b o (by simpa using hb) (by rw[aE hb];exact h)
 |held nm x=>
  have okx:nm.length<=8/\fQ x:=a.ok
  nofun
  ext
  nofun
  ext
  exists⟨cA,λso hso=> ?_⟩
  nofun
  ext
  nofun
  exists⟨cA,rfl,rfl,?_⟩
  refine ia rfl ?_
  refine zO (pp:= .held nm x) (w:=Tr.held nm) a okx.2 rfl rfl (λ_=>rfl) BJ af λt5 G1 g1 c1=> ?_
  nofun
  ext
  nofun
  ext
  exists⟨up G so (.lst _),λb o h=> ?_,q so hso⟩
  by_cases hb:b=so
  ·subst hb;rw[af]at h;cases h;exact g1
  ·rw[aE hb]at h
   exact c1 b o (by simpa using hb) (by rw[aE hb];exact h)
 |price nm x=>
  have okx:fQ x:=a.ok
  nofun
  ext
  nofun
  ext
  exists⟨cA,λso hso=> ?_⟩
  nofun
  ext
  nofun
  exists⟨cA,rfl,rfl,?_⟩
  refine ia rfl ?_
  refine zO (pp:= .price nm x) (w:=Tr.price nm) a okx rfl rfl (λ_=>rfl) Af af λt5 G1 g1 c1=> ?_
  nofun
  ext
  nofun
  ext
  exists⟨up G so (.lst _),λb o h=> ?_,q so hso⟩
  by_cases hb:b=so
  ·subst hb;rw[af]at h;cases h;exact g1
  ·rw[aE hb]at h
   exact c1 b o (by simpa using hb) (by rw[aE hb];exact h)
 |row ps=>
  nofun
  ext
  nofun
  ext
  exists⟨cA,λso hso=> ?_⟩
  nofun
  ext
  nofun
  exists⟨cA,rfl,rfl,?_⟩
  refine lw rfl ?_
  nofun
  exists fz rfl rfl (ia rfl ?_)
  refine IE a af λt5 t6 t7 G1 g1 c1=> ?_
  nofun
  ext
  exists⟨up G so (.lst _),λb o h=> ?_,q so hso⟩
  by_cases hb:b=so
  ·subst hb;rw[af]at h;cases h;exact g1
  ·rw[aE hb]at h
   exact c1 b o (by simpa using hb) (by rw[aE hb];exact h)
 |again x=>
  nofun
  ext
  nofun
  ext
  exists⟨cA,λso hso=> ?_⟩
  nofun
  ext
  nofun
  exists⟨cA,rfl,rfl,?_⟩
  refine lw rfl ?_
  nofun
  ext
  nofun
  exists fz rfl rfl (ia rfl ?_)
  refine Es a af λt5 t8 t9 G1 g1 c1=> ?_
  exists⟨up G so (.lst _),λb o h=> ?_,q so hso⟩
  by_cases hb:b=so
  ·subst hb;rw[af]at h;cases h;exact g1
  ·rw[aE hb]at h
   exact c1 b o (by simpa using hb) (by rw[aE hb];exact h)
end
noncomputable abbrev tX:Stmt:=top 36
noncomputable abbrev xj:Stmt:=top 37
section
variable{P:aK}{w:aX}{K:PySem.W.Frag}{mg:Str->Option ae}{base:Heap}{f fa:Addr}{fd da:a8}
theorem y7:bv ["pattern", "text"] ["pattern", "text"] (aN tX):=⟨rfl,rfl,rfl,by decide+kernel,rfl,by decide+kernel,by decide+kernel⟩
noncomputable abbrev kW1:eL:=gn [(".0",.local),("one",.local),("end",.local),("len",.globalImplicit),("text",.free)]
theorem cW1:dE (aN tX) ["pattern", "text"] kW1 ["one", "end", "text"] [none,none,some 1] 0 "one" =true:=by decide+kernel
theorem dW1:iA kW1 ["one", "end", "text"] [none,none,some 1] 1 "end" :=⟨rfl,by decide+kernel,rfl⟩
noncomputable def qa(T:List Nat)(p:Pt):List (Tr×Nat):=(bf T p 0).filter λt=>t.2==T.length
noncomputable def um:hX:=λps G Q=>∃(p:Pt) (T:List Nat),ps=[il p,.str (pR T)]/\fQ p/\depth p<=5/\T.length<=5/\∀c,G c=none->Q (.ref c) (up G c (.lst ((qa T p).map λt=>ic t.1)))
theorem C7{k:Nat}(hk:1<=k)(F:Fun K "_law_whole_trees" "_law_whole_trees" tX f fd)(B:BN mg)(C:cq P w K mg base k "_law_trees" fa da ["pattern", "text", "at"] (gC 40)):iL P w K mg base (k+1) f fd ["pattern", "text"] um:=by
 have nd:=y7.nd
 have hUE:=pV.mk
 refine jX F y7 (λvs G Q h=> ?_) (λcdv A outer s H E as G Q hr h=> ?_)
 ·obtain⟨_,_,rfl,_⟩:=h
  rfl
 have hU:=eD hr
 apply jw
 case a=>
  symm
  all_goals try (refine' j7 cW1 dW1 rfl ?_ λ_ _ _ _=>⟨?_,?_⟩)
  all_goals symm
 obtain⟨p,T,rfl,ok,hd,hT,q⟩:=h
 have ac:Ask 40 p T 0:=⟨ok,by ac_nf,bn _,hT⟩
 have hl:=ac.len
 exists⟨p,T,0,rfl,ac,λc2 hc2=> ?_⟩
 left
 rw[aO af]
 left
 intro acc hacc
 have nca:c2≠acc:=aY af hacc
 have hac0:G acc=none:=(dD hacc).2
 refine⟨λi ys G1=>ys=(((bf T p 0).take i).filter λt=>t.2==T.length).map (λt=>ic t.1)/\G1=up (up G c2 (.lst ((bf T p 0).map qZ))) acc (.lst ys),⟨by simp,rfl⟩,?_,?_,?_⟩
 ·rintro i ys G1 hi ⟨rfl,rfl⟩
  refine⟨aO (by rw[aE nca,af]),af,?_⟩
  rw[ai]
  have h1:=lR (λt:Tr×Nat=>t.2==T.length) ((bf T p 0).take i)
  rw[bo]at h1
  ac_nf
 ·rintro i ys G1 x hx ⟨rfl,rfl⟩
  rw[aC]at hx
  cases ex:(bf T p 0)[i]? with
  |none=>rw[ex]at hx;cases hx
  |some y=>
   rw[ex]at hx
   cases hx
   have tk:(bf T p 0).take (i+1)=(bf T p 0).take i++[y]:=by rw[bt,ex];rfl
   refine⟨_,_,rfl,?_⟩
   exists kK (by rw[eW];ac_nf) ?_
   rw[eW]
   exists fz rfl rfl ?_
   left
   by_cases hy:y.2=T.length
   ·refine ia (by simp[mh,hy]) ?_
    refine⟨af,?_,fZ⟩
    rw[tk,jK,aR]
    simp[hy]
   ·refine lw (by simp[mh];ac_nf) ?_
    refine⟨?_,rfl⟩
    rw[tk,jK,aR]
    simp[hy]
 ·rintro ys G1 ⟨rfl,rfl⟩
  rw[ai,bj]
  refine⟨up G acc (.lst ((qa T p).map λt=>ic t.1)),λb o h=> ?_,q acc hac0⟩
  by_cases hb:b=acc
  ·subst hb;rw[af]at h⊢;exact h
  ·rw[aE hb]at h⊢
   rw[aE (aY h hc2)];exact h
end
section
variable{P:aK}{w:aX}{K:PySem.W.Frag}{mg:Str->Option ae}{base:Heap}{f fn fi ft fp fl:Addr}{fd dn di dt dp dm dl':a8}
theorem zd:bv ["cell", "most", "pool", "letters", "pattern"] ["cell", "most"] (aN xj):=⟨rfl,rfl,rfl,by decide+kernel,rfl,by decide+kernel,by decide+kernel⟩
noncomputable def uq:hX:=λps G Q=>∃c M:Int,ps=[.int c,.int M]/\1<=M/\M<=5/\∀a p z T G',fQ p->depth p<=5->1<=Str.length z->Str.length z<=5->(T.length:Int)<=M->Pool G' a->GE G G'->G a=none->Q (.tup [.ref a,il p,.str z,.str (pR T)]) G'
theorem Dc{k:Nat}(hk:20<=k)(F:Fun K "_law_scene" "_law_scene" xj f fd)(B:BN mg)(CO:cq P w K mg base 1 "_law_pool" fi di ["cell"] xC)(CN:cq P w K mg base 1 "_law_next" fn dn ["pool", "base"] gI)(CL:cq P w K mg base 2 "_law_letters" fl dl' ["pool"] oE)
  (CP:cq P w K mg base k "_law_pattern" fp dp ["pool", "letters", "deep", "room", "blank"] (mY 5)) (CT:cq P w K mg base k "_law_text" ft dt ["pool", "pattern", "letters", "most"] uo):iL P w K mg base (k+1) f fd ["cell", "most"] uq:=by
 have nd:=zd.nd
 have hUE:=pV.mk
 refine jX F zd (λvs G Q h=> ?_) (λcdv A outer s H E as G Q hr h=> ?_)
 ·obtain⟨_,_,rfl,_⟩:=h
  rfl
 have hU:=eD hr
 apply jw
 case a=>symm
 obtain⟨c,M,rfl,M1,M5,q⟩:=h
 exists⟨c,rfl,λa G1 ha p1 c1=> ?_⟩
 exists⟨a,rfl,p1,λz G2 z1 z5 p2 c2=> ?_⟩
 exists⟨a,6,rfl,p2,by decide,by decide,λn6 G3 n0 n1 p3 c3=> ?_⟩
 exists kg ?_
 exists⟨cA,λr hr0=> ?_⟩
 have nra:r≠a:=fV p3 hr0
 exists⟨a,r,z,5,4+n6,true,rfl,⟨p3.new hr0,af,aG nra,z1,z5⟩,by decide,by decide,by ac_nf,λp m' G4 hm' ok dm hb hd w4 c4=> ?_⟩
 have hd5:depth p<=5:=hd
 exists⟨a,p,z,M,rfl,w4.pl,ok,hd5,z1,z5,M1,M5,λT G5 hT p5 c5=> ?_⟩
 refine⟨cA,G5,GE.refl,q a p z T G5 ok hd5 z1 z5 hT p5 ?_ ha⟩
 intro b o hb
 have nb:b≠a:=aY hb ha
 have h3:=(((c1.trans c2).trans c3) b o (by simpa using nb) hb)
 have nbr:b≠r:=aY h3 hr0
 exact c5 b o (by simpa using nb) (c4 b o (by simp[nb,nbr]) (by rw[aE nbr];exact h3))
end
noncomputable abbrev Ie:Stmt:=top 2
theorem HB:bv ["thing"] ["thing"] (aN Ie):=⟨rfl,rfl,rfl,by decide+kernel,rfl,by decide+kernel,by decide+kernel⟩
noncomputable abbrev Bs:Stmt:=top 11
noncomputable abbrev tV:Stmt:=top 12
noncomputable abbrev p7:Stmt:=top 13
@[reducible] noncomputable def Lw:PV->Bool
 | .tup [.str k,_]=>k== "sign"
 |_=>false
@[reducible] noncomputable def Oe:PV->PV
 | .tup [_,y]=>y
 |_=> .non
theorem B3:∀l:List Tr,((eI l).filter Lw).map Oe=(l.filterMap Ix).map PV.str
 |[]=>rfl
 |c::l=>by
  have ih:=B3 l
  show((ic c::eI l).filter Lw).map Oe=_
  cases c with
  |sign s=>
   rw[yB (by rfl),aw,ih];rfl
  |_=>rw[yC (by simp only[ic,Lw];decide),ih];rfl
section
variable{P:aK}{w:aX}{K:PySem.W.Frag}{mg:Str->Option ae}{base:Heap}{f fi:Addr}{fd di:a8}
theorem Cc:bv ["tree", "kind"] ["tree"] (aN Bs):=⟨rfl,rfl,rfl,by decide+kernel,rfl,by decide+kernel,by decide+kernel⟩
noncomputable def uu:hX:=λps G Q=>∃t,ps=[ic t]/\Q (.tup (eI (fP t))) G
theorem FK(F:Fun K "inner_trees" "inner_trees" Bs f fd)(B:BN mg):iL P w K mg base 1 f fd ["tree"] uu:=by
 have nd:=Cc.nd
 refine jX F Cc (λvs G Q h=> ?_) (λcdv A outer s H E as G Q hr h=> ?_)
 ·obtain⟨p,rfl,_⟩:=h
  rfl
 have hU:=eD hr
 apply jw
 case a=>symm
 obtain⟨t,rfl,q⟩:=h
 cases t with
 |blank=>exact⟨cA,rfl,rfl,cA,rfl,rfl,cA,G,GE.refl,q⟩
 |sign s=>exact⟨cA,rfl,rfl,cA,rfl,rfl,cA,G,GE.refl,q⟩
 |row ps=>exact⟨cA,rfl,rfl,G,GE.refl,q⟩
 |again ps=>exact⟨cA,rfl,rfl,G,GE.refl,q⟩
 |pick k p=>exact⟨cA,rfl,rfl,cA,rfl,rfl,cA,G,GE.refl,q⟩
 |held n p=>exact⟨cA,rfl,rfl,cA,rfl,rfl,cA,G,GE.refl,q⟩
 |price n p=>exact⟨cA,rfl,rfl,cA,rfl,rfl,cA,G,GE.refl,q⟩
theorem vS:bv ["tree", "found", "waiting", "inner"] ["tree"] (aN tV):=⟨rfl,rfl,rfl,by decide+kernel,rfl,by decide+kernel,by decide+kernel⟩
noncomputable def qQ:hX:=λps G Q=>∃t,ps=[ic t]/\lD t<=900000/\∀c,G c=none->Q (.ref c) (up G c (.lst (eI (vI t))))
theorem BO(ts:List Tr):(gW ts).length=fU ts:=by
 induction ts with
 |nil=>rfl
 |cons a l ih=>simp only[gW,aL,fU];rw[qg _ a (am _),ih]
theorem Ax(F:Fun K "trees_within" "trees_within" tV f fd)(B:BN mg)(C:cq P w K mg base 1 "inner_trees" fi di ["tree"] uu):iL P w K mg base 2 f fd ["tree"] qQ:=by
 have nd:=vS.nd
 refine jX F vS (λvs G Q h=> ?_) (λcdv A outer s H E as G Q hr h=> ?_)
 ·obtain⟨p,rfl,_⟩:=h
  rfl
 have hU:=eD hr
 apply jw
 case a=>symm
 obtain⟨p,rfl,hz,q⟩:=h
 refine⟨cA,λm hm=>⟨cA,λv hv=> ?_⟩⟩
 obtain⟨hvm,hv⟩:=dD hv
 refine⟨λk τ G'=>∃(dn st:List Tr) (z:Option PV),τ=[some (ic p),some (.ref m),some (.ref v),z]/\G' m=some (.lst (eI dn))/\G' v=some (.lst (eI st.reverse))/\GE G G'/\dn++gW st=vI p/\k=fU st,
  ⟨_,[],[p],.none,rfl,by rw[aE (aG hvm),af];rfl,by rw[af];rfl,(GE.refl.new hm).mod hv,by simp[gW],rfl⟩,?_⟩
 rintro k τ G' ⟨dn,st,z,rfl,gm,gv,ge,he,rfl⟩
 have hl:dn.length+fU st=lD p:=by
  have:=congrArg ib he
  rwa [aL,BO,qg _ p (am _)]at this
 refine pD (aO gv) ?_
 cases st with
 |nil=>
  have hd:dn=vI p:=by simpa [gW]using he
  subst hd
  exact⟨_,ge.at gm,q m hm⟩
 |cons x st=>
  have ln:(eI (x::st).reverse).length=st.length+1:=by rw[fA,bK];rfl
  have hs:fU (x::st)=lD x+fU st:=rfl
  have hx:=mQ x
  have hi:=mO (fP x)
  have hst:=mO st
  rw[show eI (x::st).reverse=eI st.reverse++[ic x]by rw[eY,gR];rfl]at gv ln⊢
  refine ia ?_ ?_
  ·refine decide_eq_true ?_
   rw[ln];ac_nf
  refine⟨⟨_,gv⟩,Cy gv ?_⟩
  refine⟨⟨eI dn,by rw[aE (aG hvm)];exact gm⟩,fJ (by rw[aE (aG hvm)];exact gm) (by rw[fA];ac_nf) ?_⟩
  refine⟨⟨_,by rw[aE hvm,af]⟩,x,rfl,DZ (by rw[aE hvm,af]) ?_ ?_⟩
  ·rw[bK,fA,fA,bK];ac_nf
  refine⟨fU (fP x++st),?_,dn++[x],fP x++st,_,rfl,?_,?_,((ge.mod hv).mod hm).mod hv,?_,rfl⟩
  ·rw[vC];ac_nf
  ·rw[aE (aG hvm),af,gR];rfl
  ·rw[af,oh,gR,uV (fP x)]
  ·rw[vH]
   rw[<-he]
   simp[gW,qh x]
theorem vU:bv ["tree"] ["tree"] (aN p7):=⟨rfl,rfl,rfl,by decide+kernel,rfl,by decide+kernel,by decide+kernel⟩
theorem Ed:dE (aN p7) ["tree"] (gn [(".0",.local),("inner",.local)]) ["inner"] [none] 0 "inner" =true:=by decide+kernel
noncomputable def qS:hX:=λps G Q=>∃t,ps=[ic t]/\wt t/\lD t<=900000/\Q (.str (tx t)) G
theorem Iv{l:List Tr}(h:∀c∈l,Lb c):((l.filterMap Ix).map (·.length)).sum<=l.length:=by
 have:=yU h
 unfold i4 at this
 rw[List.length_flatten,bp]at this
 refine aP (Nat.le_of_eq ?_) this
 congr 1
theorem AA(F:Fun K "text_of" "text_of" p7 f fd)(B:BN mg)(C:cq P w K mg base 2 "trees_within" fi di ["tree"] qQ):iL P w K mg base 3 f fd ["tree"] qS:=by
 have nd:=vU.nd
 refine jX F vU (λvs G Q h=> ?_) (λcdv A outer s H E as G Q hr h=> ?_)
 ·obtain⟨p,rfl,_⟩:=h
  rfl
 have hU:=eD hr
 apply jw
 case a=>
  symm
  all_goals try (refine' o4 Ed rfl ?_ λ_ _ _ _=>⟨?_,?_⟩)
  all_goals symm
 obtain⟨t,rfl,hw,hz,q⟩:=h
 exists⟨t,rfl,hz,λl hl=> ?_⟩
 left
 rw[lH]
 left
 intro acc hacc
 have nla:=aY (G:=up G l (.lst (eI (vI t)))) af hacc
 have hln:=qg _ t (am _)
 refine nV Lw Oe (by rw[fA];ac_nf) (λys=>aO (by rw[aE nla,af])) (λx ys R hx r=> ?_) (λx ys R hx hs r=> ?_) ?_
 ·rw[dL]at hx
  obtain⟨c,_,rfl⟩:=av.mp hx
  cases c<;>exact⟨rfl,rfl,r⟩
 ·rw[dL]at hx
  obtain⟨c,_,rfl⟩:=av.mp hx
  cases c with
  |sign s=>exact r
  |_=>exact absurd hs (by simp only[ic,Lw];decide)
 exists qp (zs:=(vI t).filterMap Ix) (aO (by rw[af,B3])) ?_ ?_
 ·have:=Iv hw
  have e:(aD "").length=0:=rfl
  rw[e,gM]
  ac_nf
 rw[DF]
 exact⟨G,(GE.refl.new hl).new hacc,q⟩
end
noncomputable abbrev NW:Stmt:=top 17
noncomputable abbrev xl:Stmt:=top 18
@[reducible] noncomputable def g7:Int⊕Tr->PV
 | .inl i=> .int i
 | .inr t=>ic t
noncomputable def gj:List Tr->List (Int⊕Tr)
 |[]=>[]
 |t::ts=> .inl 0:: .inr t::gj ts
theorem lV:∀ts:List Tr,(gj ts).length=2*ts.length
 |[]=>rfl
 |t::ts=>by show(gj ts).length+1+1=_;rw[lV ts,aM];ac_nf
theorem qD:∀ts us:List Tr,gj (ts++us)=gj ts++gj us
 |[],us=>rfl
 |t::ts,us=>by show .inl 0:: .inr t::gj (ts++us)=_;rw[qD ts us];rfl
noncomputable def oU:Tr->List (Int⊕Tr)
 | .pick k t=>[.inl k,.inr t]
 | .again ts=>gj ts++[.inl 1]
 |t=>(fP t).map .inr
section
variable{P:aK}{w:aX}{K:PySem.W.Frag}{mg:Str->Option ae}{base:Heap}{f fi:Addr}{fd di:a8}
theorem Ly:bv ["tree", "row", "turn"] ["tree"] (aN NW):=⟨rfl,rfl,rfl,by decide+kernel,rfl,by decide+kernel,by decide+kernel⟩
noncomputable def Iq:hX:=λps G Q=>∃t,ps=[ic t]/\lD t<=400000/\∀c,G c=none->Q (.ref c) (up G c (.lst ((oU t).map g7)))
theorem LU{t0 t1:Tok}(h0:mg "TURN" =some (.int 0 t0))(h1:mg "STOP" =some (.int 1 t1))(F:Fun K "marks_and_trees" "marks_and_trees" NW f fd)(B:BN mg)(C:cq P w K mg base 1 "inner_trees" fi di ["tree"] uu):iL P w K mg base 2 f fd ["tree"] Iq:=by
 have nd:=Ly.nd
 refine jX F Ly (λvs G Q h=> ?_) (λcdv A outer s H E as G Q hr h=> ?_)
 ·obtain⟨_,rfl,_⟩:=h
  rfl
 have hU:=eD hr
 apply jw
 case a=>symm
 obtain⟨t,rfl,hz,q⟩:=h
 cases t with
 |pick k t=>
  refine⟨rfl,rfl,?_⟩
  refine ia rfl ?_
  left
  exact⟨cA,λc hc=>⟨_,GE.refl,q c hc⟩⟩
 |blank=>
  refine⟨rfl,rfl,?_⟩
  refine lw rfl ?_
  exists⟨rfl,rfl,?_⟩
  refine ia rfl ?_
  exists⟨_,rfl,?_⟩
  left
  intro c hc
  have:=q c hc
  rw[show(oU (.blank)).map g7=eI (fP (.blank))by rw[dL];simp[oU,fP,g7];try rfl]at this
  exact⟨_,GE.refl,this⟩
 |sign z=>
  refine⟨rfl,rfl,?_⟩
  refine lw rfl ?_
  exists⟨rfl,rfl,?_⟩
  refine ia rfl ?_
  exists⟨_,rfl,?_⟩
  left
  intro c hc
  have:=q c hc
  rw[show(oU (.sign z)).map g7=eI (fP (.sign z))by rw[dL];simp[oU,fP,g7];try rfl]at this
  exact⟨_,GE.refl,this⟩
 |row ts=>
  refine⟨rfl,rfl,?_⟩
  refine lw rfl ?_
  exists⟨rfl,rfl,?_⟩
  refine ia rfl ?_
  exists⟨_,rfl,?_⟩
  left
  intro c hc
  have:=q c hc
  rw[show(oU (.row ts)).map g7=eI (fP (.row ts))by rw[dL];simp[oU,fP,g7];try rfl]at this
  exact⟨_,GE.refl,this⟩
 |held m t=>
  refine⟨rfl,rfl,?_⟩
  refine lw rfl ?_
  exists⟨rfl,rfl,?_⟩
  refine ia rfl ?_
  exists⟨_,rfl,?_⟩
  left
  intro c hc
  have:=q c hc
  rw[show(oU (.held m t)).map g7=eI (fP (.held m t))by rw[dL];simp[oU,fP,g7];try rfl]at this
  exact⟨_,GE.refl,this⟩
 |price m t=>
  refine⟨rfl,rfl,?_⟩
  refine lw rfl ?_
  exists⟨rfl,rfl,?_⟩
  refine ia rfl ?_
  exists⟨_,rfl,?_⟩
  left
  intro c hc
  have:=q c hc
  rw[show(oU (.price m t)).map g7=eI (fP (.price m t))by rw[dL];simp[oU,fP,g7];try rfl]at this
  exact⟨_,GE.refl,this⟩
 |again ts=>
  refine⟨rfl,rfl,?_⟩
  refine lw rfl ?_
  exists⟨rfl,rfl,?_⟩
  refine lw rfl ?_
  exists⟨cA,λr hr=> ?_⟩
  left
  have hts:ts.length<=400000:=by
   have h1:=mQ (.again ts)
   have h2:=mO ts
   have h3:fP (.again ts)=ts:=rfl
   rw[h3]at h1
   ac_nf
  refine⟨λi τ G1=>∃t2:Option PV,τ=[some (ic (.again ts)),some (.ref r),t2]/\GE G G1/\G1 r=some (.lst ((gj (ts.take i)).map g7)),⟨_,rfl,GE.refl.new hr,by rw[af];rfl⟩,λ_ _ _ _ _=>trivial,?_,?_⟩
  ·rintro i x τ G1 hx ⟨t2,rfl,ge,gr⟩
   obtain⟨c,hc,rfl⟩:=GZ hx
   have tk:ts.take (i+1)=ts.take i++[c]:=by rw[bt,hc];rfl
   have hi:i<ts.length:=(aq.mp hc).1
   exists⟨⟨_,gr⟩,?_⟩
   exists⟨cA,λl hl=> ?_⟩
   exists mf (by rw[aE (aY gr hl)];exact gr) af ?_ ?_
   ·rw[ai,lV,bo]
    show _+2<=_
    ac_nf
   exists⟨_,rfl,(ge.new hl).mod hr,?_⟩
   rw[af,tk,qD,aR]
   rfl
  ·rintro τ G1 ⟨t2,rfl,ge,gr⟩
   rw[fA,bj]at gr
   exists⟨⟨_,gr⟩,?_⟩
   exists fJ gr (by rw[ai,lV];ac_nf) ?_
   exists⟨_,(ge.mod hr).at af,?_⟩
   have:=q r hr
   rw[show(oU (.again ts)).map g7=(gj ts).map g7++[.int 1]by show(gj ts++[iK 1]).map g7=_;rw[aR];rfl]at this
   exact this
end
mutual
noncomputable def mks:Tr->List Int
 | .pick k t=>k::mks t
 | .again ts=>l8 ts
 | .row ts=>l7 ts
 | .held _ t=>mks t
 | .price _ t=>mks t
 |_=>[]
noncomputable def l7:List Tr->List Int
 |[]=>[]
 |t::ts=>mks t++l7 ts
noncomputable def l8:List Tr->List Int
 |[]=>[1]
 |t::ts=>0::(mks t++l8 ts)
end
mutual
noncomputable def wT:Tr->Nat
 | .pick _ t=>2+wT t
 | .again ts=>2+EE ts
 | .row ts=>1+ED ts
 | .held _ t=>1+wT t
 | .price _ t=>1+wT t
 |_=>1
noncomputable def ED:List Tr->Nat
 |[]=>0
 |t::ts=>wT t+ED ts
noncomputable def EE:List Tr->Nat
 |[]=>0
 |t::ts=>1+wT t+EE ts
end
mutual
theorem sC:∀t:Tr,wT t+1<=3*lD t
 | .pick _ t=>by have:=sC t;simp only[wT,lD];ac_nf
 | .again ts=>by have:=BA ts;simp only[wT,lD];ac_nf
 | .row ts=>by have:=Bz ts;simp only[wT,lD];ac_nf
 | .held _ t=>by have:=sC t;simp only[wT,lD];ac_nf
 | .price _ t=>by have:=sC t;simp only[wT,lD];ac_nf
 | .blank=>by simp[wT,lD]
 | .sign _=>by simp[wT,lD]
theorem Bz:∀ts:List Tr,ED ts<=3*fU ts
 |[]=>by simp[ED]
 |t::ts=>by have:=sC t;have:=Bz ts;simp only[ED,fU];ac_nf
theorem BA:∀ts:List Tr,EE ts<=3*fU ts
 |[]=>by simp[EE]
 |t::ts=>by have:=sC t;have:=BA ts;simp only[EE,fU];ac_nf
end
noncomputable def wI:Int⊕Tr->Nat
 | .inl _=>1
 | .inr t=>wT t
noncomputable def oa:List (Int⊕Tr)->Nat
 |[]=>0
 |x::l=>wI x+oa l
theorem qb:∀a b:List (Int⊕Tr),oa (a++b)=oa a+oa b
 |[],b=>by simp[oa]
 |x::a,b=>by simp only[iQ,oa,qb a b];ac_nf
noncomputable def HP:Int⊕Tr->List Int
 | .inl i=>[i]
 | .inr t=>mks t
noncomputable def kx:List (Int⊕Tr)->List Int
 |[]=>[]
 |x::l=>HP x++kx l
theorem wC:∀a b:List (Int⊕Tr),kx (a++b)=kx a++kx b
 |[],b=>rfl
 |x::a,b=>by simp only[iQ,kx,wC a b,cx]
theorem wB:∀ts:List Tr,kx (ts.map .inr)=l7 ts
 |[]=>rfl
 |t::ts=>by simp only[aw,kx,HP,l7,wB ts]
theorem rD:∀ts:List Tr,kx (gj ts++[.inl 1])=l8 ts
 |[]=>rfl
 |t::ts=>by
  show kx (.inl 0:: .inr t::(gj ts++[.inl 1]))=_
  simp only[kx,HP,l8,rD ts]
  rfl
theorem GI(t:Tr):kx (oU t)=mks t:=by
 cases t with
 |pick k t=>simp[oU,kx,HP,mks]
 |again ts=>exact rD ts
 |row ts=>exact wB ts
 |held n t=>simp[oU,fP,kx,HP,mks]
 |price n t=>simp[oU,fP,kx,HP,mks]
 |blank=>rfl
 |sign z=>rfl
theorem yI:∀ts:List Tr,oa (ts.map .inr)=ED ts
 |[]=>rfl
 |t::ts=>by simp only[aw,oa,wI,ED,yI ts]
theorem sD:∀ts:List Tr,oa (gj ts)=EE ts
 |[]=>rfl
 |t::ts=>by
  show oa (.inl 0:: .inr t::gj ts)=_
  simp only[oa,wI,EE,sD ts]
  ac_nf
theorem BB(t:Tr):oa (oU t)+1=wT t:=by
 cases t with
 |pick k t=>simp[oU,oa,wI,wT];ac_nf
 |again ts=>
  show oa (gj ts++[.inl 1])+1=2+EE ts
  rw[qb,sD]
  simp[oa,wI]
  ac_nf
 |row ts=>show oa (ts.map .inr)+1=1+ED ts;rw[yI];ac_nf
 |held n t=>simp[oU,fP,oa,wI,wT];ac_nf
 |price n t=>simp[oU,fP,oa,wI,wT];ac_nf
 |blank=>rfl
 |sign z=>rfl
mutual
theorem om:∀t:Tr,lD t<=wT t
 | .pick _ t=>by have:=om t;simp only[wT,lD];ac_nf
 | .again ts=>by have:=vB ts;simp only[wT,lD];ac_nf
 | .row ts=>by have:=vA ts;simp only[wT,lD];ac_nf
 | .held _ t=>by have:=om t;simp only[wT,lD];ac_nf
 | .price _ t=>by have:=om t;simp only[wT,lD];ac_nf
 | .blank=>by simp[wT,lD]
 | .sign _=>by simp[wT,lD]
theorem vA:∀ts:List Tr,fU ts<=ED ts
 |[]=>by simp[fU]
 |t::ts=>by have:=om t;have:=vA ts;simp only[ED,fU];ac_nf
theorem vB:∀ts:List Tr,fU ts<=EE ts
 |[]=>by simp[fU]
 |t::ts=>by have:=om t;have:=vB ts;simp only[EE,fU];ac_nf
end
section
variable{P:aK}{w:aX}{K:PySem.W.Frag}{mg:Str->Option ae}{base:Heap}{f ft fm:Addr}{fd dt dm:a8}
noncomputable def MN:Int⊕Tr->Bool
 | .inl _=>true
 | .inr _=>false
noncomputable def qR:hX:=λps G Q=>∃x:Int⊕Tr,ps=[g7 x]/\Q (.bl (MN x)) G
theorem Az(F:Fun K "is_whole" "is_whole" Ie f fd)(B:BN mg):iL P w K mg base 1 f fd ["thing"] qR:=by
 have nd:=HB.nd
 refine jX F HB (λvs G Q h=> ?_) (λcdv A outer s H E as G Q hr h=> ?_)
 ·obtain⟨p,rfl,_⟩:=h
  rfl
 have hU:=eD hr
 apply jw
 case a=>symm
 obtain⟨x,rfl,q⟩:=h
 cases x with
 |inl n=>
  exists rE rfl (by decide) ?_
  refine ia rfl ?_
  exists rE rfl (by decide) ?_
  left
  exact⟨G,GE.refl,q⟩
 |inr t=>
  cases t<;>(refine rE rfl (by decide) ?_;refine lw rfl ?_;exact⟨G,GE.refl,q⟩)
theorem zf:bv ["tree", "marks", "waiting", "one"] ["tree"] (aN xl):=⟨rfl,rfl,rfl,by decide+kernel,rfl,by decide+kernel,by decide+kernel⟩
noncomputable def ut:hX:=λps G Q=>∃t,ps=[ic t]/\lD t<=100000/\Q (.tup ((mks t).map PV.int)) G
theorem Df(F:Fun K "marks_of" "marks_of" xl f fd)(B:BN mg)(CW:cq P w K mg base 1 "is_whole" ft dt ["thing"] qR)(C:cq P w K mg base 2 "marks_and_trees" fm dm ["tree"] Iq):iL P w K mg base 3 f fd ["tree"] ut:=by
 have nd:=zf.nd
 refine jX F zf (λvs G Q h=> ?_) (λcdv A outer s H E as G Q hr h=> ?_)
 ·obtain⟨p,rfl,_⟩:=h
  rfl
 have hU:=eD hr
 apply jw
 case a=>symm
 obtain⟨t,rfl,hz,q⟩:=h
 have hwt:=sC t
 refine⟨cA,λm hm=>⟨cA,λv hv=> ?_⟩⟩
 obtain⟨hvm,hv⟩:=dD hv
 refine⟨λk τ G'=>∃(dn:List Int) (st:List (Int⊕Tr)) (z:Option PV),τ=[some (ic t),some (.ref m),some (.ref v),z]/\G' m=some (.lst (dn.map PV.int))/\G' v=some (.lst (st.reverse.map g7))/\GE G G'/\dn++kx st=mks t/\dn.length+oa st<=wT t/\k=oa st,
  ⟨_,[],[.inr t],.none,rfl,by rw[aE (aG hvm),af];rfl,by rw[af];rfl,(GE.refl.new hm).mod hv,by simp[kx,HP],by simp[oa,wI],rfl⟩,?_⟩
 rintro k τ G' ⟨dn,st,z,rfl,gm,gv,ge,he,hl,rfl⟩
 have hlen:∀l:List (Int⊕Tr),l.length<=oa l:=by
  intro l
  induction l with
  |nil=>simp
  |cons x l ih=>
   have:1<=wI x:=by
    cases x with
    |inl i=>exact am _
    |inr t=>have:=BB t;show 1<=wT t;ac_nf
   simp only[aM,oa]
   ac_nf
 refine pD (aO gv) ?_
 cases st with
 |nil=>
  have hd:dn=mks t:=by simpa [kx]using he
  subst hd
  exists oj (aO gm) ?_
  exact⟨G,ge,q⟩
 |cons x st=>
  have ln:((x::st).reverse.map g7).length=st.length+1:=by rw[ai,bK];rfl
  have hls:=hlen st
  have hw:oa (x::st)=wI x+oa st:=rfl
  rw[show(x::st).reverse.map g7=st.reverse.map g7++[g7 x]by rw[eY,aR];rfl]at gv ln⊢
  refine ia ?_ ?_
  ·refine decide_eq_true ?_
   rw[ln];ac_nf
  refine⟨⟨_,gv⟩,Cy gv ?_⟩
  exists⟨x,rfl,?_⟩
  cases x with
  |inl i=>
   refine ia rfl ?_
   exists⟨⟨_,by rw[aE (aG hvm)];exact gm⟩,?_⟩
   refine fJ (by rw[aE (aG hvm)];exact gm) (by rw[ai];ac_nf) ?_
   have h1:wI (.inl i)=1:=rfl
   refine⟨oa st,by ac_nf,dn++[i],st,_,rfl,?_,?_,(ge.mod hv).mod hm,?_,?_,rfl⟩
   ·rw[af,aR];rfl
   ·rw[aE hvm,af]
   ·rw[<-he];simp[kx,HP]
   ·rw[aL];show dn.length+1+oa st<=wT t;ac_nf
  |inr u=>
   have h1:wI (.inr u)=wT u:=rfl
   have h2:=BB u
   have h3:=hlen (oU u)
   refine lw rfl ?_
   exists⟨⟨_,by rw[af]⟩,?_⟩
   exists⟨u,rfl,?_,λr hr'=> ?_⟩
   ·have:=om u
    ac_nf
   left
   rw[lH]
   left
   intro r2 hr2
   have nvr:v≠r:=λe=>by subst e;rw[af]at hr';cases hr'
   have gv2:up (up G' v (.lst (st.reverse.map g7))) r (.lst ((oU u).map g7)) v=some (.lst (st.reverse.map g7)):=by rw[aE nvr,af]
   have nv2:v≠r2:=aY gv2 hr2
   have nmr:m≠r:=aY (show up G' v (.lst (st.reverse.map g7)) m=some (.lst (dn.map PV.int))by rw[aE (aG hvm)];exact gm) hr'
   have gm2:up (up G' v (.lst (st.reverse.map g7))) r (.lst ((oU u).map g7)) m=some (.lst (dn.map PV.int)):=by rw[aE nmr,aE (aG hvm)];exact gm
   have nm2:m≠r2:=aY gm2 hr2
   exists mf (xs:=st.reverse.map g7) (ys:=((oU u).map g7).reverse) (by rw[aE nv2];exact gv2) af ?_ ?_
   ·rw[ai,bK,bK,ai];ac_nf
   refine⟨oa (oU u++st),by rw[qb];ac_nf,dn,oU u++st,_,rfl,?_,?_,(((ge.mod hv).new hr').new hr2).mod hv,?_,?_,rfl⟩
   ·rw[aE (aG hvm),aE nm2];exact gm2
   ·rw[af,oh,aR,List.map_reverse (l:=oU u)]
   ·rw[wC,GI,<-he];rfl
   ·rw[qb];ac_nf
end
noncomputable abbrev Bv:Stmt:=eX (top 9) 1
noncomputable abbrev xq:Stmt:=eX (top 20) 0
noncomputable abbrev ub:Stmt:=eX (top 20) 1
noncomputable abbrev xp:Stmt:=eX (top 21) 0
noncomputable abbrev tW:Stmt:=eX (top 21) 1
noncomputable abbrev tY:Stmt:=eX (top 21) 2
noncomputable abbrev xt:Stmt:=eX (top 21) 3
noncomputable abbrev EI:Stmt:=eX (top 21) 4
noncomputable abbrev qy:Stmt:=eX (top 21) 5
noncomputable abbrev mI:Stmt:=eX (top 21) 6
noncomputable abbrev mH:Stmt:=eX (top 21) 7
noncomputable def jH:List Nat->Nat->Nat×Nat
 |[],k=>(0,k)
 |n::ns,k=>if k<n then(0,k)else((jH ns (k-n)).1+1,(jH ns (k-n)).2)
theorem kR(n:Nat)(ns:List Nat)(k:Nat):jH (n::ns) k=if k<n then(0,k)else((jH ns (k-n)).1+1,(jH ns (k-n)).2):=rfl
theorem zU:∀(ns:List Nat) (k:Nat),k<ns.sum->(jH ns k).1<ns.length/\(jH ns k).2+(ns.take (jH ns k).1).sum=k
 |[],k,h=>absurd h (jm _)
 |n::ns,k,h=>by
  rw[ba]at h
  rw[kR]
  by_cases e:k<n
  ·rw[if_pos e];exact⟨by simp,by simp⟩
  ·rw[if_neg e]
   obtain⟨h1,h2⟩:=zU ns (k-n) (by ac_nf)
   refine⟨by simp only[aM];ac_nf,?_⟩
   show(jH ns (k-n)).2+(n::ns.take (jH ns (k-n)).1).sum=k
   rw[ba]
   ac_nf
structure Gs where
 ms:List Int
 N:Nat
 u:Nat
 k:Nat
noncomputable def gF(g:Gs):List (Str×PV):=[("marks",.tup (g.ms.map PV.int)),("used",.int (g.u:Int)),("passed",.int ((g.N:Int)-(g.k:Int)))]
noncomputable def Gs.to(g:Gs)(d r:Nat):Gs:=⟨g.ms,g.N,g.u+d,r⟩
theorem EO(ns:List Nat):(ns.map fun(n:Nat)=>(n:Int)).sum=((ns.sum:Nat):Int):=by
 induction ns with
 |nil=>rfl
 |cons n ns ih=>rw[aw,ba,ih,ba,Int.natCast_add]
section
variable{P:aK}{w:aX}{K:PySem.W.Frag}{mg:Str->Option ae}{base:Heap}{f C CB:Addr}{fd:a8}
theorem Cg:bv ["self", "number", "at"] ["self", "number", "at"] (aN Bv):=⟨rfl,rfl,rfl,by decide+kernel,rfl,by decide+kernel,by decide+kernel⟩
noncomputable def oF(C:Addr):hX:=λps G Q=>∃(a dx m pa tb:Addr) (ts:List Addr) (T:List Nat) (p q:Pt) (n e:Nat),ps=[.ref a,.int (n:Int),.int (e:Int)]/\Tb C G a T p (λ_ _=>True) dx m pa tb ts/\(makes p)[n]? =some q/\e<=T.length/\
 ∀d ws,G d=some (.rd (fk ws))->Wy ws (T.length+1) (nT T q e)->Q (.ref d) G
theorem FO(c:Cls K C)(n4:NoAttr K C "table")(F:Fun K "ends_of" "Counts.ends_of" Bv f fd)(B:BN mg):iL P w K mg base 1 f fd ["self", "number", "at"] (oF C):=by
 have nd:=Cg.nd
 refine jX F Cg (λvs G Q h=> ?_) (λcdv A outer s H E as G Q hr h=> ?_)
 ·obtain⟨_,_,_,_,_,_,_,_,_,_,_,rfl,_⟩:=h
  rfl
 have hU:=eD hr
 apply jw
 case a=>symm
 obtain⟨a,dx,m,pa,tb,ts,T,p,qq,n,e,rfl,tbl,hq,he,q⟩:=h
 obtain⟨t,d,kvs,ms,r1,r2,r3,r4,r5⟩:=tbl.read hq (k:=e) trivial he
 exists cI tbl.ins rfl ?_
 exists cj (aO tbl.tbl) (bI r1) ?_
 exists nG (kl r2) rfl r3 ?_
 exact⟨_,GE.refl,q d ms r4 r5⟩
theorem zk:bv ["self", "marks"] ["self", "marks"] (aN xq):=⟨rfl,rfl,rfl,by decide+kernel,rfl,by decide+kernel,by decide+kernel⟩
noncomputable def y0(CB:Addr):hX:=λps G Q=>∃(a dx:Addr) (ms:List Int),ps=[.ref a,.tup (ms.map PV.int)]/\G a=some (.ins CB dx [])/\Q .non (up G a (.ins CB dx [("marks",.tup (ms.map PV.int)),("used",.int 0),("passed",.int 0)]))
theorem Dk(c:Cls K CB)(n1:NoAttr K CB "marks")(n2:NoAttr K CB "used")(n3:NoAttr K CB "passed")(F:Fun K "__init__" "ByMarks.__init__" xq f fd)(B:BN mg):iL P w K mg base 1 f fd ["self", "marks"] (y0 CB):=by
 have nd:=zk.nd
 refine jX F zk (λvs G Q h=> ?_) (λcdv A outer s H E as G Q hr h=> ?_)
 ·obtain⟨_,_,_,rfl,_⟩:=h
  rfl
 have hU:=eD hr
 apply jw
 case a=>symm
 obtain⟨a,dx,ms,rfl,ga,q⟩:=h
 exists jB ga (aW rfl) ?_
 exists jB af (aW rfl) ?_
 exists jB af (aW rfl) ?_
 rw[fZ,fZ]
 exact⟨_,GE.refl,q⟩
theorem vW:bv ["self", "sizes", "mark"] ["self", "sizes"] (aN ub):=⟨rfl,rfl,rfl,by decide+kernel,rfl,by decide+kernel,by decide+kernel⟩
noncomputable def jN(CB:Addr):hX:=λps G Q=>∃(a dx sz:Addr) (g:Gs) (ns:List Nat),ps=[.ref a,.ref sz]/\G a=some (.ins CB dx (gF g))/\G sz=some (.lst (ns.map fR))/\g.k<ns.sum/\g.ms[g.u]? =some ((jH ns g.k).1:Int)/\
 ∀c,G c=none->Q (.int ((jH ns g.k).1:Nat)) (up (up G c (.lst ((ns.take (jH ns g.k).1).map fR))) a (.ins CB dx (gF (g.to 1 (jH ns g.k).2))))
noncomputable def KR(C a:Addr)(f:Str)(i:Int)(Q:Gp->Prop)(y:PV)(G1:Gp):Prop:=match y with
 | .int j=>match G1 a with
  |some (.ins C'' dx' fs')=>C''=C/\fs'.length<1000/\Q (up G1 a (.ins C dx' (i9 f (.int (i+j)) fs')))
  |_=>False
 |_=>False
theorem Eo{C a dx:Addr}{f:Str}{G:Gp}{Q:Gp->Prop}{fs:List (Str×PV)}{i j:Int}{τ:je}(h:G a=some (.ins C dx fs))(e:fs.lookup f=some (.int i))(hl:fs.length<1000)(hq:Q (up G a (.ins C dx (i9 f (.int (i+j)) fs)))):tT C f (.ref a) (eC (.int j)) τ G Q:=by
 unfold tT;simp only[h,e,eC];exact⟨trivial,trivial,hl,hq⟩
theorem KP{C a dx:Addr}{f:Str}{G:Gp}{Q:Gp->Prop}{fs:List (Str×PV)}{i:Int}{τ:je}{tv:E2}(h:G a=some (.ins C dx fs))(e:fs.lookup f=some (.int i))
  (q:tv τ G λy G1=>KR C a f i Q y G1):tT C f (.ref a) tv τ G Q:=by
 unfold tT;simp only[h,e]
 exact⟨trivial,q⟩
theorem KQ{C a dx:Addr}{f:Str}{G:Gp}{Q:Gp->Prop}{fs:List (Str×PV)}{i j:Int}(h:G a=some (.ins C dx fs))(hl:fs.length<1000)(q:Q (up G a (.ins C dx (i9 f (.int (i+j)) fs)))):KR C a f i Q (.int j) G:=by
 unfold KR;simp only[h]
 exact⟨trivial,hl,q⟩
theorem Lv{a:Addr}{lo hi:Option Int}{xs:List PV}{G:Gp}{Q:K2}(h:lk G a=some xs)(q:∀c,G c=none->Q (.ref c) (up G c (.lst (pf xs lo hi)))):Bf (.ref a) lo hi G Q:=by
 unfold Bf;simp only[h]
 exact q
theorem AD(c:Cls K CB)(n1:NoAttr K CB "marks")(n2:NoAttr K CB "used")(n3:NoAttr K CB "passed")(F:Fun K "choose" "ByMarks.choose" ub f fd)(B:BN mg):iL P w K mg base 1 f fd ["self", "sizes"] (jN CB):=by
 have nd:=vW.nd
 refine jX F vW (λvs G Q h=> ?_) (λcdv A outer s H E as G Q hr h=> ?_)
 ·obtain⟨_,_,_,_,_,rfl,_⟩:=h
  rfl
 have hU:=eD hr
 apply jw
 case a=>symm
 obtain⟨a,dx,sz,g,ns,rfl,ga,gs,hk,hm,q⟩:=h
 obtain⟨h1,h2⟩:=zU ns g.k hk
 have nsa:sz≠a:=λz=>by rw[z,ga]at gs;cases gs
 exists cI ga rfl ?_
 exists cI ga rfl ?_
 exists eF (x:= .int ((jH ns g.k).1:Int)) (bI (by rw[aC,hm];rfl)) ?_
 exists Eo ga rfl (aW rfl) ?_
 exists KP af rfl ?_
 exists Lv (aO (show up G a (.ins CB dx (i9 "used" (.int ((g.u:Int)+1)) (gF g))) sz=_ from by rw[aE nsa];exact gs)) λc hc=> ?_
 have hcut:pf (ns.map fR) none (some ((jH ns g.k).1:Int))=(ns.take (jH ns g.k).1).map fR:=by
  unfold pf
  rw[HT.sIx_none,HT.sIx_nat,ai,lQ (by ac_nf),Nat.sub_zero,List.drop_zero,List.map_take]
 rw[hcut]
 have nca:c≠a:=(dD hc).1
 have hc0:G c=none:=(dD hc).2
 exists xz (ns:=(ns.take (jH ns g.k).1).map fun(n:Nat)=>(n:Int)) (by rw[bp];exact lH) ?_
 rw[EO]
 refine KQ (show up (up G a _) c _ a=some (.ins CB dx (i9 "used" (.int ((g.u:Int)+1)) (gF g)))from by rw[aE (aG nca),af]) (aW rfl) ?_
 left
 have q2:=q c hc0
 refine⟨_,GE.refl,?_⟩
 have e1:i9 "passed" (.int (((g.N:Int)-(g.k:Int))+(((ns.take (jH ns g.k).1).sum:Nat):Int))) (i9 "used" (.int ((g.u:Int)+1)) (gF g))=gF (g.to 1 (jH ns g.k).2):=by
  show[(("marks" :Str),PV.tup (g.ms.map PV.int)),("used",.int ((g.u:Int)+1)),("passed",.int (((g.N:Int)-(g.k:Int))+(((ns.take (jH ns g.k).1).sum:Nat):Int)))]=_
  unfold gF Gs.to
  rw[show((g.N:Int)-(g.k:Int))+(((ns.take (jH ns g.k).1).sum:Nat):Int)=(g.N:Int)-((jH ns g.k).2:Int)by ac_nf]
  rfl
 rw[ug nca,fZ]at*
 rw[e1]
 exact q2
end
noncomputable def zR(cn gd:Addr)(e:Nat):List (Str×PV):=[("counts",.ref cn),("guide",.ref gd),("at",.int (e:Int))]
noncomputable def NM:Pt->Prop
 | .row ps=>1<=ps.length/\ps.length<=6
 | .pick ps=>1<=ps.length/\ps.length<=6
 |_=>True
structure Ds(CD CC CB:Addr)(G:Gp)(ds cn gd:Addr)(T:List Nat)(p:Pt)(k:Gs)(e:Nat)(dd db dx m pa tb:Addr)(ts:List Addr):Prop where
 ins:G ds=some (.ins CD dd (zR cn gd e))
 gui:G gd=some (.ins CB db (gF k))
 tab:Tb CC G cn T p (λ_ _=>True) dx m pa tb ts
 cs:Cs T p
 ar:∀q∈makes p,NM q
noncomputable def On(G:Gp)(ow:Addr)(S:Nat->Prop)(o:Nat->Nat):Prop:=∃kvs,kz G ow=some kvs/\∀j,S j->(ig kvs (.inl (j:Int))).getD (.int 0)= .int (o j:Int)
section
variable{CD CC CB:Addr}{G G':Gp}{ds cn gd dd db dx m pa tb:Addr}{T:List Nat}{p:Pt}{k:Gs}{e:Nat}{ts:List Addr}
theorem Ds.ge(h:Ds CD CC CB G ds cn gd T p k e dd db dx m pa tb ts)(g:GE G G'):Ds CD CC CB G' ds cn gd T p k e dd db dx m pa tb ts:=⟨g _ _ h.ins,g _ _ h.gui,h.tab.ge g,h.cs,h.ar⟩
theorem Ec{a:Addr}{kvs:List (Key×PV)}(g:GE G G')(h:kz G a=some kvs):kz G' a=some kvs:=by
 cases eg:G a with
 |none=>simp[kz,eg]at h
 |some o=>
  cases o with
  |dK k'=>simp[kz,eg]at h;subst h;exact kl (g _ _ eg)
  |rd k'=>simp[kz,eg]at h;subst h;exact rQ (g _ _ eg)
  |_=>simp[kz,eg]at h
theorem On.ge{ow:Addr}{S:Nat->Prop}{o:Nat->Nat}(h:On G ow S o)(g:GE G G'):On G' ow S o:=by
 obtain⟨kvs,h1,h2⟩:=h
 exact⟨kvs,Ec g h1,h2⟩
end
section
variable{P:aK}{w:aX}{K:PySem.W.Frag}{mg:Str->Option ae}{base:Heap}{f fa CD CC CB:Addr}{fd da:a8}
theorem y9:bv ["self", "number", "at", "onward", "ends"] ["self", "number", "at", "onward"] (aN tY):=⟨rfl,rfl,rfl,by decide+kernel,rfl,by decide+kernel,by decide+kernel⟩
theorem Hd:dE (aN tY) ["self", "number", "at", "onward", "ends"] (gn [(".0",.local),("end",.local),("ends",.free),("onward",.free)]) ["end", "ends", "onward"] [none,some 4,some 3] 0 "end" =true:=by decide+kernel
noncomputable def kW(CD CC CB:Addr):hX:=λps G Q=>∃(ds cn gd dd db dx m pa tb:Addr) (ts:List Addr) (T:List Nat) (p q:Pt) (k:Gs) (e0 n e:Nat) (ow:Addr) (o:Nat->Nat),ps=[.ref ds,.int (n:Int),.int (e:Int),.ref ow]/\Ds CD CC CB G ds cn gd T p k e0 dd db dx m pa tb ts/\(makes p)[n]? =some q/\e<=T.length/\On G ow (λj=>nT T q e j≠0) o/\
 Q (.int (bL o (bf T q e):Nat)) G
theorem vK:∀(ws:Ws) (g:Nat->Nat),(ws.map λv=>((v.2:Nat):Int)*((g v.1:Nat):Int)).sum=(((ws.map λv=>g v.1*v.2).sum:Nat):Int)
 |[],g=>rfl
 |v::ws,g=>by
  rw[aw,ba,vK ws g,aw,ba]
  rw[Int.natCast_add,Int.natCast_mul,Int.mul_comm]
theorem Da(c:Cls K CD)(n1:NoAttr K CD "counts")(F:Fun K "size" "Descent.size" tY f fd)(B:BN mg)(ME:fq P w K mg base CC 1 "ends_of" fa da ["self", "number", "at"] (oF CC)):iL P w K mg base 2 f fd ["self", "number", "at", "onward"] (kW CD CC CB):=by
 have nd:=y9.nd
 refine jX F y9 (λvs G Q h=> ?_) (λcdv A outer s H E as G Q hr h=> ?_)
 ·obtain⟨_,_,_,_,_,_,_,_,_,_,_,_,_,_,_,_,_,_,_,rfl,_⟩:=h
  rfl
 have hU:=eD hr
 apply jw
 case a=>
  symm
  all_goals try (refine' o4 Hd rfl ?_ λ_ _ _ _=>⟨?_,?_⟩)
  all_goals symm
 obtain⟨ds,cn,gd,dd,db,dx,m,pa,tb,ts,T,p,qq,k,e0,n,e,ow,o,rfl,D,hq,he,⟨okv,ho1,ho2⟩,q⟩:=h
 exists cI D.ins rfl ?_
 exists⟨⟨cn,dx,_,rfl,D.tab.ins,rfl⟩,?_⟩
 exists⟨cn,dx,m,pa,tb,ts,T,p,qq,n,e,rfl,D.tab,hq,he,λd ws gd' wy=> ?_⟩
 exists yl rfl gd' ?_
 rw[jS]
 intro acc hacc
 have nda:d≠acc:=aY gd' hacc
 have hln:=wy.len
 have hLT:=D.cs.len
 refine nV (λ_=>true) (λx=>match x with| .int i=> .int ((ku ws i.toNat:Int)*(o i.toNat:Int))|_=> .non) (by rw[ai];ac_nf) (λys=>by rw[aE nda];exact gd') (λx ys R _ hR=>hR) (λx ys R hx _ hR=> ?_) ?_
 ·obtain⟨v,hv,rfl⟩:=av.mp hx
  obtain⟨i,hi⟩:=iO.mp hv
  obtain⟨k1,k2,k3⟩:=wy.key hi
  have hlk:=oV wy.nd hi
  have goe:kz (up G acc (.lst ys)) ow=some okv:=Ec (GE.refl.new hacc) ho1
  exists nG (rQ (by rw[aE nda];exact gd')) rfl (wy.read hi) ?_
  exists⟨uR goe,?_⟩
  exists yg goe rfl ?_
  rw[ho2 v.1 (by show nT T qq e v.1≠0;rw[k1];ac_nf)]
  exists Dr (.inl ⟨by ac_nf,by have:=wy.big D.cs (ax hq) he v hv;ac_nf⟩) ?_
  have e1:((v.1:Int)).toNat=v.1:=by ac_nf
  show R (.int ((v.2:Int)*(o v.1:Int))) _
  change R (.int ((ku ws ((v.1:Int)).toNat:Int)*(o ((v.1:Int)).toNat:Int))) _ at hR
  rw[e1,hlk]at hR
  exact hR
 have el:((ws.map λw=>PV.int (w.1:Int)).filter λ_=>true).map (λx=>match x with| .int i=>PV.int ((ku ws i.toNat:Int)*(o i.toNat:Int))|_=> .non)=(ws.map λv=>((v.2:Nat):Int)*((o v.1:Nat):Int)).map PV.int:=by
  rw[oi.mpr (λ_ _=>rfl),bp,bp]
  refine fE λv hv=> ?_
  obtain⟨i,hi⟩:=iO.mp hv
  have e1:((v.1:Int)).toNat=v.1:=by ac_nf
  show PV.int ((ku ws ((v.1:Int)).toNat:Int)*(o ((v.1:Int)).toNat:Int))= .int ((v.2:Int)*(o v.1:Int))
  rw[e1,oV wy.nd hi]
 rw[el]
 exists xz (ns:=ws.map λv=>((v.2:Nat):Int)*((o v.1:Nat):Int)) lH ?_
 rw[vK ws o,KA (h:=o) wy.nd wy.lt]
 refine⟨G,GE.refl.new hacc,?_⟩
 have e2:c7 (T.length+1) (λk=>ku ws k*o k)=bL o (bf T qq e):=by
  rw[EJ he]
  exact dW λj _=>by rw[wy.val]
 rw[e2]
 exact q
end
section
variable{P:aK}{w:aX}{K:PySem.W.Frag}{mg:Str->Option ae}{base:Heap}{f fa CD CC CB:Addr}{fd da:a8}
theorem zj:bv ["self", "counts", "guide"] ["self", "counts", "guide"] (aN xp):=⟨rfl,rfl,rfl,by decide+kernel,rfl,by decide+kernel,by decide+kernel⟩
noncomputable def yZ(CD:Addr):hX:=λps G Q=>∃(a dx cn gd:Addr),ps=[.ref a,.ref cn,.ref gd]/\G a=some (.ins CD dx [])/\Q .non (up G a (.ins CD dx (zR cn gd 0)))
theorem Dj(c:Cls K CD)(n1:NoAttr K CD "counts")(n2:NoAttr K CD "guide")(n3:NoAttr K CD "at")(F:Fun K "__init__" "Descent.__init__" xp f fd)(B:BN mg):iL P w K mg base 1 f fd ["self", "counts", "guide"] (yZ CD):=by
 have nd:=zj.nd
 refine jX F zj (λvs G Q h=> ?_) (λcdv A outer s H E as G Q hr h=> ?_)
 ·obtain⟨_,_,_,_,rfl,_⟩:=h
  rfl
 have hU:=eD hr
 apply jw
 case a=>symm
 obtain⟨a,dx,cn,gd,rfl,ga,q⟩:=h
 exists jB ga (aW rfl) ?_
 exists jB af (aW rfl) ?_
 exists jB af (aW rfl) ?_
 rw[fZ,fZ]
 exact⟨_,GE.refl,q⟩
theorem zm:bv ["self", "number", "places", "onward", "ahead", "place"] ["self", "number", "places", "onward"] (aN xt):=⟨rfl,rfl,rfl,by decide+kernel,rfl,by decide+kernel,by decide+kernel⟩
noncomputable def na(CD CC CB:Addr):hX:=λps G Q=>∃(ds cn gd dd db dx m pa tb:Addr) (ts:List Addr) (T:List Nat) (p q:Pt) (k:Gs) (e0 n:Nat) (pl ow:Addr) (js:List Nat) (o:Nat->Nat),ps=[.ref ds,.int (n:Int),.ref pl,.ref ow]/\Ds CD CC CB G ds cn gd T p k e0 dd db dx m pa tb ts/\(makes p)[n]? =some q/\G pl=some (.lst (js.map fR))/\js.length<=10000/\(∀j∈js,j<=T.length)/\On G ow (λi=>∃j∈js,nT T q j i≠0) o/\
 ∀c G',G c=none->GE G G'->On G' c (λj=>j∈js) (λj=>bL o (bf T q j))->Q (.ref c) G'
theorem Dl(c:Cls K CD)(n1:NoAttr K CD "counts")(F:Fun K "onward_ahead" "Descent.onward_ahead" xt f fd)(B:BN mg)(MS:fq P w K mg base CD 2 "size" fa da ["self", "number", "at", "onward"] (kW CD CC CB)):iL P w K mg base 3 f fd ["self", "number", "places", "onward"] (na CD CC CB):=by
 have nd:=zm.nd
 refine jX F zm (λvs G Q h=> ?_) (λcdv A outer s H E as G Q hr h=> ?_)
 ·obtain⟨_,_,_,_,_,_,_,_,_,_,_,_,_,_,_,_,_,_,_,_,rfl,_⟩:=h
  rfl
 have hU:=eD hr
 apply jw
 case a=>symm
 obtain⟨ds,cn,gd,dd,db,dx,m,pa,tb,ts,T,p,qq,k,e0,n,pl,ow,js,o,rfl,D,hq,gp,hjl,hjs,hon,q⟩:=h
 left
 intro ah hah
 left
 rw[aO (show up G ah (.dK []) pl=some (.lst (js.map fR))by rw[aE (aY gp hah)];exact gp)]
 exists⟨λi τ G'=>∃(kvs:List (Key×PV)) (t5:Option PV),τ=[some (.ref ds),some (.int (n:Int)),some (.ref pl),some (.ref ow),some (.ref ah),t5]/\G'=up G ah (.dK kvs)/\kvs.length<=i/\∀j∈js.take i,ig kvs (.inl (j:Int))=some (.int (bL o (bf T qq j):Nat)),⟨[],none,rfl,rfl,am _,by simp⟩,?_,?_,?_⟩
 ·rintro i τ G' hi ⟨kvs,t5,rfl,rfl,_⟩
  exact aO (by rw[aE (aY gp hah)];exact gp)
 ·rintro i x τ G' hx ⟨kvs,t5,rfl,rfl,hl,hv⟩
  rw[aC]at hx
  cases ej:js[i]? with
  |none=>rw[ej]at hx;cases hx
  |some j=>
   rw[ej]at hx
   cases hx
   have mj:=ax ej
   have hil:=(aq.mp ej).1
   have ge1:GE G (up G ah (.dK kvs)):=GE.refl.new hah
   have D1:=D.ge ge1
   obtain⟨okv,ho1,ho2⟩:=hon.ge ge1
   exists⟨⟨ds,dd,_,rfl,D1.ins,rfl⟩,?_⟩
   exists⟨ds,cn,gd,dd,db,dx,m,pa,tb,ts,T,p,qq,k,e0,n,j,ow,o,rfl,D1,hq,hjs j mj,⟨okv,ho1,λi hi=>ho2 i ⟨j,mj,hi⟩⟩,?_⟩
   exists qU af rfl (by ac_nf) ?_
   refine⟨_,_,rfl,by rw[fZ],?_,λj' hj'=> ?_⟩
   ·have:=ni (k:= .inl (j:Int)) (v:= .int (bL o (bf T qq j):Nat)) kvs
    ac_nf
   ·show ig (iE kvs (.inl (j:Int)) (.int (bL o (bf T qq j):Nat))) (.inl (j':Int))=_
    rw[qB]
    by_cases e:j=j'
    ·subst e;rw[if_pos rfl]
    ·rw[if_neg (rn e)]
     rw[bt,ej]at hj'
     rcases aZ.mp hj' with h|h
     ·exact hv j' h
     ·exact absurd (by simpa using h) (aG e)
 ·rintro τ G' ⟨kvs,t5,rfl,rfl,hl,hv⟩
  rw[ai,bj]at hv
  exists⟨_,GE.refl,q ah _ hah (GE.refl.new hah) ⟨kvs,kl af,λj hj=> ?_⟩⟩
  rw[hv j hj];rfl
end
theorem zv{T:List Nat}{o:Nat->Nat}{e:Nat}:∀(ps:List Pt) (i k:Nat),k<(ps.map λc=>bL o (bf T c e)).sum->
  ∃c,ps[(jH (ps.map λc=>bL o (bf T c e)) k).1]? =some c/\(jH (ps.map λc=>bL o (bf T c e)) k).2<bL o (bf T c e)/\
   pk o (eE T ps i e) k=(pk o (bf T c e) (jH (ps.map λc=>bL o (bf T c e)) k).2).map λy=>(Tr.pick ((i+(jH (ps.map λc=>bL o (bf T c e)) k).1:Nat):Int) y.1,y.2)
 |[],i,k,h=>absurd h (jm _)
 |p::ps,i,k,h=>by
  rw[aw,ba]at h
  rw[aw,kR]
  have hw:bL o ((bf T p e).map λt=>(Tr.pick (i:Int) t.1,t.2))=bL o (bf T p e):=mJ (Tr.pick (i:Int)) (bf T p e)
  by_cases hk:k<bL o (bf T p e)
  ·rw[if_pos hk]
   refine⟨p,rfl,hk,?_⟩
   unfold eE
   rw[ql _ _ _ (by rw[hw];exact hk),oM (Tr.pick (i:Int)) (bf T p e) k]
   rfl
  ·rw[if_neg hk]
   obtain⟨c,h1,h2,h3⟩:=zv (T:=T) (o:=o) (e:=e) ps (i+1) (k-bL o (bf T p e)) (by ac_nf)
   refine⟨c,by simpa using h1,h2,?_⟩
   unfold eE
   rw[nj _ _ _ (by rw[hw];ac_nf),hw,h3]
   congr 1
   funext y
   rw[show i+1+(jH (ps.map λc=>bL o (bf T c e)) (k-bL o (bf T p e))).1=i+((jH (ps.map λc=>bL o (bf T c e)) (k-bL o (bf T p e))).1+1)by ac_nf]
theorem sB{T:List Nat}{o:Nat->Nat}{e:Nat}:∀(ps:List Pt) (i:Nat),bL o (eE T ps i e)=(ps.map λc=>bL o (bf T c e)).sum
 |[],i=>by unfold eE;rfl
 |p::ps,i=>by
  unfold eE
  rw[kD,mJ (Tr.pick (i:Int)) (bf T p e),sB ps (i+1),aw,ba]
theorem re{T:List Nat}{ps:List Pt}{c:Pt}{e j:Nat}(hc:c∈ps)(h:nT T c e j≠0):nT T (.pick ps) e j≠0:=by
 rw[qm]
 induction ps with
 |nil=>cases hc
 |cons x ps ih=>
  rw[aw,ba]
  rcases aI.mp hc with rfl|hc
  ·ac_nf
  ·have:=ih hc;ac_nf
noncomputable def mC(T:List Nat)(r:Pt)(o:Nat->Nat)(e:Nat):Nat:=bL o (bf T (.again r) e)
noncomputable def wQ(t:Tr)(u:Tr):Tr:= .again (t::vF u)
theorem vn{T:List Nat}{r:Pt}{e:Nat}(hc:bN r=false)(he:e<=T.length):bf T (.again r) e=((bf T r e).flatMap λt=>(bf T (.again r) t.2).map λu=>(wQ t.1 u.1,u.2))++[(.again [],e)]:=yN hc he
theorem En{T:List Nat}{r:Pt}{o:Nat->Nat}{e:Nat}(hc:bN r=false)(he:e<=T.length):mC T r o e=bL (mC T r o) (bf T r e)+o e:=by
 unfold mC
 rw[vn hc he,kD,iX (λj=>bf T (.again r) j) wQ (bf T r e),gQ,i3]
 rfl
theorem Fi{T:List Nat}{r:Pt}{o:Nat->Nat}{e k:Nat}(hc:bN r=false)(he:e<=T.length)(hk:k<bL (mC T r o) (bf T r e)):
  pk o (bf T (.again r) e) k=(pk (mC T r o) (bf T r e) k).bind λy=>(pk o (bf T (.again r) y.2.1) y.2.2).map λz=>(wQ y.1 z.1,z.2):=by
 rw[vn hc he,ql _ _ _ (by rw[iX (λj=>bf T (.again r) j) wQ (bf T r e)];exact hk)]
 exact uC (λj=>bf T (.again r) j) wQ (bf T r e) k
theorem Fj{T:List Nat}{r:Pt}{o:Nat->Nat}{e k:Nat}(hc:bN r=false)(he:e<=T.length)(hk:¬k<bL (mC T r o) (bf T r e))(hk2:k<mC T r o e):
  pk o (bf T (.again r) e) k=some (.again [],e,k-bL (mC T r o) (bf T r e)):=by
 rw[En hc he]at hk2
 rw[vn hc he,nj _ _ _ (by rw[iX (λj=>bf T (.again r) j) wQ (bf T r e)];exact Nat.le_of_not_lt hk),iX (λj=>bf T (.again r) j) wQ (bf T r e)]
 show pk o [(Tr.again [],e)] (k-bL (mC T r o) (bf T r e))=_
 rw[L3.pk_cons,if_pos (by show k-bL (mC T r o) (bf T r e)<o e;ac_nf)]
theorem yq{T:List Nat}{r:Pt}(hc:bN r=false):∀(n e0 e e1:Nat),T.length-e0<=n->e0<=T.length->nT T (.again r) e0 e≠0->e<=T.length->nT T r e e1≠0->nT T (.again r) e0 e1≠0:=by
 intro n
 induction n with
 |zero=>
  intro e0 e e1 hn h0 h he h1
  have h2:=tz h
  obtain rfl:e0=e:=by ac_nf
  have h3:e0<e1:=by
   rcases cW e0 e1 with z|z
   ·exact z
   ·exact absurd (jP hc z) h1
  exact absurd (jE h0 (by ac_nf)) h1
 |succ n ih=>
  intro e0 e e1 hn h0 h he h1
  have hlt:e<e1:=by
   rcases cW e e1 with z|z
   ·exact z
   ·exact absurd (jP hc z) h1
  have he1:e1<=T.length:=by
   rcases cW T.length e1 with z|z
   ·exact absurd (jE he z) h1
   ·exact z
  have one:nT T (.again r) e1 e1≠0:=by rw[iG hc he1,if_pos rfl];ac_nf
  have go:∀k,k<=T.length->nT T r e0 k≠0->nT T (.again r) k e1≠0->nT T (.again r) e0 e1≠0:=λk hk a b=>by
   rw[iG hc h0]
   have t:=sL (n:=T.length+1) (f:=λk=>nT T r e0 k*nT T (.again r) k e1) (i:=k) (by ac_nf)
   have:0<nT T r e0 k*nT T (.again r) k e1:=Nat.mul_pos (eJ a) (eJ b)
   change nT T r e0 k*nT T (.again r) k e1<=_ at t
   ac_nf
  by_cases e2:e0=e
  ·subst e2
   exact go e1 he1 h1 one
  ·rw[iG hc h0,if_neg e2,en]at h
   obtain⟨k,hk,hz⟩:=mT h
   have a:nT T r e0 k≠0:=λz=>hz (by rw[z,gL])
   have b:nT T (.again r) k e≠0:=λz=>hz (by rw[z,gM])
   have hk0:e0<k:=by
    rcases cW e0 k with z|z
    ·exact z
    ·exact absurd (jP hc z) a
   exact go k (by ac_nf) a (ih k e e1 (by ac_nf) (by ac_nf) b he h1)
section
variable{CD CC CB:Addr}{G G':Gp}{ds cn gd dd db dx m pa tb:Addr}{T:List Nat}{p:Pt}{k k':Gs}{e e':Nat}{ts:List Addr}
theorem Ds.ch(h:Ds CD CC CB G ds cn gd T p k e dd db dx m pa tb ts)(c:Ch [ds,gd] G G')(h1:G' ds=some (.ins CD dd (zR cn gd e')))(h2:G' gd=some (.ins CB db (gF k'))):Ds CD CC CB G' ds cn gd T p k' e' dd db dx m pa tb ts:=by
 have ng:∀{b:Addr} {o:MO},G b=some o->o≠ .ins CD dd (zR cn gd e)->o≠ .ins CB db (gF k)->G' b=some o:=fun{b o} hb ho ho2=>by
  refine c b o (λz=> ?_) hb
  rcases aI.mp z with z|z
  ·rw[z,h.ins]at hb;cases hb;exact ho rfl
  ·rw[au.mp z,h.gui]at hb;cases hb;exact ho2 rfl
 refine⟨h1,h2,⟨ng h.tab.ins (by intro z;cases z) (by intro z;cases z),ng h.tab.mks (by intro z;cases z) (by intro z;cases z),ng h.tab.pts (by intro z;cases z) (by intro z;cases z),ng h.tab.tbl (by intro z;cases z) (by intro z;cases z),h.tab.tl,λi t hi=> ?_⟩,h.cs,h.ar⟩
 obtain⟨kvs,h1,h3⟩:=h.tab.row i t hi
 refine⟨kvs,ng h1 (by intro z;cases z) (by intro z;cases z),λq hq e he hl=> ?_⟩
 obtain⟨d,ws,h4,h5,h6⟩:=h3 q hq e he hl
 exact⟨d,ws,h4,ng h5 (by intro z;cases z) (by intro z;cases z),h6⟩
theorem KE{a:Addr}{kvs:List (Key×PV)}(h:kz G a=some kvs)(D:Ds CD CC CB G ds cn gd T p k e dd db dx m pa tb ts)(c:Ch [ds,gd] G G'):kz G' a=some kvs:=by
 have n1:a≠ds:=λz=>by rw[z]at h;simp[kz,D.ins]at h
 have n2:a≠gd:=λz=>by rw[z]at h;simp[kz,D.gui]at h
 cases eg:G a with
 |none=>simp[kz,eg]at h
 |some o=>
  have:=c a o (by simp[n1,n2]) eg
  unfold kz at h⊢
  rw[eg]at h;rw[this];exact h
theorem On.ch{ow:Addr}{S:Nat->Prop}{o:Nat->Nat}(h:On G ow S o)(D:Ds CD CC CB G ds cn gd T p k e dd db dx m pa tb ts)(c:Ch [ds,gd] G G'):On G' ow S o:=by
 obtain⟨kvs,h1,h2⟩:=h
 exact⟨kvs,KE h1 D c,h2⟩
theorem On.mono{ow:Addr}{S S':Nat->Prop}{o:Nat->Nat}(h:On G ow S o)(s:∀j,S' j->S j):On G ow S' o:=by
 obtain⟨kvs,h1,h2⟩:=h
 exact⟨kvs,h1,λj hj=>h2 j (s j hj)⟩
theorem uc{ws:Ws}{n:Nat}{f:Nat->Nat}{j:Nat}(h:Wy ws n f):j∈ws.map (·.1)↔f j≠0:=by
 constructor
 ·intro hj
  obtain⟨w,hw,rfl⟩:=av.mp hj
  obtain⟨i,hi⟩:=iO.mp hw
  obtain⟨k1,k2,k3⟩:=h.key hi
  ac_nf
 ·intro hj
  by_cases e:j∈ws.map (·.1)
  ·exact e
  ·exact absurd (by rw[<-h.val];exact nv e) hj
end
theorem xT{T:List Nat}{p:Pt}{e j:Nat}{t:Tr}(h:(t,j)∈bf T p e):nT T p e j≠0:=by
 have:0<jY (bf T p e) j:=jp.mpr ⟨(t,j),h,by simp⟩
 unfold nT
 ac_nf
theorem Et{T:List Nat}{r:Pt}(hc:bN r=false):∀(n e0 e e1:Nat),T.length-e0<=n->e0<=T.length->nT T (.again r) e0 e≠0->e<=T.length->nT T (.again r) e e1≠0->nT T (.again r) e0 e1≠0:=by
 intro n
 induction n with
 |zero=>
  intro e0 e e1 hn h0 h he h1
  have h2:=tz h
  obtain rfl:e0=e:=by ac_nf
  exact h1
 |succ n ih=>
  intro e0 e e1 hn h0 h he h1
  by_cases e2:e0=e
  ·subst e2;exact h1
  ·rw[iG hc h0,if_neg e2,en]at h
   obtain⟨k,hk,hz⟩:=mT h
   have a:nT T r e0 k≠0:=λz=>hz (by rw[z,gL])
   have b:nT T (.again r) k e≠0:=λz=>hz (by rw[z,gM])
   have hk0:e0<k:=by
    rcases cW e0 k with z|z
    ·exact z
    ·exact absurd (jP hc z) a
   have c:=ih k e e1 (by ac_nf) (by ac_nf) b he h1
   rw[iG hc h0]
   have t:=sL (n:=T.length+1) (f:=λk=>nT T r e0 k*nT T (.again r) k e1) (i:=k) (by ac_nf)
   have:0<nT T r e0 k*nT T (.again r) k e1:=Nat.mul_pos (eJ a) (eJ c)
   change nT T r e0 k*nT T (.again r) k e1<=_ at t
   ac_nf
noncomputable def xg(T:List Nat):List Pt->Nat->Nat->Prop
 |[],e,j=>e=j
 |p::ps,e,j=>∃i,nT T p e i≠0/\xg T ps i j
theorem vt{T:List Nat}:∀(ps qs:List Pt) (e j:Nat),xg T (ps++qs) e j↔∃i,xg T ps e i/\xg T qs i j
 |[],qs,e,j=>⟨λh=>⟨e,rfl,h⟩,λ⟨i,h1,h2⟩=>by obtain rfl:e=i:=h1;exact h2⟩
 |p::ps,qs,e,j=>by
  constructor
  ·rintro⟨i,h1,h2⟩
   obtain⟨i2,h3,h4⟩:=(vt ps qs i j).mp h2
   exact⟨i2,⟨i,h1,h3⟩,h4⟩
  ·rintro⟨i,⟨i2,h1,h2⟩,h3⟩
   exact⟨i2,h1,(vt ps qs i2 j).mpr ⟨i,h2,h3⟩⟩
theorem nX{T:List Nat}{ps:List Pt}{c:Pt}{k e j:Nat}(hc:ps[k]? =some c):xg T (ps.take (k+1)) e j↔∃i,xg T (ps.take k) e i/\nT T c i j≠0:=by
 rw[bt,hc]
 show xg T (ps.take k++[c]) e j↔_
 rw[vt]
 constructor
 ·rintro⟨i,h1,i2,h2,h3⟩
  obtain rfl:i2=j:=h3
  exact⟨i,h1,h2⟩
 ·rintro⟨i,h1,h2⟩
  exact⟨i,h1,j,h2,rfl⟩
theorem xU{T:List Nat}{p:Pt}{e j:Nat}:nT T p e j≠0↔∃t,(t,j)∈bf T p e:=by
 constructor
 ·intro h
  obtain⟨x,hx,hp⟩:=jp.mp (eJ (show(bf T p e).countP (λs=>s.2==j)≠0 from h))
  obtain rfl:x.2=j:=by simpa using hp
  exact⟨x.1,hx⟩
 ·rintro⟨t,h⟩
  exact xT h
theorem rY{T:List Nat}:∀(ps:List Pt) (e j:Nat),(∃u,(u,j)∈fI T ps e)↔xg T ps e j
 |[],e,j=>by
  unfold fI xg
  constructor
  ·rintro⟨u,h⟩
   have:=au.mp h
   exact(congrArg Prod.snd this).symm
  ·rintro rfl
   exact⟨[],au.mpr rfl⟩
 |p::ps,e,j=>by
  unfold fI
  constructor
  ·rintro⟨u,h⟩
   obtain⟨t,ht,h2⟩:=bB.mp h
   obtain⟨v,hv,h3⟩:=av.mp h2
   obtain rfl:v.2=j:=congrArg Prod.snd h3
   exact⟨t.2,xU.mpr ⟨t.1,ht⟩,(rY ps t.2 v.2).mp ⟨v.1,hv⟩⟩
  ·rintro⟨i,h1,h2⟩
   obtain⟨t,ht⟩:=xU.mp h1
   obtain⟨u,hu⟩:=(rY ps i j).mpr h2
   exact⟨t::u,bB.mpr ⟨(t,i),ht,av.mpr ⟨(u,j),hu,rfl⟩⟩⟩
theorem xS{T:List Nat}{ps:List Pt}{e j:Nat}:nT T (.row ps) e j≠0↔xg T ps e j:=by
 rw[xU,<-rY,kE]
 constructor
 ·rintro⟨t,h⟩
  obtain⟨s,hs,h2⟩:=av.mp h
  obtain rfl:s.2=j:=congrArg Prod.snd h2
  exact⟨s.1,hs⟩
 ·rintro⟨u,h⟩
  exact⟨.row u,av.mpr ⟨(u,j),h,rfl⟩⟩
theorem ph{T:List Nat}:∀(ps:List Pt) (e j:Nat),e<=T.length->xg T ps e j->j<=T.length
 |[],e,j,he,h=>by obtain rfl:e=j:=h;exact he
 |p::ps,e,j,he,⟨i,h1,h2⟩=>by
  refine ph ps i j ?_ h2
  rcases cW T.length i with z|z
  ·exact absurd (jE he z) h1
  ·exact z
noncomputable def AH(ws ms:Ws):Ws:=ms.foldl (λacc w=>ji acc w.1 w.2) ws
theorem zt:∀(ws:Ws) (j c x:Nat),x∈(ji ws j c).map (·.1)↔x=j\/x∈ws.map (·.1)
 |[],j,c,x=>by simp[ji]
 |w::ws,j,c,x=>by
  have ih:=zt ws j c x
  unfold ji
  split
  ·rename_i h
   rw[aw,aw,aI,aI]
   constructor
   ·rintro(h1|h1)
    ·exact .inl h1
    ·exact .inr (.inr h1)
   ·rintro(h1|h1|h1)
    ·exact .inl h1
    ·exact .inl (by rw[h1];first|exact h|exact h.symm)
    ·exact .inr h1
  ·rw[aw,aw,aI,aI,ih]
   constructor
   ·rintro(h1|h1|h1)
    ·exact .inr (.inl h1)
    ·exact .inl h1
    ·exact .inr (.inr h1)
   ·rintro(h1|h1|h1)
    ·exact .inr (.inl h1)
    ·exact .inl h1
    ·exact .inr (.inr h1)
theorem zB:∀(ms ws:Ws) (x:Nat),x∈(AH ws ms).map (·.1)↔x∈ws.map (·.1)\/x∈ms.map (·.1)
 |[],ws,x=>by simp[AH]
 |m::ms,ws,x=>by
  show x∈(AH (ji ws m.1 m.2) ms).map (·.1)↔_
  rw[zB ms,zt,aw,aI]
  constructor
  ·rintro((h|h)|h)
   ·exact .inr (.inl h)
   ·exact .inl h
   ·exact .inr (.inr h)
  ·rintro(h|h|h)
   ·exact .inl (.inr h)
   ·exact .inl (.inl h)
   ·exact .inr h
theorem zA:∀(ms ws:Ws),(ws.map (·.1)).Nodup->((AH ws ms).map (·.1)).Nodup
 |[],ws,h=>h
 |m::ms,ws,h=>zA ms _ (kX h)
theorem wk:∀(ms ws:Ws),(ws.map (·.1)).Nodup->AI (fk ws) (fk ms)=fk (AH ws ms)
 |[],ws,h=>rfl
 |m::ms,ws,h=>by
  show AI (iE (fk ws) (.inl (m.1:Int)) (.int (m.2:Int))) (fk ms)=_
  rw[qY ws m.1 m.2 h]
  exact wk ms _ (kX h)
theorem z8{T:List Nat}{o:Nat->Nat}{p:Pt}{ps:List Pt}{e:Nat}:bL (λj=>bL o (fI T ps j)) (bf T p e)=bL o (fI T (p::ps) e):=by
 conv=>rhs;unfold fI
 exact(iX (λj=>fI T ps j) (fun(t:Tr) (u:List Tr)=>t::u) (bf T p e)).symm
theorem Fk{T:List Nat}{o:Nat->Nat}{p:Pt}{ps:List Pt}{e k:Nat}:pk o (fI T (p::ps) e) k=(pk (λj=>bL o (fI T ps j)) (bf T p e) k).bind λy=>(pk o (fI T ps y.2.1) y.2.2).map λz=>(y.1::z.1,z.2):=by
 conv=>lhs;unfold fI
 exact uC (λj=>fI T ps j) (fun(t:Tr) (u:List Tr)=>t::u) (bf T p e) k
theorem Ck{n:Nat}:HT.sIx n n (some (-1))=n-1:=by
 show(if(-1:Int)<0 then((-1:Int)+(n:Int)).toNat else min (-1:Int).toNat n)=_
 rw[if_pos (by decide)]
 ac_nf
theorem On.up{G:Gp}{a b:Addr}{S:Nat->Prop}{o:Nat->Nat}{u:MO}(h:On G a S o)(n:a≠b):On (up G b u) a S o:=by
 obtain⟨kvs,h1,h2⟩:=h
 exact⟨kvs,by unfold kz at h1⊢;rw[aE n];exact h1,h2⟩
theorem On.mono'{G:Gp}{a:Addr}{S S':Nat->Prop}{o o':Nat->Nat}(h:On G a S o)(s:∀j,S' j->S j)(e:∀j,o j=o' j):On G a S' o':=by
 obtain⟨kvs,h1,h2⟩:=h
 exact⟨kvs,h1,λj hj=>by rw[<-e j];exact h2 j (s j hj)⟩
noncomputable def Onw(G:Gp)(T:List Nat)(ps:List Pt)(e:Nat)(o:Nat->Nat)(os:List Addr):Prop:=∀(i:Nat) (a:Addr),os[i]? =some a->On G a (λj=>xg T (ps.take (ps.length-i)) e j) (λj=>bL o (fI T (ps.drop (ps.length-i)) j))
noncomputable def Bg(G:Gp)(T:List Nat)(ps:List Pt)(e:Nat)(bg:Addr)(bs:List Addr):Prop:=∀(i:Nat) (b:Addr),bs[i]? =some b->b≠bg/\∃js:List Nat,G b=some (.lst (js.map fR))/\js.length<=10000/\∀j,j∈js↔xg T (ps.take i) e j
theorem tm{α:Type}{o:Nat->Nat}:∀(l:List (α×Nat)) (k:Nat) {y:α×Nat×Nat},pk o l k=some y->k<bL o l
 |[],k,y,h=>by cases h
 |x::l,k,y,h=>by
  rw[L3.pk_cons]at h
  rw[gQ]
  by_cases e:k<o x.2
  ·ac_nf
  ·rw[if_neg e]at h
   have:=tm l _ h
   ac_nf
theorem uZ{ms:List Int}{u:Nat}{x:Int}{l:List Int}(h:ms.drop u=x::l):ms[u]? =some x/\ms.drop (u+1)=l:=by
 constructor
 ·have h1:(ms.drop u)[0]? =some x:=by rw[h];rfl
  rw[List.getElem?_drop]at h1
  exact h1
 ·rw[<-List.tail_drop,h];rfl
theorem wJ{ms:List Int}{u:Nat}{a b:List Int}(h:ms.drop u=a++b):ms.drop (u+a.length)=b:=by
 rw[<-List.drop_drop,h,List.drop_left]
section
variable{P:aK}{w:aX}{K:PySem.W.Frag}{mg:Str->Option ae}{base:Heap}{f fi fm fa CD CC CB:Addr}{fd di dm da:a8}
noncomputable def mZ(CD CC CB:Addr)(n:Nat):hX:=λps G Q=>∃(ds cn gd dd db dx m pa tb:Addr) (ts:List Addr) (T:List Nat) (p q:Pt) (k:Gs) (e num:Nat) (ow:Addr) (o:Nat->Nat) (t:Tr) (e' r:Nat) (rest:List Int),ps=[.ref ds,.int (num:Int),.ref ow]/\Ds CD CC CB G ds cn gd T p k e dd db dx m pa tb ts/\(makes p)[num]? =some q/\depth q<=n/\e<=T.length/\On G ow (λj=>nT T q e j≠0) o/\pk o (bf T q e) k.k=some (t,e',r)/\k.ms.drop k.u=mks t++rest/\
 ∀G',Ds CD CC CB G' ds cn gd T p (k.to (mks t).length r) e' dd db dx m pa tb ts->Ch [ds,gd] G G'->Q (ic t) G'
theorem vV:bv ["self", "parts", "onward", "mark"] ["self", "parts", "onward"] (aN mI):=⟨rfl,rfl,rfl,by decide+kernel,rfl,by decide+kernel,by decide+kernel⟩
theorem Ee:dE (aN mI) ["self", "parts", "onward", "mark"] (gn [(".0",.local),("part",.local),("self",.free),("onward",.free)]) ["part", "self", "onward"] [none,some 0,some 2] 0 "part" =true:=by decide+kernel
noncomputable def vN(CD CC CB:Addr)(n:Nat):hX:=λas G Q=>∃(ds cn gd dd db dx m pa tb:Addr) (ts:List Addr) (T:List Nat) (p:Pt) (ps:List Pt) (k:Gs) (e num:Nat) (ow:Addr) (o:Nat->Nat) (t:Tr) (e' r:Nat) (rest:List Int),as=[.ref ds,.tup ((cO (num+1) ps).map fR),.ref ow]/\Ds CD CC CB G ds cn gd T p k e dd db dx m pa tb ts/\(makes p)[num]? =some (.pick ps)/\a9 ps<=n/\ps.length<=6/\e<=T.length/\On G ow (λj=>nT T (.pick ps) e j≠0) o/\pk o (bf T (.pick ps) e) k.k=some (t,e',r)/\k.ms.drop k.u=mks t++rest/\
 ∀G',Ds CD CC CB G' ds cn gd T p (k.to (mks t).length r) e' dd db dx m pa tb ts->Ch [ds,gd] G G'->Q (ic t) G'
theorem AC{n k:Nat}(hk:2<=k)(c:Cls K CD)(n1:NoAttr K CD "counts")(n2:NoAttr K CD "guide")(n3:NoAttr K CD "at")(F:Fun K "make_pick" "Descent.make_pick" mI f fd)(B:BN mg)(MS:fq P w K mg base CD 2 "size" fa da ["self", "number", "at", "onward"] (kW CD CC CB))(MC:fq P w K mg base CB 1 "choose" fi di ["self", "sizes"] (jN CB))(MT:fq P w K mg base CD k "make_tree" fm dm ["self", "number", "onward"] (mZ CD CC CB n)):iL P w K mg base (k+1) f fd ["self", "parts", "onward"] (vN CD CC CB n):=by
 have nd:=vV.nd
 refine jX F vV (λvs G Q h=> ?_) (λcdv A outer s H E as G Q hr h=> ?_)
 ·obtain⟨_,_,_,_,_,_,_,_,_,_,_,_,_,_,_,_,_,_,_,_,_,_,rfl,_⟩:=h
  rfl
 have hU:=eD hr
 apply jw
 case a=>
  symm
  all_goals try (refine' o4 Ee rfl ?_ λ_ _ _ _=>⟨?_,?_⟩)
  all_goals symm
 obtain⟨ds,cn,gd,dd,db,dx,m,pa,tb,ts,T,p,ps,k0,e,num,ow,o,t,e',r,rest,rfl,D,hq,hdp,hpl,he,hon,hpt,hms,q⟩:=h
 have hk0:=tm _ _ hpt
 have trP:bf T (.pick ps) e=eE T ps 0 e:=by unfold bf;rfl
 have hk1:k0.k<(ps.map λc=>bL o (bf T c e)).sum:=by rw[<-sB (T:=T) (o:=o) (e:=e) ps 0,<-trP];exact hk0
 obtain⟨cm,hcm,hrm,hpk⟩:=zv (T:=T) (o:=o) (e:=e) ps 0 k0.k hk1
 exists cI D.ins rfl ?_
 exists⟨⟨gd,db,_,rfl,D.gui,rfl⟩,?_⟩
 left
 intro acc hacc
 have hlP:((cO (num+1) ps).map fR).length=ps.length:=by rw[ai,eO]
 refine⟨λi ys G1=>ys=(ps.take i).map (λc=>fR (bL o (bf T c e)))/\G1=up G acc (.lst ys),⟨by simp,rfl⟩,?_,?_,?_⟩
 ·rintro i ys G1 hi ⟨rfl,rfl⟩
  refine⟨trivial,af,?_⟩
  rw[ai,bo];ac_nf
 ·rintro i ys G1 x hx ⟨rfl,rfl⟩
  have hxl:=(aq.mp hx).1
  rw[hlP]at hxl
  obtain⟨cc,hcc⟩:∃cc,ps[i]? =some cc:=⟨_,ak hxl⟩
  obtain⟨j,rfl,hj,_⟩:=gY hq hcc hx
  have ge1:GE G (up G acc (.lst ((ps.take i).map λc=>fR (bL o (bf T c e))))):=GE.refl.new hacc
  have D1:=D.ge ge1
  obtain⟨okv,ho1,ho2⟩:=hon.ge ge1
  refine ia rfl ?_
  exists⟨⟨ds,dd,_,rfl,D1.ins,rfl⟩,?_⟩
  exists cI D1.ins rfl ?_
  exists⟨ds,cn,gd,dd,db,dx,m,pa,tb,ts,T,p,cc,k0,e,j,e,ow,o,rfl,D1,hj,he,⟨okv,ho1,λi hi=>ho2 i (re (ax hcc) hi)⟩,af,?_,fZ⟩
  rw[bt,hcc,aR]
  rfl
 ·rintro ys G1 ⟨rfl,rfl⟩
  rw[hlP,bj]
  have ge1:GE G (up G acc (.lst (ps.map λc=>fR (bL o (bf T c e))))):=GE.refl.new hacc
  have D1:=D.ge ge1
  left
  rw[trP,hpk]at hpt
  cases hp2:pk o (bf T cm e) (jH (ps.map λc=>bL o (bf T c e)) k0.k).2 with
  |none=>rw[hp2]at hpt;cases hpt
  |some y=>
  obtain⟨t2,e2,r2⟩:=y
  rw[hp2]at hpt
  have ht:Tr.pick ((0+(jH (ps.map λc=>bL o (bf T c e)) k0.k).1:Nat):Int) t2=t/\e2=e'/\r2=r:=by cases hpt;exact⟨rfl,rfl,rfl⟩
  obtain⟨rfl,rfl,rfl⟩:=ht
  have hms2:k0.ms.drop k0.u=((0+(jH (ps.map λc=>bL o (bf T c e)) k0.k).1:Nat):Int)::(mks t2++rest):=hms
  obtain⟨hm1,hm2⟩:=uZ hms2
  rw[en]at hm1
  refine⟨gd,db,acc,k0,ps.map λc=>bL o (bf T c e),rfl,D1.gui,by rw[af,bp];rfl,hk1,hm1,λsl hsl=> ?_⟩
  have mB:GE G (up (up G acc (.lst (ps.map λc=>fR (bL o (bf T c e))))) sl (.lst (((ps.map λc=>bL o (bf T c e)).take (jH (ps.map λc=>bL o (bf T c e)) k0.k).1).map fR))):=ge1.new hsl
  have ndg:ds≠gd:=λz=>by have:=D.ins;rw[z,D.gui]at this;cases this
  have ch1:Ch [ds,gd] G (up (up (up G acc (.lst (ps.map λc=>fR (bL o (bf T c e))))) sl (.lst (((ps.map λc=>bL o (bf T c e)).take (jH (ps.map λc=>bL o (bf T c e)) k0.k).1).map fR))) gd (.ins CB db (gF (k0.to 1 (jH (ps.map λc=>bL o (bf T c e)) k0.k).2)))):=mB.ch.put (by simp)
  have D2:=D.ch ch1 (k':=k0.to 1 (jH (ps.map λc=>bL o (bf T c e)) k0.k).2) (e':=e) (by rw[aE ndg];exact mB _ _ D.ins) af
  have hon2:=hon.ch D ch1
  obtain⟨xm,hmx⟩:∃xm,((cO (num+1) ps).map fR)[(jH (ps.map λc=>bL o (bf T c e)) k0.k).1]? =some xm:=⟨_,ak (by rw[hlP];exact(aq.mp hcm).1)⟩
  obtain⟨j,ej,hj,_⟩:=gY hq hcm hmx
  rw[ej]at hmx
  exists⟨⟨ds,dd,_,rfl,D2.ins,rfl⟩,?_⟩
  exists eF (bI hmx) ?_
  exists⟨ds,cn,gd,dd,db,dx,m,pa,tb,ts,T,p,cm,_,e,j,ow,o,t2,e2,r2,rest,rfl,D2,hj,by have:=fO (ax hcm);ac_nf,he,hon2.mono λi hi=>re (ax hcm) hi,hp2,hm2,λG' D3 ch=> ?_⟩
  refine⟨cA,_,GE.refl,?_⟩
  rw[en]at q
  refine q G' ?_ (ch1.trans ch)
  have eg:(k0.to 1 (jH (ps.map λc=>bL o (bf T c e)) k0.k).2).to (mks t2).length r2=k0.to (mks (.pick ((jH (ps.map λc=>bL o (bf T c e)) k0.k).1:Nat) t2)).length r2:=by
   unfold Gs.to
   show Gs.mk _ _ (k0.u+1+(mks t2).length) _=Gs.mk _ _ (k0.u+((mks t2).length+1)) _
   rw[show k0.u+1+(mks t2).length=k0.u+((mks t2).length+1)by ac_nf]
  rw[<-eg]
  exact D3
end
theorem zX{T:List Nat}{r:Pt}{e e':Nat}{a:Tr}(h:(a,e')∈bf T (.again r) e):∃ts,a= .again ts:=by
 unfold bf at h
 obtain⟨x,_,hx⟩:=av.mp h
 exact⟨x.1,(congrArg Prod.fst hx).symm⟩
theorem uB{α:Type}{o:Nat->Nat}{l:List (α×Nat)}{k:Nat}{a:α}{e r:Nat}(h:pk o l k=some (a,e,r)):(a,e)∈l/\r<o e:=by
 obtain⟨a',e',r',h1,h2,h3⟩:=zu l k (tm l k h)
 rw[h]at h1
 cases h1
 exact⟨h2,h3⟩
section
variable{P:aK}{w:aX}{K:PySem.W.Frag}{mg:Str->Option ae}{base:Heap}{f fi fm fa fp fe CD CC CB:Addr}{fd di dm da dp de:a8}{tTU:Tok}
theorem y8:bv ["self", "number", "onward", "part", "behind", "turns"] ["self", "number", "onward"] (aN mH):=⟨rfl,rfl,rfl,by decide+kernel,rfl,by decide+kernel,by decide+kernel⟩
noncomputable def yW(CD CC CB:Addr)(n:Nat):hX:=λas G Q=>∃(ds cn gd dd db dx m pa tb:Addr) (ts:List Addr) (T:List Nat) (p r:Pt) (k:Gs) (e num:Nat) (ow:Addr) (o:Nat->Nat) (us0:List Tr) (e' r':Nat) (rest:List Int),as=[.ref ds,.int (num:Int),.ref ow]/\Ds CD CC CB G ds cn gd T p k e dd db dx m pa tb ts/\(makes p)[num]? =some (.again r)/\depth r<=n/\e<=T.length/\On G ow (λj=>nT T (.again r) e j≠0) o/\pk o (bf T (.again r) e) k.k=some (.again us0,e',r')/\k.ms.drop k.u=l8 us0++rest/\
 ∀G',Ds CD CC CB G' ds cn gd T p (k.to (l8 us0).length r') e' dd db dx m pa tb ts->Ch [ds,gd] G G'->Q (.tup (eI us0)) G'
theorem C8{n k:Nat}(hk:3<=k)(x0:mg "TURN" =some (.int 0 tTU))(q3:r9 K CC "parts")(n1:r9 K CD "counts")(n2:r9 K CD "guide")(n3:r9 K CD "at")(F:Fun K "make_turns" "Descent.make_turns" mH f fd)(B:BN mg)(ME:fq P w K mg base CC 1 "ends_of" fe de ["self", "number", "at"] (oF CC))(MS:fq P w K mg base CD 2 "size" fa da ["self", "number", "at", "onward"] (kW CD CC CB))(MA:fq P w K mg base CD 3 "onward_ahead" fp dp ["self", "number", "places", "onward"] (na CD CC CB))(MC:fq P w K mg base CB 1 "choose" fi di ["self", "sizes"] (jN CB))(MT:fq P w K mg base CD k "make_tree" fm dm ["self", "number", "onward"] (mZ CD CC CB n)):iL P w K mg base (k+1) f fd ["self", "number", "onward"] (yW CD CC CB n):=by
 have nd:=y8.nd
 refine jX F y8 (λvs G Q h=> ?_) (λcdv A outer s H E as G Q hr h=> ?_)
 ·obtain⟨_,_,_,_,_,_,_,_,_,_,_,_,_,_,_,_,_,_,_,_,_,_,rfl,_⟩:=h
  rfl
 have hU:=eD hr
 apply jw
 case a=>symm
 obtain⟨ds,cn,gd,dd,db,dx,m,pa,tb,ts,T,p,r,k0,e,num,ow,o,us0,e',r',rest,rfl,D,hq,hdp,he,hon,hpt,hms,q⟩:=h
 have hk0:=tm _ _ hpt
 have hc:bN r=false:=D.cs.ag r (ax hq)
 obtain⟨j,ej,hj,hnj⟩:=gY (i:=0) (cc:=r) hq rfl rfl
 have hj1:j=num+1:=i0.mp (PV.int.inj ej).symm
 have hLT:=D.cs.len
 exists cI D.ins rfl ?_
 exists cI D.tab.ins rfl ?_
 exists cj (aO D.tab.pts) (bI (fW hq)) ?_
 exists eF (x:= .int (j:Int)) (by rw[hj1];rfl) ?_
 exists⟨⟨ds,dd,_,rfl,D.ins,rfl⟩,?_⟩
 exists cI D.ins rfl ?_
 exists⟨⟨cn,dx,_,rfl,D.tab.ins,rfl⟩,?_⟩
 exists cI D.ins rfl ?_
 exists⟨cn,dx,m,pa,tb,ts,T,p,.again r,num,e,rfl,D.tab,hq,he,λd ws gd' wy=> ?_⟩
 exists zE (rQ gd') λpl hpl=> ?_
 rw[jS]
 have ge1:GE G (up G pl (.lst (ws.map λw=>PV.int (w.1:Int)))):=GE.refl.new hpl
 have hwl:=wy.len
 exists⟨ds,cn,gd,dd,db,dx,m,pa,tb,ts,T,p,.again r,k0,e,num,pl,ow,ws.map (·.1),o,rfl,D.ge ge1,hq,by rw[af,bp];rfl,by rw[ai];ac_nf,λi hi=> ?_,(hon.ge ge1).mono λi ⟨i',h1,h2⟩=> ?_,λbh G2 hbh mB hbo=> ?_⟩
 ·have h1:=(uc wy).mp hi
  rcases cW T.length i with z|z
  ·exact absurd (jE he z) h1
  ·exact z
 ·have h3:=(uc wy).mp h1
  refine Et hc _ e i' i (am _) he h3 ?_ h2
  rcases cW T.length i' with z|z
  ·exact absurd (jE he z) h3
  ·exact z
 have ge3:GE G G2:=ge1.trans mB
 have D2:=D.ge ge3
 have hbo2:On G2 bh (λj=>nT T (.again r) e j≠0) (mC T r o):=hbo.mono λj hj=>(uc wy).mpr hj
 have hon2:=hon.ge ge3
 exists⟨aW rfl,λtn htn=> ?_⟩
 left
 have at0:nT T (.again r) e e≠0:=by rw[iG hc he,if_pos rfl];ac_nf
 refine⟨λmm τ G1=>∃(us vs:List Tr) (k1:Gs) (e1:Nat),τ=[some (.ref ds),some (.int (num:Int)),some (.ref ow),some (.int (j:Int)),some (.ref bh),some (.ref tn)]/\G1 ds=some (.ins CD dd (zR cn gd e1))/\G1 gd=some (.ins CB db (gF k1))/\G1 tn=some (.lst (eI us))/\Ch [ds,gd] G2 G1/\nT T (.again r) e e1≠0/\us.length+e<=e1/\T.length-e1=mm/\us0=us++vs/\pk o (bf T (.again r) e1) k1.k=some (.again vs,e',r')/\k1.ms=k0.ms/\k1.N=k0.N/\k0.ms.drop k1.u=l8 vs++rest/\k1.u+(l8 vs).length=k0.u+(l8 us0).length,⟨T.length-e,[],us0,k0,e,rfl,by rw[aE (aY D2.ins htn)];exact D2.ins,by rw[aE (aY D2.gui htn)];exact D2.gui,af,Ch.refl.new htn,at0,by simp,rfl,rfl,hpt,rfl,rfl,hms,rfl⟩,?_⟩
 rintro mm τ G1 ⟨us,vs,k1,e1,rfl,g1,g2,g3,ch,hat,hul,hmm,hus,hpk,em,eN,hmv,huv⟩
 have hk1:=tm _ _ hpk
 have D3:=D2.ch ch g1 g2
 have hbo3:=hbo2.ch D2 ch
 obtain⟨okv,ho1,ho2⟩:=hon2.ch D2 ch
 have he1:e1<=T.length:=by
  rcases cW T.length e1 with z|z
  ·exact absurd (jE he z) hat
  ·exact z
 have hsum:mC T r o e1=bL (mC T r o) (bf T r e1)+o e1:=En hc he1
 change k1.k<mC T r o e1 at hk1
 exists cI g1 rfl ?_
 exists⟨⟨gd,db,_,rfl,g2,rfl⟩,?_⟩
 exists⟨⟨ds,dd,_,rfl,g1,rfl⟩,?_⟩
 exists cI g1 rfl ?_
 exists⟨ds,cn,gd,dd,db,dx,m,pa,tb,ts,T,p,r,k1,e1,j,e1,bh,mC T r o,rfl,D3,hj,he1,hbo3.mono λi hi=>yq hc _ e e1 i (am _) he hat he1 hi,?_⟩
 exists⟨uR ho1,?_⟩
 exists cI g1 rfl ?_
 exists yg ho1 rfl ?_
 rw[ho2 e1 hat]
 exists⟨aW rfl,λsz hsz=> ?_⟩
 left
 have ge4:GE G1 (up G1 sz (.lst [.int (bL (mC T r o) (bf T r e1):Nat),.int (o e1:Nat)])):=GE.refl.new hsz
 have ndg:ds≠gd:=λz=>by rw[z,g2]at g1;cases g1
 have ntg:tn≠gd:=λz=>by rw[z,g2]at g3;cases g3
 have ntd:tn≠ds:=λz=>by rw[z,g1]at g3;cases g3
 have hks:k1.k<[bL (mC T r o) (bf T r e1),o e1].sum:=by rw[hsum]at hk1;simpa using hk1
 have go:∀(d:Nat),k1.ms[k1.u]? =some (d:Int)->(jH [bL (mC T r o) (bf T r e1),o e1] k1.k).1=d->∀(R:K2),(∀G4,G4 ds=some (.ins CD dd (zR cn gd e1))->G4 gd=some (.ins CB db (gF (k1.to 1 (jH [bL (mC T r o) (bf T r e1),o e1] k1.k).2)))->G4 tn=some (.lst (eI us))->Ch [ds,gd] G2 G4->R (.int (d:Nat)) G4)->jN CB [.ref gd,.ref sz] (up G1 sz (.lst [.int (bL (mC T r o) (bf T r e1):Nat),.int (o e1:Nat)])) R:=λd hd1 hd2 R hR=>by
  refine⟨gd,db,sz,k1,[bL (mC T r o) (bf T r e1),o e1],rfl,ge4 _ _ g2,af,hks,by rw[hd2];exact hd1,λsl hsl=> ?_⟩
  rw[hd2]
  have ge5:=ge4.new (o:= .lst (([bL (mC T r o) (bf T r e1),o e1].take d).map fR)) hsl
  exact hR _ (by rw[aE ndg];exact ge5 _ _ g1) af (by rw[aE ntg];exact ge5 _ _ g3) (((ch.new hsz).new hsl).put (by simp))
 by_cases hcs:k1.k<bL (mC T r o) (bf T r e1)
 ·have hch:jH [bL (mC T r o) (bf T r e1),o e1] k1.k=(0,k1.k):=by rw[kR,if_pos hcs]
  rw[Fi hc he1 hcs]at hpk
  cases hp:pk (mC T r o) (bf T r e1) k1.k with
  |none=>rw[hp]at hpk;cases hpk
  |some y=>
  obtain⟨t,e2,r2⟩:=y
  rw[hp]at hpk
  change (pk o (bf T (.again r) e2) r2).map (λz=>(wQ t z.1,z.2))=_ at hpk
  cases hp3:pk o (bf T (.again r) e2) r2 with
  |none=>rw[hp3]at hpk;cases hpk
  |some y3=>
  obtain⟨z3,e3,r3⟩:=y3
  rw[hp3]at hpk
  obtain⟨vs',rfl⟩:=zX (uB hp3).1
  have hvs:vs=t::vs'/\e3=e'/\r3=r':=by cases hpk;exact⟨rfl,rfl,rfl⟩
  obtain⟨rfl,rfl,rfl⟩:=hvs
  have hmv2:k0.ms.drop k1.u=0::(mks t++(l8 vs'++rest)):=by rw[hmv];show 0::(mks t++l8 vs')++rest=_;simp
  obtain⟨hm1,hm2⟩:=uZ hmv2
  refine go 0 (by rw[em];exact hm1) (by rw[hch]) _ λG4 a1 a2 a3 ch4=> ?_
  rw[hch]at a2
  have D4:=D2.ch ch4 a1 a2
  have hbo4:=hbo2.ch D2 ch4
  exists⟨rfl,rfl,?_⟩
  exists ia rfl ?_
  exists⟨⟨_,a3⟩,?_⟩
  exists⟨⟨ds,dd,_,rfl,a1,rfl⟩,?_⟩
  exists⟨ds,cn,gd,dd,db,dx,m,pa,tb,ts,T,p,r,k1.to 1 k1.k,e1,j,bh,mC T r o,t,e2,r2,l8 vs'++rest,rfl,D4,hj,hdp,he1,hbo4.mono λi hi=>yq hc _ e e1 i (am _) he hat he1 hi,hp,by show k1.ms.drop (k1.u+1)=_;rw[em];exact hm2,λG5 D5 ch5=> ?_⟩
  have ch6:=ch4.trans ch5
  have gt5:G5 tn=some (.lst (eI us)):=ch5 tn _ (by simp[ntg,ntd]) a3
  have hm3:=uB hp
  have hgt:e1<e2:=j3 T r e1 hc _ hm3.1
  have hle:e2<=T.length:=gH T r e1 he1 _ hm3.1
  exists fJ gt5 (by rw[dL,ai];ac_nf) ?_
  refine⟨T.length-e2,by ac_nf,us++[t],vs',(k1.to 1 k1.k).to (mks t).length r2,e2,rfl,by rw[aE (aG ntd)];exact D5.ins,by rw[aE (aG ntg)];exact D5.gui,by rw[af,gR];rfl,ch6.mod' htn,yq hc _ e e1 e2 (am _) he hat he1 (xT hm3.1),by rw[aL];simp only[List.length_singleton];ac_nf,rfl,by rw[hus,cx];rfl,hp3,em,eN,wJ (u:=k1.u+1) hm2,?_⟩
  show k1.u+1+(mks t).length+(l8 vs').length=_
  rw[<-huv]
  show _=k1.u+(0::(mks t++l8 vs')).length
  rw[aM,aL]
  ac_nf
 ·have hch:jH [bL (mC T r o) (bf T r e1),o e1] k1.k=(1,k1.k-bL (mC T r o) (bf T r e1)):=by rw[kR,if_neg hcs,kR,if_pos (by rw[hsum]at hk1;ac_nf)]
  rw[Fj hc he1 hcs hk1]at hpk
  have hvs:vs=[]/\e1=e'/\k1.k-bL (mC T r o) (bf T r e1)=r':=by cases hpk;exact⟨rfl,rfl,rfl⟩
  obtain⟨rfl,rfl,hr'⟩:=hvs
  rw[cr]at hus
  subst hus
  obtain⟨hm1,hm2⟩:=uZ (show k0.ms.drop k1.u=1::rest from hmv)
  refine go 1 (by rw[em];exact hm1) (by rw[hch]) _ λG4 a1 a2 a3 ch4=> ?_
  rw[hch]at a2
  exists⟨rfl,rfl,?_⟩
  exists lw rfl ?_
  exists oj (aO a3) ?_
  have eg:k1.to 1 (k1.k-bL (mC T r o) (bf T r e1))=k0.to (l8 us0).length r':=by
   unfold Gs.to
   rw[em,eN,hr',<-huv]
   rfl
  rw[eg]at a2
  exact⟨_,GE.refl,q _ (D2.ch ch4 a1 a2) (ge3.ch.trans ch4)⟩
end
section
variable{P:aK}{w:aX}{K:PySem.W.Frag}{mg:Str->Option ae}{base:Heap}{f fm fp fe CD CC CB:Addr}{fd dm dp de:a8}
theorem ze:bv ["self", "parts", "onward", "begins", "part", "found", "place", "onwards", "k"] ["self", "parts", "onward"] (aN qy):=⟨rfl,rfl,rfl,by decide+kernel,rfl,by decide+kernel,by decide+kernel⟩
noncomputable abbrev kMR:eL:=gn [(".0",.local),("part",.local),("behind",.local),("self",.free)]
theorem Hf:dE (aN qy) ["self", "parts", "onward", "begins", "part", "found", "place", "onwards", "k"] kMR ["part", "behind", "self"] [none,none,some 0] 0 "part" =true:=by decide+kernel
theorem KG:iA kMR ["part", "behind", "self"] [none,none,some 0] 1 "behind" :=⟨rfl,by decide+kernel,rfl⟩
noncomputable def yX(CD CC CB:Addr)(n:Nat):hX:=λas G Q=>∃(ds cn gd dd db dx m pa tb:Addr) (ts:List Addr) (T:List Nat) (p:Pt) (ps:List Pt) (k:Gs) (e num:Nat) (ow:Addr) (o:Nat->Nat) (us0:List Tr) (e0 r0:Nat) (rest:List Int),as=[.ref ds,.tup ((cO (num+1) ps).map fR),.ref ow]/\Ds CD CC CB G ds cn gd T p k e dd db dx m pa tb ts/\(makes p)[num]? =some (.row ps)/\a9 ps<=n/\e<=T.length/\On G ow (λj=>nT T (.row ps) e j≠0) o/\pk o (fI T ps e) k.k=some (us0,e0,r0)/\k.ms.drop k.u=l7 us0++rest/\
 ∀G',Ds CD CC CB G' ds cn gd T p (k.to (l7 us0).length r0) e0 dd db dx m pa tb ts->Ch [ds,gd] G G'->Q (.tup (eI us0)) G'
theorem De{n k:Nat}(hk:3<=k)(n1:r9 K CD "counts")(n2:r9 K CD "guide")(n3:r9 K CD "at")(F:Fun K "make_row" "Descent.make_row" qy f fd)(B:BN mg)(ME:fq P w K mg base CC 1 "ends_of" fe de ["self", "number", "at"] (oF CC))(MA:fq P w K mg base CD 3 "onward_ahead" fp dp ["self", "number", "places", "onward"] (na CD CC CB))(MT:fq P w K mg base CD k "make_tree" fm dm ["self", "number", "onward"] (mZ CD CC CB n)):iL P w K mg base (k+1) f fd ["self", "parts", "onward"] (yX CD CC CB n):=by
 have nd:=ze.nd
 refine jX F ze (λvs G Q h=> ?_) (λcdv A outer s H E as G Q hr h=> ?_)
 ·obtain⟨_,_,_,_,_,_,_,_,_,_,_,_,_,_,_,_,_,_,_,_,_,_,rfl,_⟩:=h
  rfl
 have hU:=eD hr
 apply jw
 case a=>
  symm
  all_goals try (refine' j7 Hf KG rfl ?_ λ_ _ _ _=>⟨?_,?_⟩)
  all_goals symm
 obtain⟨ds,cn,gd,dd,db,dx,m,pa,tb,ts,T,p,ps,k0,e,num,ow,o,us0,e0,r0,rest,rfl,D,hq,hdp,he,hon,hpt,hms,q⟩:=h
 have hLT:=D.cs.len
 obtain⟨hp1,hp6⟩:=D.ar _ (ax hq)
 have hlP:((cO (num+1) ps).map fR).length=ps.length:=by rw[ai,eO]
 exists cI D.ins rfl ?_
 exists⟨aW rfl,λb0 hb0=> ?_⟩
 exists⟨aW rfl,λbg hbg=> ?_⟩
 left
 have hbgn:=dD hbg
 have hcut:pf ((cO (num+1) ps).map fR) none (some (-1))=((cO (num+1) ps).map fR).take (ps.length-1):=by
  unfold pf
  rw[hlP,HT.sIx_none]
  show List.take (HT.sIx ps.length ps.length (some (-1))-0) (List.drop 0 _)=_
  rw[List.drop_zero]
  rw[Ck]
  rfl
 refine⟨?_,?_⟩
 ·rw[hlP]
  rintro⟨_,h2⟩
  rw[Ck]at h2
  ac_nf
 rw[hcut]
 exists⟨λi τ G1=>∃(bs:List Addr) (t4 t5 t6:Option PV),τ=[some (.ref ds),some (.tup ((cO (num+1) ps).map fR)),some (.ref ow),some (.ref bg),t4,t5,t6,none,none]/\G1 bg=some (.lst (bs.map PV.ref))/\bs.length=i+1/\Bg G1 T ps e bg bs/\GE G G1,⟨[b0],none,none,none,rfl,af,rfl,?_,(GE.refl.new hb0).new hbg⟩,?_,?_,?_⟩
 ·intro i b hi
  cases i with
  |zero=>
   cases hi
   exact⟨aG hbgn.1,[e],by rw[aE (aG hbgn.1),af];rfl,by simp,λj=>by rw[au];exact⟨λz=>z.symm,λz=>z.symm⟩⟩
  |succ i=>cases hi
 ·intros;trivial
 ·rintro i x τ G1 hx ⟨bs,t4,t5,t6,rfl,gb,hbl,hB,ge⟩
  rw[List.getElem?_take]at hx
  split at hx
  case isFalse=>cases hx
  rename_i hil
  obtain⟨cc,hcc⟩:∃cc,ps[i]? =some cc:=⟨_,ak (by ac_nf)⟩
  obtain⟨jn,rfl,hj,_⟩:=gY hq hcc hx
  left
  intro fo hfo
  obtain⟨b,hb⟩:∃b,bs[i]? =some b:=⟨_,ak (by ac_nf)⟩
  obtain⟨nbg,js,gjs,hjl,hjs⟩:=hB i b hb
  have hlast:bs=bs.take i++[b]:=by
   have:=cP i bs
   rw[dF (by ac_nf),List.drop_eq_nil_of_le (by ac_nf)]at this
   rw[ak (by ac_nf)]at hb
   cases hb
   exact this.symm
  have nbf:b≠fo:=aY gjs hfo
  have ngf:bg≠fo:=aY gb hfo
  exists cj (x:= .ref b) (aO (show up G1 fo (.dK []) bg=_ from by rw[aE ngf];exact gb)) (by rw[hlast,aR];exact rX _ _) ?_
  left
  rw[aO (show up G1 fo (.dK []) b=_ from by rw[aE nbf];exact gjs)]
  exists⟨λi2 τ G2=>∃(ws:Ws) (t6:Option PV),τ=[some (.ref ds),some (.tup ((cO (num+1) ps).map fR)),some (.ref ow),some (.ref bg),some (.int (jn:Int)),some (.ref fo),t6,none,none]/\G2=up G1 fo (.dK (fk ws))/\(ws.map (·.1)).Nodup/\∀x,x∈ws.map (·.1)↔∃j∈js.take i2,nT T cc j x≠0,⟨[],t6,rfl,rfl,by simp,by simp⟩,?_,?_,?_⟩
  ·rintro i2 τ G2 _ ⟨ws,t6,rfl,rfl,_⟩
   exact aO (by rw[aE nbf];exact gjs)
  ·rintro i2 x τ G2 hx2 ⟨ws,t6,rfl,rfl,hnd,hmem⟩
   rw[aC]at hx2
   cases ej:js[i2]? with
   |none=>rw[ej]at hx2;cases hx2
   |some j=>
    rw[ej]at hx2
    cases hx2
    have hjm:xg T (ps.take i) e j:=(hjs j).mp (ax ej)
    have hjT:=ph _ _ _ he hjm
    have mB:GE G (up G1 fo (.dK (fk ws))):=ge.new hfo
    have D2:=D.ge mB
    exists⟨uR (kl af),?_⟩
    exists cI D2.ins rfl ?_
    exists⟨⟨cn,dx,_,rfl,D2.tab.ins,rfl⟩,?_⟩
    exists⟨cn,dx,m,pa,tb,ts,T,p,cc,jn,j,rfl,D2.tab,hj,hjT,λd ms gd' wy=> ?_⟩
    have nfd:fo≠d:=λz=>by rw[<-z,af]at gd';cases gd'
    have hm1:∀x∈ws.map (·.1),x<T.length+1:=λx hx=>by
     obtain⟨j',hj',h2⟩:=(hmem x).mp hx
     rcases cW T.length x with z|z
     ·exact absurd (jE (ph _ _ _ he ((hjs j').mp (mE hj'))) z) h2
     ·ac_nf
    have hl1:=nr _ _ hnd hm1
    have hl2:=wy.len
    exists Ii af (rQ gd') nfd ?_ ?_
    ·unfold fk
     rw[ai]at hl1
     rw[ai,ai];ac_nf
    rw[wk ms ws hnd,fZ]
    refine⟨AH ws ms,_,rfl,rfl,zA ms ws hnd,λx=> ?_⟩
    rw[zB,hmem,uc wy,bt,ej]
    constructor
    ·rintro(⟨j',h1,h2⟩|h1)
     ·exact⟨j',aZ.mpr (.inl h1),h2⟩
     ·exact⟨j,aZ.mpr (.inr (by simp)),h1⟩
    ·rintro⟨j',h1,h2⟩
     rcases aZ.mp h1 with h1|h1
     ·exact .inl ⟨j',h1,h2⟩
     ·obtain rfl:j'=j:=by simpa using h1
      exact .inr h2
  ·rintro τ G2 ⟨ws,t6,rfl,rfl,hnd,hmem⟩
   rw[ai,bj]at hmem
   have gb2:up G1 fo (.dK (fk ws)) bg=some (.lst (bs.map PV.ref)):=by rw[aE ngf];exact gb
   exists⟨⟨_,gb2⟩,?_⟩
   exists zE (kl af) λnl hnl=> ?_
   rw[jS]
   have nbn:bg≠nl:=aY gb2 hnl
   exists fJ (by rw[aE nbn];exact gb2) (by rw[ai];ac_nf) ?_
   have geS:GE G1 (up (up G1 fo (.dK (fk ws))) nl (.lst (ws.map λw=>PV.int (w.1:Int)))):=(GE.refl.new hfo).new hnl
   have hbg0:G bg=none:=(dD hbg).2
   refine⟨bs++[nl],_,_,_,rfl,by rw[af,aR];rfl,by rw[aL,hbl];rfl,?_,(ge.trans geS).mod hbg0⟩
   intro i' b' hb'
   by_cases hlt:i'<bs.length
   ·rw[bT hlt]at hb'
    obtain⟨n1',js',g',l',m'⟩:=hB i' b' hb'
    exact⟨n1',js',by rw[aE n1'];exact geS _ _ g',l',m'⟩
   ·rw[bO (by ac_nf)]at hb'
    have hz:i'-bs.length=0:=by
     rcases Nat.eq_zero_or_pos (i'-bs.length)with z|z
     ·exact z
     ·rw[cQ (by simp;ac_nf)]at hb';cases hb'
    obtain rfl:i'=i+1:=by ac_nf
    rw[hz]at hb'
    cases hb'
    have hm1:∀x∈ws.map (·.1),x<T.length+1:=λx hx=>by
     obtain⟨j',hj',h2⟩:=(hmem x).mp hx
     rcases cW T.length x with z|z
     ·exact absurd (jE (ph _ _ _ he ((hjs j').mp hj')) z) h2
     ·ac_nf
    refine⟨aG nbn,ws.map (·.1),by rw[aE (aG nbn),af,bp];rfl,by have:=nr _ _ hnd hm1;ac_nf,λj=> ?_⟩
    rw[hmem,nX hcc]
    exact⟨λ⟨j',h1,h2⟩=>⟨j',(hjs j').mp h1,h2⟩,λ⟨j',h1,h2⟩=>⟨j',(hjs j').mpr h1,h2⟩⟩
 rintro τ G1 ⟨bs,t4,t5,t6,rfl,gb,hbl,hB,ge⟩
 rw[bo,hlP,lQ (by ac_nf)]at hbl
 exists⟨aW rfl,λon hno=> ?_⟩
 left
 have hng:bg≠on:=aY gb hno
 have ge0:GE G1 (up G1 on (.lst [.ref ow])):=GE.refl.new hno
 refine x8 ?_
 left
 rw[hlP]
 refine⟨rfl,⟨by ac_nf,by ac_nf,by ac_nf,by ac_nf⟩,?_⟩
 have hdl:(jU ((ps.length:Int)-1) (((ps.length:Int)-1)-0).toNat).length=ps.length-1:=by unfold jU;simp
 refine⟨λi τ G2=>∃(os:List Addr) (t8:Option PV),τ=[some (.ref ds),some (.tup ((cO (num+1) ps).map fR)),some (.ref ow),some (.ref bg),t4,t5,t6,some (.ref on),t8]/\G2 on=some (.lst (os.map PV.ref))/\os.length=i+1/\Onw G2 T ps e o os/\GE G1 G2,⟨[ow],none,rfl,af,rfl,?_,ge0⟩,?_,?_,?_⟩
 ·intro i a hi
  cases i with
  |zero=>
   cases hi
   rw[Nat.sub_zero,bj,List.drop_length]
   refine((hon.ge ge).ge ge0).mono' (λj hj=>xS.mpr hj) λj=> ?_
   show o j=bL o [(([]:List Tr),j)]
   rw[gQ,i3];rfl
  |succ i=>cases hi
 ·intros;trivial
 ·rintro i x τ G2 hx ⟨os,t8,rfl,go,hol,hO,mB⟩
  have hil:=(aq.mp hx).1
  rw[hdl]at hil
  have ex:x= .int ((ps.length-1-i:Nat):Int):=by
   unfold jU at hx
   rw[aC,dA (by ac_nf)]at hx
   cases hx
   show PV.int ((ps.length:Int)-1-(i:Int))=PV.int ((ps.length-1-i:Nat):Int)
   rw[show((ps.length-1-i:Nat):Int)=(ps.length:Int)-1-(i:Int)by ac_nf]
  subst ex
  obtain⟨cc,hcc⟩:∃cc,ps[ps.length-1-i]? =some cc:=⟨_,ak (by ac_nf)⟩
  obtain⟨xm,hmx⟩:∃xm,((cO (num+1) ps).map fR)[ps.length-1-i]? =some xm:=⟨_,ak (by rw[hlP];ac_nf)⟩
  obtain⟨jn,ej,hj,_⟩:=gY hq hcc hmx
  rw[ej]at hmx
  obtain⟨b,hb⟩:∃b,bs[ps.length-1-i]? =some b:=⟨_,ak (by ac_nf)⟩
  obtain⟨nbg,js,gjs,hjl,hjs⟩:=hB _ b hb
  obtain⟨a,ha⟩:∃a,os[i]? =some a:=⟨_,ak (by ac_nf)⟩
  have hlast:os=os.take i++[a]:=by
   have:=cP i os
   rw[dF (by ac_nf),List.drop_eq_nil_of_le (by ac_nf)]at this
   rw[ak (by ac_nf)]at ha
   cases ha
   exact this.symm
  have D2:=(D.ge ge).ge mB
  have hOa:=hO i a ha
  exists⟨⟨_,go⟩,?_⟩
  exists⟨⟨ds,dd,_,rfl,D2.ins,rfl⟩,?_⟩
  exists eF (bI hmx) ?_
  exists cj (x:= .ref b) (aO (mB _ _ gb)) (bI (by rw[aC,hb];rfl)) ?_
  exists cj (x:= .ref a) (aO go) (by rw[hlast,aR];exact rX _ _) ?_
  left
  have e1:ps.length-i=ps.length-1-i+1:=by ac_nf
  refine⟨ds,cn,gd,dd,db,dx,m,pa,tb,ts,T,p,cc,k0,e,jn,b,a,js,λj=>bL o (fI T (ps.drop (ps.length-i)) j),rfl,D2,hj,mB _ _ gjs,hjl,λj hjm=>ph _ _ _ he ((hjs j).mp hjm),hOa.mono λx ⟨j,h1,h2⟩=>by rw[e1,nX hcc];exact⟨j,(hjs j).mp h1,h2⟩,λc G3 hc ge3 hon3=> ?_⟩
  have gno:G3 on=some (.lst (os.map PV.ref)):=ge3 _ _ go
  have nco:c≠on:=λz=>by
   obtain⟨kvs,h1,_⟩:=hon3
   rw[z]at h1
   simp[kz,gno]at h1
  exists fJ gno (by rw[ai];ac_nf) ?_
  refine⟨os++[c],_,rfl,by rw[af,aR];rfl,by rw[aL,hol];rfl,?_,(mB.trans ge3).mod hno⟩
  intro i' a' ha'
  by_cases hlt:i'<os.length
  ·rw[bT hlt]at ha'
   refine((hO i' a' ha').ge ge3).up λz=> ?_
   obtain⟨kvs,h1,_⟩:=hO i' a' ha'
   rw[z]at h1
   simp[kz,go]at h1
  ·rw[bO (by ac_nf)]at ha'
   have hz:i'-os.length=0:=by
    rcases Nat.eq_zero_or_pos (i'-os.length)with z|z
    ·exact z
    ·rw[cQ (by simp;ac_nf)]at ha';cases ha'
   obtain rfl:i'=i+1:=by ac_nf
   rw[hz]at ha'
   cases ha'
   rw[show ps.length-(i+1)=ps.length-1-i by ac_nf]
   refine(hon3.up nco).mono' (λj hj=>(hjs j).mpr hj) λj=> ?_
   rw[z8,e1]
   congr 2
   rw[dF (i:=ps.length-1-i) (by ac_nf)]
   rw[ak (by ac_nf)]at hcc
   cases hcc
   rfl
 rintro τ G2 ⟨os,t8,rfl,go,hol,hO,mB⟩
 rw[hdl]at hol
 have D2:=(D.ge ge).ge mB
 left
 rw[aO go]
 left
 intro rv hrv
 exists⟨rv,_,_,rfl,lH,?_⟩
 intro acc hacc
 have hil:(jD ((cO (num+1) ps).map fR) (os.map PV.ref).reverse).length=ps.length:=by rw[l5,hlP,bK,ai];ac_nf
 have ge4:GE G2 (up G2 rv (.lst (os.map PV.ref).reverse)):=GE.refl.new hrv
 have geA:GE G (up G2 rv (.lst (os.map PV.ref).reverse)):=(ge.trans mB).trans ge4
 have D4:=D.ge geA
 have hrvs:up G2 rv (.lst (os.map PV.ref).reverse) rv=some (.lst (os.map PV.ref).reverse):=af
 have hO4:∀(i:Nat) (a:Addr),os[i]? =some a->On (up G2 rv (.lst (os.map PV.ref).reverse)) a (λj=>xg T (ps.take (ps.length-i)) e j) (λj=>bL o (fI T (ps.drop (ps.length-i)) j)):=λi a ha=>(hO i a ha).ge ge4
 generalize up G2 rv (.lst (os.map PV.ref).reverse)=G4 at*
 refine⟨λi ys Gi=>∃(us vs:List Tr) (ki:Gs) (ei:Nat),ys=eI us/\us.length=i/\Gi ds=some (.ins CD dd (zR cn gd ei))/\Gi gd=some (.ins CB db (gF ki))/\Ch [ds,gd] G4 Gi/\Gi acc=some (.lst ys)/\xg T (ps.take i) e ei/\us0=us++vs/\pk o (fI T (ps.drop i) ei) ki.k=some (vs,e0,r0)/\ki.ms=k0.ms/\ki.N=k0.N/\k0.ms.drop ki.u=l7 vs++rest/\ki.u+(l7 vs).length=k0.u+(l7 us0).length,?_,?_,?_,?_⟩
 ·exact⟨[],us0,k0,e,rfl,rfl,by rw[aE (aY D4.ins hacc)];exact D4.ins,by rw[aE (aY D4.gui hacc)];exact D4.gui,Ch.refl.new hacc,af,rfl,rfl,hpt,rfl,rfl,hms,rfl⟩
 ·rintro i ys Gi hi ⟨us,vs,ki,ei,rfl,rfl,g1,g2,ch,ga,_⟩
  refine⟨aO (ch rv _ ?_ hrvs),ga,?_⟩
  ·have h1:rv≠ds:=λz=>by rw[z,D4.ins]at hrvs;cases hrvs
   have h2:rv≠gd:=λz=>by rw[z,D4.gui]at hrvs;cases hrvs
   simp[h1,h2]
  ·rw[hil]at hi
   rw[dL,ai];ac_nf
 ·rintro i ys Gi x hx ⟨us,vs,ki,ei,rfl,rfl,g1,g2,ch,ga,hR,hus,hpk,em,eN,hmv,huv⟩
  have hil2:=(aq.mp hx).1
  rw[hil]at hil2
  obtain⟨cc,hcc⟩:∃cc,ps[us.length]? =some cc:=⟨_,ak hil2⟩
  obtain⟨xm,hmx⟩:∃xm,((cO (num+1) ps).map fR)[us.length]? =some xm:=⟨_,ak (by rw[hlP];exact hil2)⟩
  obtain⟨jn,ej,hj,_⟩:=gY hq hcc hmx
  rw[ej]at hmx
  obtain⟨a,ha⟩:∃a,os[ps.length-1-us.length]? =some a:=⟨_,ak (by ac_nf)⟩
  have hra:(os.map PV.ref).reverse[us.length]? =some (.ref a):=by
   rw[List.getElem?_reverse (by rw[ai];ac_nf),ai,aC,show os.length-1-us.length=ps.length-1-us.length by ac_nf,ha];rfl
  rw[oO hmx hra]at hx
  cases hx
  refine⟨_,_,rfl,ia rfl ?_⟩
  have D5:=D4.ch ch g1 g2
  have hd:ps.drop us.length=cc::ps.drop (us.length+1):=by
   rw[dF hil2]
   rw[ak hil2]at hcc
   cases hcc
   rfl
  have hO5:=(hO4 _ a ha).ch D4 ch
  rw[show ps.length-(ps.length-1-us.length)=us.length+1 by ac_nf]at hO5
  have hei:=ph _ _ _ he hR
  rw[hd,Fk]at hpk
  cases hp:pk (λj=>bL o (fI T (ps.drop (us.length+1)) j)) (bf T cc ei) ki.k with
  |none=>rw[hp]at hpk;cases hpk
  |some y=>
  obtain⟨t,e2,r2⟩:=y
  rw[hp]at hpk
  change (pk o (fI T (ps.drop (us.length+1)) e2) r2).map (λz=>(t::z.1,z.2))=_ at hpk
  cases hp3:pk o (fI T (ps.drop (us.length+1)) e2) r2 with
  |none=>rw[hp3]at hpk;cases hpk
  |some y3=>
  obtain⟨vs',e3,r3⟩:=y3
  rw[hp3]at hpk
  have hvs:vs=t::vs'/\e3=e0/\r3=r0:=by cases hpk;exact⟨rfl,rfl,rfl⟩
  obtain⟨rfl,rfl,rfl⟩:=hvs
  have hmv2:k0.ms.drop ki.u=mks t++(l7 vs'++rest):=by rw[hmv];show mks t++l7 vs'++rest=_;rw[cx]
  exists⟨⟨ds,dd,_,rfl,g1,rfl⟩,?_⟩
  exists⟨ds,cn,gd,dd,db,dx,m,pa,tb,ts,T,p,cc,ki,ei,jn,a,λj=>bL o (fI T (ps.drop (us.length+1)) j),t,e2,r2,l7 vs'++rest,rfl,D5,hj,by have:=fO (ax hcc);ac_nf,hei,hO5.mono λj hj=>(nX hcc).mpr ⟨ei,hR,hj⟩,hp,by rw[em];exact hmv2,λG6 D6 ch6=> ?_⟩
  have nad:acc≠ds:=λz=>by rw[z,g1]at ga;cases ga
  have nag:acc≠gd:=λz=>by rw[z,g2]at ga;cases ga
  refine⟨ch6 acc _ (by simp[nad,nag]) ga,us++[t],vs',ki.to (mks t).length r2,e2,by rw[gR];rfl,by rw[aL];rfl,by rw[aE (aG nad)];exact D6.ins,by rw[aE (aG nag)];exact D6.gui,(ch.trans ch6).mod' hacc,af,(nX hcc).mpr ⟨ei,hR,xT (uB hp).1⟩,by rw[hus,cx];rfl,hp3,em,eN,wJ hmv2,?_⟩
  show ki.u+(mks t).length+(l7 vs').length=_
  rw[<-huv]
  show _=ki.u+(mks t++l7 vs').length
  rw[aL]
  ac_nf
 ·rintro ys Gi ⟨us,vs,ki,ei,rfl,hul,g1,g2,ch,ga,hR,hus,hpk,em,eN,hmv,huv⟩
  rw[hil]at hul
  rw[hil,List.drop_length]at hpk
  have hvs:vs=[]/\ei=e0/\ki.k=r0:=by
   unfold fI at hpk
   rw[L3.pk_cons]at hpk
   split at hpk
   ·cases hpk;exact⟨rfl,rfl,rfl⟩
   ·cases hpk
  obtain⟨rfl,rfl,hr0⟩:=hvs
  rw[cr]at hus
  subst hus
  have eg:ki=k0.to (l7 us0).length r0:=by
   unfold Gs.to
   rw[<-em,<-eN,<-hr0,<-huv]
   rfl
  rw[eg]at g2
  exists oj (aO ga) ?_
  exact⟨_,GE.refl,q _ (D4.ch ch g1 g2) (geA.ch.trans ch)⟩
end
section
variable{P:aK}{w:aX}{K:PySem.W.Frag}{mg:Str->Option ae}{base:Heap}{f fi fm fa fp fr fe fs' fh CD CC CB:Addr}{fd di dm da dp dr de ds' dh:a8}{tTU:Tok}
theorem Hz:bv ["self", "number", "onward", "make", "kind"] ["self", "number", "onward"] (aN EI):=⟨rfl,rfl,rfl,by decide+kernel,rfl,by decide+kernel,by decide+kernel⟩
theorem we{n k:Nat}(q1:r9 K CC "signs")(q2:r9 K CC "makes")(q3:r9 K CC "parts")(n1:r9 K CD "counts")(n3:r9 K CD "at")(F:Fun K "make_tree" "Descent.make_tree" EI f fd)(B:BN mg)(MR:fq P w K mg base CD (k+1) "make_row" fr dr ["self", "parts", "onward"] (yX CD CC CB n))(MP:fq P w K mg base CD (k+1) "make_pick" fp dp ["self", "parts", "onward"] (vN CD CC CB n))(MU:fq P w K mg base CD (k+1) "make_turns" fa da ["self", "number", "onward"] (yW CD CC CB n))(MT:fq P w K mg base CD k "make_tree" fm dm ["self", "number", "onward"] (mZ CD CC CB n)):iL P w K mg base (k+2) f fd ["self", "number", "onward"] (mZ CD CC CB (n+1)):=by
 have nd:=Hz.nd
 refine jX F Hz (λvs G Q h=> ?_) (λcdv A outer s H E as G Q hr h=> ?_)
 ·obtain⟨_,_,_,_,_,_,_,_,_,_,_,_,_,_,_,_,_,_,_,_,_,_,rfl,_⟩:=h
  rfl
 have hU:=eD hr
 apply jw
 case a=>symm
 obtain⟨ds,cn,gd,dd,db,dx,m,pa,tb,ts,T,p,qq,k0,e,num,ow,o,t,e',r,rest,rfl,D,hq,hdp,he,hon,hpt,hms,q⟩:=h
 have hk0:=tm _ _ hpt
 exists cI D.ins rfl ?_
 exists cI D.tab.ins rfl ?_
 exists cj (aO D.tab.mks) (bI (iV hq)) ?_
 left
 have hLT:=D.cs.len
 have harr:=D.ar _ (ax hq)
 cases qq with
 |none=>
  exact absurd hk0 (by unfold bf;rw[i3];ac_nf)
 |blank=>
  nofun
  ext
  ext
  ext
  ext
  exists⟨cA,?_⟩
  exists DR rfl rfl ?_
  exists lw rfl ?_
  exists⟨cA,?_⟩
  have h1:bf T .blank e=[(Tr.blank,e)]:=by unfold bf;rfl
  rw[h1,L3.pk_cons]at hpt
  split at hpt
  ·cases hpt
   exact⟨_,GE.refl,q _ D Ch.refl⟩
  ·cases hpt
 |sign z=>
  have h0:∃c,T[e]? =some c/\c∈z.cps.toList:=by
   unfold bf at hk0
   cases ec:T[e]? with
   |none=>rw[ec]at hk0;exact absurd hk0 (jm _)
   |some c=>
    rw[ec]at hk0
    by_cases hc:c∈z.cps.toList
    ·exact⟨c,rfl,hc⟩
    ·simp only[if_neg hc]at hk0;exact absurd hk0 (jm _)
  obtain⟨c,ec,hc⟩:=h0
  have h1:bf T (.sign z) e=[(Tr.sign ⟨#[c]⟩,e+1)]:=by unfold bf;rw[ec];simp only[if_pos hc]
  have hel:=(aq.mp ec).1
  rw[h1]at hk0
  rw[gQ,i3]at hk0
  rw[h1,L3.pk_cons,if_pos (by ac_nf)]at hpt
  cases hpt
  nofun
  exists fz rfl rfl (ia rfl ?_)
  exists Eo D.ins rfl (aW rfl) ?_
  left
  have ef:i9 "at" (.int ((e:Int)+1)) (zR cn gd e)=zR cn gd (e+1):=rfl
  have eG:up G ds (.ins CD dd (i9 "at" (.int ((e:Int)+1)) (zR cn gd e)))=up G ds (.ins CD dd (zR cn gd (e+1))):=by rw[ef]
  have ndg:gd≠ds:=λzz=>by have:=D.gui;rw[zz,D.ins]at this;cases this
  have ch1:Ch [ds,gd] G (up G ds (.ins CD dd (zR cn gd (e+1)))):=Ch.refl.put (by simp)
  have D1:=D.ch ch1 (e':=e+1) (k':=k0) af (by rw[aE ndg];exact D.gui)
  refine cI D1.ins rfl ?_
  exists cI D1.tab.ins rfl ?_
  exists cI D1.ins rfl ?_
  left
  have e9:((e+1:Nat):Int)-1=(e:Int):=by ac_nf
  refine pE (c:=c) (by rw[eW];ac_nf) (by show qv _ (((e+1:Nat):Int)-1)=_;rw[e9];exact bI (by rw[qo];exact ec)) ?_
  exact⟨cA,_,GE.refl,q _ D1 ch1⟩
 |row ps=>
  nofun
  ext
  exists fz rfl rfl (ia rfl ?_)
  exists⟨⟨ds,dd,_,rfl,D.ins,rfl⟩,?_⟩
  exists cI D.ins rfl ?_
  exists cI D.tab.ins rfl ?_
  exists cj (aO D.tab.pts) (bI (fW hq)) ?_
  left
  rw[kE,oM Tr.row (fI T ps e) k0.k]at hpt
  cases hp:pk o (fI T ps e) k0.k with
  |none=>rw[hp]at hpt;cases hpt
  |some y=>
  obtain⟨us,e2,r2⟩:=y
  rw[hp]at hpt
  cases hpt
  refine⟨ds,cn,gd,dd,db,dx,m,pa,tb,ts,T,p,ps,k0,e,num,ow,o,us,_,_,rest,rfl,D,hq,by unfold depth at hdp;ac_nf,he,hon,hp,hms,λG' D' ch=> ?_⟩
  exact⟨cA,_,GE.refl,q G' D' ch⟩
 |pick ps=>
  nofun
  ext
  ext
  exists fz rfl rfl (ia rfl ?_)
  exists⟨⟨ds,dd,_,rfl,D.ins,rfl⟩,?_⟩
  exists cI D.ins rfl ?_
  exists cI D.tab.ins rfl ?_
  exists cj (aO D.tab.pts) (bI (fW hq)) ?_
  exists⟨ds,cn,gd,dd,db,dx,m,pa,tb,ts,T,p,ps,k0,e,num,ow,o,t,e',r,rest,rfl,D,hq,by unfold depth at hdp;ac_nf,harr.2,he,hon,hpt,hms,λG' D' ch=> ?_⟩
  exact⟨_,GE.refl,q G' D' ch⟩
 |again rr=>
  obtain⟨us,rfl⟩:=zX (uB hpt).1
  nofun
  ext
  ext
  ext
  exists fz rfl rfl (ia rfl ?_)
  exists⟨⟨ds,dd,_,rfl,D.ins,rfl⟩,?_⟩
  exists⟨ds,cn,gd,dd,db,dx,m,pa,tb,ts,T,p,rr,k0,e,num,ow,o,us,e',r,rest,rfl,D,hq,by unfold depth at hdp;ac_nf,he,hon,hpt,hms,λG' D' ch=> ?_⟩
  exact⟨cA,_,GE.refl,q G' D' ch⟩
 |held nm rr=>
  obtain⟨j,ej,hj,hnj⟩:=gY (i:=0) (cc:=rr) hq rfl rfl
  have hj1:j=num+1:=i0.mp (PV.int.inj ej).symm
  have htr:bf T (.held nm rr) e=(bf T rr e).map λt=>(.held nm t.1,t.2):=by conv=>lhs;unfold bf
  nofun
  ext
  ext
  ext
  ext
  exists⟨cA,?_⟩
  exists DR rfl rfl ?_
  exists ia rfl ?_
  exists eF (x:= .str nm) rfl ?_
  exists⟨⟨ds,dd,_,rfl,D.ins,rfl⟩,?_⟩
  exists cI D.ins rfl ?_
  exists cI D.tab.ins rfl ?_
  exists cj (aO D.tab.pts) (bI (fW hq)) ?_
  exists eF (x:= .int (j:Int)) (by rw[hj1];rfl) ?_
  left
  rw[htr,oM (Tr.held nm) (bf T rr e) k0.k]at hpt
  cases hp:pk o (bf T rr e) k0.k with
  |none=>rw[hp]at hpt;cases hpt
  |some y=>
  obtain⟨t2,e2,r2⟩:=y
  rw[hp]at hpt
  cases hpt
  refine⟨ds,cn,gd,dd,db,dx,m,pa,tb,ts,T,p,rr,k0,e,j,ow,o,t2,_,_,rest,rfl,D,hj,by unfold depth at hdp;ac_nf,he,hon.mono λi hi=>by rw[uG];exact hi,hp,hms,λG' D' ch=> ?_⟩
  exact⟨cA,_,GE.refl,q G' D' ch⟩
 |price nm rr=>
  obtain⟨j,ej,hj,hnj⟩:=gY (i:=0) (cc:=rr) hq rfl rfl
  have hj1:j=num+1:=i0.mp (PV.int.inj ej).symm
  have htr:bf T (.price nm rr) e=(bf T rr e).map λt=>(.price nm t.1,t.2):=by conv=>lhs;unfold bf
  nofun
  ext
  ext
  ext
  ext
  exists⟨cA,?_⟩
  exists DR rfl rfl ?_
  exists ia rfl ?_
  exists eF (x:= .int nm) rfl ?_
  exists⟨⟨ds,dd,_,rfl,D.ins,rfl⟩,?_⟩
  exists cI D.ins rfl ?_
  exists cI D.tab.ins rfl ?_
  exists cj (aO D.tab.pts) (bI (fW hq)) ?_
  exists eF (x:= .int (j:Int)) (by rw[hj1];rfl) ?_
  left
  rw[htr,oM (Tr.price nm) (bf T rr e) k0.k]at hpt
  cases hp:pk o (bf T rr e) k0.k with
  |none=>rw[hp]at hpt;cases hpt
  |some y=>
  obtain⟨t2,e2,r2⟩:=y
  rw[hp]at hpt
  cases hpt
  refine⟨ds,cn,gd,dd,db,dx,m,pa,tb,ts,T,p,rr,k0,e,j,ow,o,t2,_,_,rest,rfl,D,hj,by unfold depth at hdp;ac_nf,he,hon.mono λi hi=>by rw[rc];exact hi,hp,hms,λG' D' ch=> ?_⟩
  exact⟨cA,_,GE.refl,q G' D' ch⟩
theorem ra(x0:mg "TURN" =some (.int 0 tTU))(q1:r9 K CC "signs")(q2:r9 K CC "makes")(q3:r9 K CC "parts")(n1:r9 K CD "counts")(n2:r9 K CD "guide")(n3:r9 K CD "at")(B:BN mg)(ME:fq P w K mg base CC 1 "ends_of" fe de ["self", "number", "at"] (oF CC))(MS:fq P w K mg base CD 2 "size" fs' ds' ["self", "number", "at", "onward"] (kW CD CC CB))(MA:fq P w K mg base CD 3 "onward_ahead" fh dh ["self", "number", "places", "onward"] (na CD CC CB))(MC:fq P w K mg base CB 1 "choose" fi di ["self", "sizes"] (jN CB))
  (F:Fun K "make_tree" "Descent.make_tree" EI f fd) (b:Binds K fd ["self", "number", "onward"] []) (m:jo K CD "make_tree" f)
  (FR:Fun K "make_row" "Descent.make_row" qy fr dr) (bR:Binds K dr ["self", "parts", "onward"] []) (mR:jo K CD "make_row" fr)
  (FP:Fun K "make_pick" "Descent.make_pick" mI fp dp) (bP:Binds K dp ["self", "parts", "onward"] []) (mP:jo K CD "make_pick" fp)
  (FU:Fun K "make_turns" "Descent.make_turns" mH fa da) (bU:Binds K da ["self", "number", "onward"] []) (mU:jo K CD "make_turns" fa):
  ∀n:Nat,iL P w K mg base (3+2*n) f fd ["self", "number", "onward"] (mZ CD CC CB n)
 |0=>kI λas G Q h=>by
  obtain⟨_,_,_,_,_,_,_,_,_,_,_,_,qq,_,_,_,_,_,_,_,_,_,_,_,_,hd,_⟩:=h
  cases qq<;>(unfold depth at hd;ac_nf)
 |n+1=>by
  have ih:=ra x0 q1 q2 q3 n1 n2 n3 B ME MS MA MC F b m FR bR mR FP bP mP FU bU mU n
  have MT:fq P w K mg base CD (3+2*n) "make_tree" f fd ["self", "number", "onward"] (mZ CD CC CB n):=⟨ih,b,n1.c,m⟩
  have hk:3<=3+2*n:=by ac_nf
  exact we (k:=3+2*n) q1 q2 q3 n1 n3 F B ⟨De hk n1 n2 n3 FR B ME MA MT,bR,n1.c,mR⟩ ⟨AC (by ac_nf) n1.c n1.n n2.n n3.n FP B MS MC MT,bP,n1.c,mP⟩ ⟨C8 hk x0 q3 n1 n2 n3 FU B ME MS MA MC MT,bU,n1.c,mU⟩ MT
end
noncomputable abbrev Ic:Stmt:=top 22
noncomputable abbrev Bn:Stmt:=top 38
noncomputable abbrev z7:Stmt:=top 39
theorem xX(p:Pt):(makes p)[0]? =some p:=by rw[ju p];rfl
section
variable{P:aK}{w:aX}{K:PySem.W.Frag}{mg:Str->Option ae}{base:Heap}{f fi fm fa fg fb ft CD CC CB D:Addr}{fd di dm da dg db' dt:a8}
theorem vT:bv ["self"] ["self"] (aN tW):=⟨rfl,rfl,rfl,by decide+kernel,rfl,by decide+kernel,by decide+kernel⟩
noncomputable def Ip(CD CC CB:Addr)(n:Nat):hX:=λas G Q=>∃(ds cn gd dd db dx m pa tb:Addr) (ts:List Addr) (T:List Nat) (p:Pt) (k:Gs) (t:Tr) (e' r:Nat) (rest:List Int),as=[.ref ds]/\Ds CD CC CB G ds cn gd T p k 0 dd db dx m pa tb ts/\depth p<=n/\pk (dl T.length) (bf T p 0) k.k=some (t,e',r)/\k.ms.drop k.u=mks t++rest/\
 ∀G',Ds CD CC CB G' ds cn gd T p (k.to (mks t).length r) e' dd db dx m pa tb ts->Ch [ds,gd] G G'->Q (ic t) G'
theorem Ay{n k:Nat}(q1:r9 K CC "signs")(n1:r9 K CD "counts")(F:Fun K "whole_tree" "Descent.whole_tree" tW f fd)(B:BN mg)(MT:fq P w K mg base CD k "make_tree" fm dm ["self", "number", "onward"] (mZ CD CC CB n)):iL P w K mg base (k+1) f fd ["self"] (Ip CD CC CB n):=by
 have nd:=vT.nd
 refine jX F vT (λvs G Q h=> ?_) (λcdv A outer s H E as G Q hr h=> ?_)
 ·obtain⟨_,_,_,_,_,_,_,_,_,_,_,_,_,_,_,_,_,rfl,_⟩:=h
  rfl
 have hU:=eD hr
 apply jw
 case a=>symm
 obtain⟨ds,cn,gd,dd,db,dx,m,pa,tb,ts,T,p,k0,t,e',r,rest,rfl,D,hd,hpt,hms,q⟩:=h
 exists⟨⟨ds,dd,_,rfl,D.ins,rfl⟩,?_⟩
 left
 intro od hod
 left
 have ge0:GE G (up G od (.dK [])):=GE.refl.new hod
 have D1:=D.ge ge0
 refine cI D1.ins rfl ?_
 exists cI D1.tab.ins rfl ?_
 left
 have hLT:=D.cs.len
 refine kK (by rw[eW];ac_nf) ?_
 rw[eW]
 exists vc rfl af ?_
 rw[fZ]
 have ge1:GE G (up G od (.dK [(.inl (T.length:Int),.int 1)])):=GE.refl.new hod
 exists⟨ds,cn,gd,dd,db,dx,m,pa,tb,ts,T,p,p,k0,0,0,od,dl T.length,t,e',r,rest,rfl,D.ge ge1,xX p,hd,bn _,⟨_,kl af,λj _=> ?_⟩,hpt,hms,λG' D' ch=> ?_⟩
 ·rw[ff]
  unfold dl
  by_cases h:T.length=j
  ·subst h;rw[if_pos rfl,if_pos rfl];rfl
  ·rw[if_neg (rn h),if_neg h];rfl
 ·exact⟨_,GE.refl,q G' D' (ge1.ch.trans ch)⟩
theorem Hy:bv ["pattern", "tree", "guide"] ["pattern", "tree"] (aN Ic):=⟨rfl,rfl,rfl,by decide+kernel,rfl,by decide+kernel,by decide+kernel⟩
noncomputable def BX(n:Nat):hX:=λas G Q=>∃(p:Pt) (T:List Nat) (t:Tr) (k:Nat),as=[il p,ic t]/\Cs T p/\(∀q∈makes p,NM q)/\depth p<=n/\(qa T p)[k]? =some (t,T.length)/\fine 10000 t/\uk t=T/\Q (.int (k:Nat)) G
theorem GR(ms:List Int)(k:Nat):[(("marks" :Str),PV.tup (ms.map PV.int)),("used",.int 0),("passed",.int 0)]=gF ⟨ms,k,0,k⟩:=by
 unfold gF
 simp
theorem Jo{n k:Nat}(hk:5<=k)(nP:r9 K CB "passed")(F:Fun K "number_of" "number_of" Ic f fd)(B:BN mg)(MC:NS P w K mg base "Counts" CC fi di 4 ["self", "pattern", "text"] (xD CC))(MB:NS P w K mg base "ByMarks" CB fb db' 1 ["self", "marks"] (y0 CB))(MD:NS P w K mg base "Descent" CD fg dg 1 ["self", "counts", "guide"] (yZ CD))(MW:fq P w K mg base CD k "whole_tree" fa da ["self"] (Ip CD CC CB n))(CM:cq P w K mg base 3 "marks_of" fm dm ["tree"] ut)(CT:cq P w K mg base 3 "text_of" ft dt ["tree"] qS):iL P w K mg base (k+1) f fd ["pattern", "tree"] (BX n):=by
 have nd:=Hy.nd
 refine jX F Hy (λvs G Q h=> ?_) (λcdv A outer s H E as G Q hr h=> ?_)
 ·obtain⟨_,_,_,_,rfl,_⟩:=h
  rfl
 have hU:=eD hr
 apply jw
 case a=>symm
 obtain⟨p,T,t,k0,rfl,cs,har,hd,hw,hf,htc,q⟩:=h
 exists⟨t,rfl,aP hf.2 (by decide),?_⟩
 left
 intro xb dxb hxb hdxb ndb
 refine⟨xb,dxb,mks t,rfl,af,rfl,?_⟩
 rw[fZ,GR (mks t) k0]
 have ge1:GE G (up G xb (.ins CB dxb (gF ⟨mks t,k0,0,k0⟩))):=GE.refl.new hxb
 have gb1:up G xb (.ins CB dxb (gF ⟨mks t,k0,0,k0⟩)) xb=some (.ins CB dxb (gF ⟨mks t,k0,0,k0⟩)):=af
 generalize up G xb (.ins CB dxb (gF ⟨mks t,k0,0,k0⟩))=G1 at ge1 gb1
 exists⟨t,rfl,hf.1,aP hf.2 (by decide),?_⟩
 have etx:tx t=pR T:=by unfold tx pR;rw[htc]
 rw[etx]
 left
 intro x dx hx hdx ndx
 refine⟨x,dx,T,p,rfl,af,cs,λG2 m pa tb ts ch tb1=>⟨rfl,?_⟩⟩
 have mB:GE G1 G2:=λb o hb=>by
  have ne:b≠x:=aY hb hx
  exact ch b o (by simpa using ne) (by rw[aE ne];exact hb)
 left
 intro xd dxd hxd hdxd ndd
 refine⟨xd,dxd,x,xb,rfl,af,rfl,?_⟩
 rw[fZ]
 have ge3:GE G2 (up G2 xd (.ins CD dxd (zR x xb 0))):=GE.refl.new hxd
 have gb2:=mB _ _ gb1
 have hpt:pk (dl T.length) (bf T p 0) k0=some (t,T.length,0):=by
  rw[q9]
  change ((qa T p)[k0]?).map _=_
  rw[hw]
  rfl
 have Dn:Ds CD CC CB (up G2 xd (.ins CD dxd (zR x xb 0))) xd x xb T p ⟨mks t,k0,0,k0⟩ 0 dxd dxb dx m pa tb ts:=⟨af,ge3 _ _ gb2,tb1.ge ge3,cs,har⟩
 exists⟨⟨xd,dxd,_,rfl,af,rfl⟩,?_⟩
 exists⟨xd,x,xb,dxd,dxb,dx,m,pa,tb,ts,T,p,⟨mks t,k0,0,k0⟩,t,T.length,0,[],rfl,Dn,hd,hpt,by simp,λG4 D4 ch4=> ?_⟩
 exists cI D4.gui rfl ?_
 have e0:((k0:Nat):Int)-((0:Nat):Int)=(k0:Int):=by ac_nf
 show∃G0,GE G0 G4/\Q (.int (((k0:Nat):Int)-((0:Nat):Int))) G0
 rw[e0]
 have hxb0:G xb=none:=hxb
 have hxd1:G xd=none:=none_of (ge1.trans mB) hxd
 refine⟨G,λb o hb=>ch4 b o ?_ (ge3 _ _ (mB _ _ (ge1 _ _ hb))),q⟩
 have e1:=aY hb hxb0
 have e2:=aY hb hxd1
 simp[e1,e2]
theorem B6:bv ["pattern", "one", "due", "found"] ["pattern", "one", "due"] (aN Bn):=⟨rfl,rfl,rfl,by decide+kernel,rfl,by decide+kernel,by decide+kernel⟩
noncomputable def xB(n:Nat):hX:=λas G Q=>∃(p:Pt) (T:List Nat) (t:Tr) (k:Nat),as=[il p,ic t,.int (k:Int)]/\Cs T p/\(∀q∈makes p,NM q)/\depth p<=n/\(qa T p)[k]? =some (t,T.length)/\fine 10000 t/\uk t=T/\Q (.bl true) G
theorem FD{n k:Nat}(F:Fun K "_law_told" "_law_told" Bn f fd)(B:BN mg)(CN:cq P w K mg base k "number_of" fa da ["pattern", "tree"] (BX n)):iL P w K mg base (k+1) f fd ["pattern", "one", "due"] (xB n):=by
 have nd:=B6.nd
 refine jX F B6 (λvs G Q h=> ?_) (λcdv A outer s H E as G Q hr h=> ?_)
 ·obtain⟨_,_,_,_,rfl,_⟩:=h
  rfl
 have hU:=eD hr
 apply jw
 case a=>symm
 obtain⟨p,T,t,k0,rfl,cs,har,hd,hw,hf,htc,q⟩:=h
 exists⟨p,T,t,k0,rfl,cs,har,hd,hw,hf,htc,?_⟩
 exists rE rfl (by decide) ?_
 refine ia rfl ?_
 exists rE rfl (by decide) ?_
 exists ia rfl ?_
 exists fz rfl rfl ?_
 have e1:mh (.int (k0:Int)) (.int (k0:Int))=true:=by simp[mh]
 rw[e1]
 exact⟨G,GE.refl,q⟩
end
theorem zY{f:Nat->List (Tr×Nat)}{B:Nat}(h:∀e x,x∈f e->ui x.1<=B):∀(n e:Nat) x,x∈Bh f n e->qH x.1<=B
 |0,e,x,hx=>by cases au.mp hx;exact bn _
 |n+1,e,x,hx=>by
  rcases aZ.mp hx with hx|hx
  ·obtain⟨t,ht,hx⟩:=bB.mp hx
   obtain⟨u,hu,rfl⟩:=av.mp hx
   simp only[qH]
   exact Nat.max_le.mpr ⟨h e t ht,zY h n t.2 u hu⟩
  ·cases au.mp hx;exact bn _
mutual
theorem oo(T:List Nat):∀(p:Pt) (e:Nat) x,x∈bf T p e->ui x.1<=depth p
 | .none,e,x,h=>by simp[bf]at h
 | .blank,e,x,h=>by simp[bf]at h;rw[h];exact am _
 | .sign s,e,x,h=>by
  unfold bf at h
  split at h
  ·split at h
   ·cases au.mp h;exact am _
   ·cases h
  ·cases h
 | .row ps,e,x,h=>by
  rw[kE]at h
  obtain⟨s,hs,rfl⟩:=av.mp h
  show 1+qH s.1<=1+a9 ps
  have:=zo T ps e s hs
  ac_nf
 | .pick ps,e,x,h=>by
  unfold bf at h
  show ui x.1<=1+a9 ps
  exact yS T ps 0 e x h
 | .again p,e,x,h=>by
  unfold bf at h
  obtain⟨s,hs,rfl⟩:=av.mp h
  show 1+qH s.1<=1+depth p
  have:=zY (B:=depth p) (λe x hx=>oo T p e x hx) _ _ s hs
  ac_nf
 | .held n p,e,x,h=>by
  unfold bf at h
  obtain⟨s,hs,rfl⟩:=av.mp h
  show 1+ui s.1<=1+depth p
  have:=oo T p e s hs
  ac_nf
 | .price n p,e,x,h=>by
  unfold bf at h
  obtain⟨s,hs,rfl⟩:=av.mp h
  show 1+ui s.1<=1+depth p
  have:=oo T p e s hs
  ac_nf
theorem zo(T:List Nat):∀(ps:List Pt) (e:Nat) x,x∈fI T ps e->qH x.1<=a9 ps
 |[],e,x,h=>by unfold fI at h;cases au.mp h;exact bn _
 |p::ps,e,x,h=>by
  unfold fI at h
  obtain⟨t,ht,hx⟩:=bB.mp h
  obtain⟨u,hu,rfl⟩:=av.mp hx
  simp only[qH,a9]
  have h1:=oo T p e t ht
  have h2:=zo T ps t.2 u hu
  ac_nf
theorem yS(T:List Nat):∀(ps:List Pt) (k e:Nat) x,x∈eE T ps k e->ui x.1<=1+a9 ps
 |[],k,e,x,h=>by unfold eE at h;cases h
 |p::ps,k,e,x,h=>by
  unfold eE at h
  rcases aZ.mp h with h|h
  ·obtain⟨s,hs,rfl⟩:=av.mp h
   show 1+ui s.1<=1+max (depth p) (a9 ps)
   have:=oo T p e s hs
   ac_nf
  ·have:=yS T ps (k+1) e x h
   simp only[a9]
   ac_nf
end
theorem Jr{p:Pt}(h:fQ p):∀q∈makes p,NM q:=λq hq=>by
 have ok:=ii p h q hq
 cases q with
 |row ps=>exact⟨aP (by decide) ok.1.1,aP ok.1.2 (by decide)⟩
 |pick ps=>exact⟨aP (by decide) ok.1.1,aP ok.1.2 (by decide)⟩
 |_=>trivial
theorem By{T:List Nat}{p:Pt}(hd:depth p<=5):∀t∈qa T p,dQ 100 (ic t.1)=true:=λt ht=>by
 have h1:=oo T p 0 t (hJ.mp ht).1
 exact kN t.1 100 (by ac_nf)
theorem tj:∀(xs:List PV),(∀x∈xs,dQ 100 x=true)->dI 100 xs=true
 |[],_=>rfl
 |x::xs,h=>by
  unfold dI
  rw[h x (by simp),tj xs λy hy=>h y (by simp[hy])]
  rfl
section
variable{P:aK}{w:aX}{K:PySem.W.Frag}{mg:Str->Option ae}{base:Heap}{f fn fa fs fw:Addr}{fd dn da ds dw:a8}
noncomputable def ur:hX:=λps G Q=>∃(a:Addr) (b:Int),ps=[.ref a,.int b]/\Pool G a/\1<=b/\b<=10^30/\∀(n:Int) G',0<=n->n<b->Pool G' a->Ch [a] G G'->Q (.int n) G'
theorem Dd(F:Fun K "_law_next" "_law_next" yF f fd)(B:BN mg):iL P w K mg base 1 f fd ["pool", "base"] ur:=by
 have nd:=uz.nd
 refine jX F uz (λvs G Q h=> ?_) (λcdv A outer s H E as G Q hr h=> ?_)
 ·obtain⟨a,b,rfl,_⟩:=h
  rfl
 have hU:=eD hr
 apply jw
 case a=>symm
 obtain⟨a,b,rfl,⟨x,y,z,ga,hx⟩,b1,b2,q⟩:=h
 exists cj (aO ga) rfl ?_
 refine sr (λhp=> ?_) (λhp=> ?_)
 ·left
  refine cj (i:=0) (aO ga) rfl ?_
  refine⟨by ac_nf,?_⟩
  exists cj (i:=0) (aO ga) rfl ?_
  refine⟨⟨by ac_nf,b2⟩,?_⟩
  exists gJ (k:=0) ga rfl ?_
  exact⟨_,GE.refl,q _ _ (e7 _ (by ac_nf)) (dM _ (by ac_nf)) ⟨x/b,y,z,af,Int.ediv_nonneg hx (by ac_nf)⟩ (Ch.refl.put (by simp))⟩
 ·left
  refine cj (i:=2) (aO ga) rfl ?_
  exists gJ (k:=2) ga rfl ?_
  exists cj (i:=1) (aO af) rfl ?_
  exists cj (i:=2) (aO af) rfl ?_
  refine⟨.inl ⟨by decide,by decide⟩,(by decide:(0:Int)<1000000007),?_⟩
  have n0:0<=(y+7919*(z+1))%1000000007:=e7 _ (by decide)
  have n1:(y+7919*(z+1))%1000000007<1000000007:=dM _ (by decide)
  refine⟨.inl ⟨?_,?_⟩,(by decide:(0:Int)<998244353),?_⟩
  ·show-(2^64)<(y+7919*(z+1))%1000000007+11
   ac_nf
  ·show(y+7919*(z+1))%1000000007+11<2^64
   ac_nf
  generalize ((y+7919*(z+1))%1000000007+11)*((y+7919*(z+1))%1000000007+48271)=k
  have s0:0<=k%998244353:=e7 _ (by decide)
  have s1:k%998244353<998244353:=dM _ (by decide)
  refine⟨.inl ⟨?_,?_⟩,(by decide:(0:Int)<2147483647),⟨by decide,by decide⟩,(by ac_nf:0<b),?_⟩
  ·show-(2^64)<k%998244353
   ac_nf
  ·show k%998244353<2^64
   ac_nf
  exact⟨_,GE.refl,q _ _ (e7 _ (by ac_nf)) (dM _ (by ac_nf)) ⟨x,y,z+1,af,hx⟩ (Ch.refl.put (by simp))⟩
noncomputable def yY:hX:=λps G Q=>∃ns:List Int,ps=[.ro (ns.map PV.int)]/\ns.length<=63/\∀G',Q (.bl true) G'
theorem HA:bv ["script", "cell", "pool", "pattern", "letters", "text", "some", "k", "near", "turn"] ["script"] (aN z7):=⟨rfl,rfl,rfl,by decide+kernel,rfl,by decide+kernel,by decide+kernel⟩
theorem Jp{k:Nat}(hk:50<=k)(F:Fun K "law" "law" z7 f fd)(B:BN mg)(CS:cq P w K mg base k "_law_scene" fs ds ["cell", "most"] uq)(CW:cq P w K mg base k "_law_whole_trees" fw dw ["pattern", "text"] um)(CN:cq P w K mg base 1 "_law_next" fn dn ["pool", "base"] ur)(CT:cq P w K mg base 16 "_law_told" fa da ["pattern", "one", "due"] (xB 5)):iL P w K mg base (k+1) f fd ["script"] yY:=by
 have nd:=HA.nd
 refine jX F HA (λvs G Q h=> ?_) (λcdv A outer s H E as G Q hr h=> ?_)
 ·obtain⟨_,rfl,_⟩:=h
  rfl
 have hU:=eD hr
 apply jw
 case a=>symm
 obtain⟨ns,rfl,h63,q⟩:=h
 exists⟨cA,λl0 hl0=> ?_⟩
 exists KS lH (by simp;ac_nf) λsc hsc=> ?_
 left
 rw[lH]
 left
 have g0:up (up G l0 (.lst [PV.int 0])) sc (.lst ([PV.int 0]++ns.map PV.int)) sc=some (.lst ([PV.int 0]++ns.map PV.int)):=af
 generalize up (up G l0 (.lst [PV.int 0])) sc (.lst ([PV.int 0]++ns.map PV.int))=G0 at g0
 refine⟨λi τ G2=>∃t1 t2 t3 t4 t5 t6 t7 t8 t9:Option PV,τ=[some (.ro (ns.map PV.int)),t1,t2,t3,t4,t5,t6,t7,t8,t9]/\G2 sc=some (.lst ([PV.int 0]++ns.map PV.int)),⟨_,_,_,_,_,_,_,_,_,rfl,g0⟩,?_,?_,?_⟩
 ·rintro i τ G2 _ ⟨_,_,_,_,_,_,_,_,_,rfl,h⟩
  exact aO h
 ·rintro i x τ G2 hx ⟨_,_,_,_,_,_,t7,t8,t9,rfl,g2⟩
  obtain⟨c,rfl⟩:∃c:Int,x= .int c:=by
   have hm:=ax hx
   rcases aZ.mp hm with h|h
   ·exact⟨0,au.mp h⟩
   ·obtain⟨y,_,rfl⟩:=av.mp h
    exact⟨y,rfl⟩
  exists⟨c,5,rfl,by decide,by decide,λa p z T G3 ok hd z1 z5 hT p3 ge3 ha=> ?_⟩
  have hT5:T.length<=5:=by ac_nf
  have cs:Cs T p:=Np hT5 ok hd
  have har:=Jr ok
  have hlen:=qd hT5 (kY p ok) (bn _)
  have hwl2:(qa T p).length<=(bf T p 0).length:=lR _ _
  have g3:=ge3 _ _ g2
  have tell:∀(i:Nat),i<(qa T p).length->∃t,(qa T p)[i]? =some (t,T.length)/\fine 10000 t/\uk t=T/\qv ((qa T p).map λt=>ic t.1) (i:Int)=some (ic t):=λi hi=>by
   obtain⟨⟨t,e⟩,ht⟩:∃t,(qa T p)[i]? =some t:=⟨_,ak hi⟩
   obtain⟨h1,h2⟩:=hJ.mp (ax ht)
   obtain rfl:e=T.length:=by simpa using h2
   refine⟨t,ht,(jM hT5 p ok 0 (bn _) _ h1).mono (aP (nH hd) (by decide)),?_,bI (by rw[aC,ht];rfl)⟩
   have h3:=oq T p 0 _ h1
   simpa using h3
  exists⟨p,T,rfl,ok,hd,hT5,λwl hwn=> ?_⟩
  have naw:a≠wl:=by obtain⟨o,ho⟩:=p3.some;exact aY ho hwn
  have nsa:sc≠a:=aY g2 ha
  have nsw:sc≠wl:=aY g3 hwn
  have g4w:up G3 wl (.lst ((qa T p).map λt=>ic t.1)) wl=some (.lst ((qa T p).map λt=>ic t.1)):=af
  have g4s:up G3 wl (.lst ((qa T p).map λt=>ic t.1)) sc=some (.lst ([PV.int 0]++ns.map PV.int)):=by rw[aE nsw];exact g3
  have p4:Pool (up G3 wl (.lst ((qa T p).map λt=>ic t.1))) a:=p3.new hwn
  generalize up G3 wl (.lst ((qa T p).map λt=>ic t.1))=G4 at g4w g4s p4
  exists pD (aO g4w) ?_
  rw[ai]
  exists⟨by ac_nf,by ac_nf,?_⟩
  have hil:(jR 0 ((qa T p).length:Int).toNat).length=(qa T p).length:=by unfold jR;simp
  refine⟨λi τ G7=>∃t7 t8:Option PV,τ=[some (.ro (ns.map PV.int)),some (.int c),some (.ref a),some (il p),some (.str z),some (.str (pR T)),some (.ref wl),t7,t8,t9]/\G7=G4,⟨t7,t8,rfl,rfl⟩,?_,?_,?_⟩
  ·intros;trivial
  ·rintro i x τ G7 hx ⟨t7,t8,rfl,rfl⟩
   have hi2:=(aq.mp hx).1
   rw[hil]at hi2
   have ex:x= .int (i:Int):=by
    unfold jR at hx
    rw[aC,dA (by rw[kq];exact hi2)]at hx
    cases hx
    show PV.int (0+(i:Int))=_
    rw[Int.zero_add]
   subst ex
   obtain⟨t,ht,hf,htc,hat⟩:=tell i hi2
   left
   by_cases h30:(i:Int)<20
   ·refine ia (decide_eq_true h30) ?_
    exists ia rfl ?_
    exists cj (aO g4w) hat ?_
    exists⟨p,T,t,i,rfl,cs,har,hd,ht,hf,htc,?_⟩
    refine lw rfl ?_
    exact⟨_,_,rfl,rfl⟩
   ·refine lw (decide_eq_false h30) ?_
    exists pD (aO g4w) ?_
    rw[ai]
    exists sr (λh=> ?_) (λh=> ?_)
    ·left
     refine cj (aO g4w) hat ?_
     exists⟨p,T,t,i,rfl,cs,har,hd,ht,hf,htc,?_⟩
     refine lw rfl ?_
     exact⟨_,_,rfl,rfl⟩
    ·exact⟨_,_,rfl,rfl⟩
  rintro τ G7 ⟨t7',t8',rfl,rfl⟩
  exists⟨cA,λl2 hl2=> ?_⟩
  have g8w:up G7 l2 (.lst []) wl=some (.lst ((qa T p).map λt=>ic t.1)):=by rw[aE (aY g4w hl2)];exact g4w
  have g8s:up G7 l2 (.lst []) sc=some (.lst ([PV.int 0]++ns.map PV.int)):=by rw[aE (aY g4s hl2)];exact g4s
  have p8:Pool (up G7 l2 (.lst [])) a:=p4.new hl2
  exists L8 (aO g8w) lH (tj _ λx hx=> ?_) rfl ?_
  ·obtain⟨t,ht,rfl⟩:=av.mp hx
   exact By hd t ht
  by_cases hne:qa T p=[]
  ·refine lw (by rw[hne];rfl) ?_
   exact⟨_,_,_,_,_,_,_,_,_,rfl,g8s⟩
  have hpos:0<(qa T p).length:=EA.mpr hne
  refine ia (by
   obtain⟨t0,l,ew⟩:=List.exists_cons_of_ne_nil hne
   rw[ew];rfl) ?_
  generalize up G7 l2 (.lst [])=G8 at g8w g8s p8
  exists⟨by decide,by decide,?_⟩
  refine⟨λi τ G9=>∃t7 t9:Option PV,τ=[some (.ro (ns.map PV.int)),some (.int c),some (.ref a),some (il p),some (.str z),some (.str (pR T)),some (.ref wl),t7,t8',t9]/\G9 wl=some (.lst ((qa T p).map λt=>ic t.1))/\G9 sc=some (.lst ([PV.int 0]++ns.map PV.int))/\Pool G9 a,⟨t7',t9,rfl,g8w,g8s,p8⟩,?_,?_,?_⟩
  ·intros;trivial
  ·rintro i x τ G9 hx ⟨t7,t9,rfl,g9w,g9s,p9⟩
   exists pD (aO g9w) ?_
   rw[ai]
   exists⟨a,_,rfl,p9,by ac_nf,Int.le_trans (show((qa T p).length:Int)<=20000000 by ac_nf) (by decide),λnb G10 n0 n1 p10 ch10=> ?_⟩
   obtain⟨kn,rfl⟩:∃kn:Nat,nb=(kn:Int):=⟨nb.toNat,by ac_nf⟩
   obtain⟨t,ht,hf,htc,hat⟩:=tell kn (by ac_nf)
   have g10w:G10 wl=some (.lst ((qa T p).map λt=>ic t.1)):=ch10 wl _ (by simp[aG naw]) g9w
   have g10s:G10 sc=some (.lst ([PV.int 0]++ns.map PV.int)):=ch10 sc _ (by simp[nsa]) g9s
   exists cj (aO g10w) hat ?_
   exists⟨p,T,t,kn,rfl,cs,har,hd,ht,hf,htc,?_⟩
   refine lw rfl ?_
   exact⟨_,_,rfl,g10w,g10s,p10⟩
  ·rintro τ G9 ⟨t7,t9,rfl,g9w,g9s,p9⟩
   exact⟨_,_,_,_,_,_,_,_,_,rfl,g9s⟩
 ·rintro τ G2 ⟨_,_,_,_,_,_,_,_,_,rfl,g2⟩
  exact⟨_,GE.refl,q _⟩
end
noncomputable def Eg(K:PySem.W.Frag)(C:Addr)(ns:List Str)(fs:List Addr):Bool:=
 (PySem.W.plainGet K C Str.empty&&PySem.W.hasDictIn K C&&PySem.W.plainOver K C&&(PySem.W.findIn K (.ref C) "__setattr__" ==some (some (.builtin "object.__setattr__"))))&&ns.all (λn=>PySem.W.findIn K (.ref C) n==some none)
  &&(PySem.W.makesIn K C&&PySem.W.keepIn K (.ref C))&&fs.all (λf=>PySem.W.isFn K (.ref f))
theorem ym{K:PySem.W.Frag}{C:Addr}{ns:List Str}{fs:List Addr}(h:Eg K C ns fs=true):Cls K C/\(∀n∈ns,NoAttr K C n)/\(PySem.W.makesIn K C=true/\PySem.W.keepIn K (.ref C)=true)/\∀f∈fs,PySem.W.isFn K (.ref f)=true:=by
 unfold Eg at h
 simp only[bC,aU,beq_iff_eq]at h
 obtain⟨⟨⟨⟨⟨⟨h1,h2⟩,h3⟩,h4⟩,hn⟩,hm⟩,hf⟩:=h
 exact⟨⟨h1,h2,h3,h4⟩,λn hn'=>hn n hn',hm,hf⟩
noncomputable def ON(K:PySem.W.Frag):Bool:=El.all λx=>PySem.W.nsIn K cf x==some none
theorem Nw{K:PySem.W.Frag}{h:Heap}{mg:Str->Option ae}(X:K.In h)(G:h.Ns cf mg)(z:ON K=true):BN mg:=λx hx=>by
 unfold ON at z
 rw[aU]at z
 have:=z x (by simpa using hx)
 exact PySem.W.mg_none_of X G (beq_iff_eq.mp this)
theorem nw{us:List ae}(h:us.length=1):∃a,us=[a]:=by
 cases us with
 |nil=>cases h
 |cons a l=>cases l with
  |nil=>exact⟨a,rfl⟩
  |cons b l=>cases h
theorem jj{us:List ae}(h:us.length=2):∃a0 a1,us=[a0,a1]:=by
 cases us with
 |nil=>cases h
 |cons a l=>
  obtain⟨a1,rfl⟩:=nw (us:=l) (by simpa using h)
  exact⟨a,a1,rfl⟩
theorem lv{us:List ae}(h:us.length=3):∃a0 a1 a2,us=[a0,a1,a2]:=by
 cases us with
 |nil=>cases h
 |cons a l=>
  obtain⟨a1,a2,rfl⟩:=jj (us:=l) (by simpa using h)
  exact⟨a,a1,a2,rfl⟩
theorem Gd{us:List ae}(h:us.length=4):∃a0 a1 a2 a3,us=[a0,a1,a2,a3]:=by
 cases us with
 |nil=>cases h
 |cons a l=>
  obtain⟨a1,a2,a3,rfl⟩:=lv (us:=l) (by simpa using h)
  exact⟨a,a1,a2,a3,rfl⟩
theorem Jz{us:List ae}(h:us.length=5):∃a0 a1 a2 a3 a4,us=[a0,a1,a2,a3,a4]:=by
 cases us with
 |nil=>cases h
 |cons a l=>
  obtain⟨a1,a2,a3,a4,rfl⟩:=Gd (us:=l) (by simpa using h)
  exact⟨a,a1,a2,a3,a4,rfl⟩
noncomputable def FnB(K:PySem.W.Frag)(x qual:Str)(st:Stmt)(f:Addr):Prop:=∃oc od kV dc pm an cd ct sl,K.lookup f=some ⟨oc,od,.func (PySem.W.fnOf x qual (lj st) (iU st) (aN st) .none kV dc pm an cd ct),sl⟩/\PySem.W.codeIn K cd qual=true/\PySem.W.keepIn K (.ref f)=true
noncomputable def ip(K:PySem.W.Frag)(x:Str)(st:Stmt)(f:Addr):Prop:=PySem.W.nsIn K cf x=some (some (.ref f))/\FnB K x x st f
noncomputable def lA(K:PySem.W.Frag)(C:Addr)(x q:Str)(st:Stmt)(f:Addr):Prop:=PySem.W.findIn K (.ref C) x=some (some (.ref f))/\FnB K x q st f
theorem FnB.get{K:PySem.W.Frag}{x q:Str}{st:Stmt}{f:Addr}(u:FnB K x q st f):∃fd,Fun K x q st f fd:=by
 obtain⟨_,_,_,_,_,_,_,_,_,l,c,k⟩:=u
 exact⟨_,DW l c k⟩
theorem all_mk{l:PySem.W.OpenLaw}{w:aX}{K:PySem.W.Frag}{h:Heap}{mg:Str->Option ae}{fa f1 f2 f3 f4 f5 f6 f7 f8 f9 f10 f11 f12 f13 f14 f15 f16 f17 f18 f19 f20 f21 f22 f23 f24 f25 f26 f27 f28 f29 f30 f31 f32 f33 f34 f35 f36 f37 f38 f39 f40 f41 f42 f43:Addr}{cC cB cD:Addr}{tTU:Tok}{tST:Tok}(X:K.In h)(G:h.Ns cf mg)(hfa:mg "law" =some (.ref fa))
  (u1:ip K "inner_patterns" xo f1) (u2:ip K "makes_of" xn f2) (u3:ip K "parts_of" mG f3) (u4:ip K "add_ways" Ig f4) (u5:lA K cC "__init__" "Counts.__init__" yG f5) (u6:lA K cC "count_from" "Counts.count_from" Bu f6) (u7:lA K cC "count_row" "Counts.count_row" Ib f7) (u8:lA K cC "count_pick" "Counts.count_pick" Br f8) (u9:lA K cC "count_again" "Counts.count_again" xu f9) (u10:lA K cC "ends_of" "Counts.ends_of" Bv f10) (u11:lA K cB "__init__" "ByMarks.__init__" xq f11) (u12:lA K cB "choose" "ByMarks.choose" ub f12) (u13:lA K cD "__init__" "Descent.__init__" xp f13) (u14:lA K cD "whole_tree" "Descent.whole_tree" tW f14) (u15:lA K cD "size" "Descent.size" tY f15) (u16:lA K cD "onward_ahead" "Descent.onward_ahead" xt f16) (u17:lA K cD "make_tree" "Descent.make_tree" EI f17) (u18:lA K cD "make_row" "Descent.make_row" qy f18) (u19:lA K cD "make_pick" "Descent.make_pick" mI f19) (u20:lA K cD "make_turns" "Descent.make_turns" mH f20) (u21:ip K "is_whole" Ie f21) (u22:ip K "inner_trees" Bs f22) (u23:ip K "trees_within" tV f23) (u24:ip K "text_of" p7 f24) (u25:ip K "marks_and_trees" NW f25) (u26:ip K "marks_of" xl f26) (u27:ip K "number_of" Ic f27) (u28:ip K "_law_pool" Bq f28) (u29:ip K "_law_next" yF f29) (u30:ip K "_law_letters" qz f30) (u31:ip K "_law_signs" tZ f31) (u32:ip K "_law_size" yE f32) (u33:ip K "_law_some" Bp f33) (u34:ip K "_law_hard" Bt f34) (u35:ip K "_law_pattern" qx f35) (u36:ip K "_law_grown" ua f36) (u37:ip K "_law_text" Bo f37) (u38:ip K "_law_both" yH f38) (u39:ip K "_law_trees" kC f39) (u40:ip K "_law_whole_trees" tX f40) (u41:ip K "_law_scene" xj f41) (u42:ip K "_law_told" Bn f42) (u43:ip K "law" z7 f43) (m0:PySem.W.nsIn K cf "TURN" =some (some (.int 0 tTU))) (m1:PySem.W.nsIn K cf "STOP" =some (some (.int 1 tST))) (m2:PySem.W.nsIn K cf "Counts" =some (some (.ref cC))) (m3:PySem.W.nsIn K cf "ByMarks" =some (some (.ref cB))) (m4:PySem.W.nsIn K cf "Descent" =some (some (.ref cD))) (zc:Eg K cC ["signs", "makes", "parts", "table"] [f5,f6,f7,f8,f9,f10]=true) (zcB:Eg K cB ["marks", "used", "passed"] [f11,f12]=true) (zcD:Eg K cD ["counts", "guide", "at"] [f13,f14,f15,f16,f17,f18,f19,f20]=true) (zb:ON K=true):
  ∃fd:a8,(∀(s:al) (v:ae),BindsTo s fd ⟨[v],[]⟩ [("script",v)])/\∀base:Heap,K.In base->base.Ns cf mg->FnOk l.prog w K mg base Hn 51 fa fd ["script"] (Hv K yY):=by
 have e:=hfa.symm.trans (PySem.W.mg_of X G u43.1)
 cases e
 have B:=Nw X G zb
 obtain⟨d1,F1⟩:=u1.2.get
 have k1:=F1.kp
 have b1:=F1.binds (ps:=["pattern"]) λ_ _ _ _ _ _ us hl=>by obtain⟨_,rfl⟩:=nw hl;rfl
 have g1:=PySem.W.mg_of X G u1.1
 obtain⟨d2,F2⟩:=u2.2.get
 have k2:=F2.kp
 have b2:=F2.binds (ps:=["pattern"]) λ_ _ _ _ _ _ us hl=>by obtain⟨_,rfl⟩:=nw hl;rfl
 have g2:=PySem.W.mg_of X G u2.1
 obtain⟨d3,F3⟩:=u3.2.get
 have k3:=F3.kp
 have b3:=F3.binds (ps:=["pattern"]) λ_ _ _ _ _ _ us hl=>by obtain⟨_,rfl⟩:=nw hl;rfl
 have g3:=PySem.W.mg_of X G u3.1
 obtain⟨d4,F4⟩:=u4.2.get
 have k4:=F4.kp
 have b4:=F4.binds (ps:=["ways", "more", "times"]) λ_ _ _ _ _ _ us hl=>by obtain⟨_,_,_,rfl⟩:=lv hl;rfl
 have g4:=PySem.W.mg_of X G u4.1
 obtain⟨d5,F5⟩:=u5.2.get
 have k5:=F5.kp
 have b5:=F5.binds (ps:=["self", "pattern", "text"]) λ_ _ _ _ _ _ us hl=>by obtain⟨_,_,_,rfl⟩:=lv hl;rfl
 obtain⟨d6,F6⟩:=u6.2.get
 have k6:=F6.kp
 have b6:=F6.binds (ps:=["self", "number", "at"]) λ_ _ _ _ _ _ us hl=>by obtain⟨_,_,_,rfl⟩:=lv hl;rfl
 obtain⟨d7,F7⟩:=u7.2.get
 have k7:=F7.kp
 have b7:=F7.binds (ps:=["self", "number", "at"]) λ_ _ _ _ _ _ us hl=>by obtain⟨_,_,_,rfl⟩:=lv hl;rfl
 obtain⟨d8,F8⟩:=u8.2.get
 have k8:=F8.kp
 have b8:=F8.binds (ps:=["self", "number", "at"]) λ_ _ _ _ _ _ us hl=>by obtain⟨_,_,_,rfl⟩:=lv hl;rfl
 obtain⟨d9,F9⟩:=u9.2.get
 have k9:=F9.kp
 have b9:=F9.binds (ps:=["self", "number", "at"]) λ_ _ _ _ _ _ us hl=>by obtain⟨_,_,_,rfl⟩:=lv hl;rfl
 obtain⟨d10,F10⟩:=u10.2.get
 have k10:=F10.kp
 have b10:=F10.binds (ps:=["self", "number", "at"]) λ_ _ _ _ _ _ us hl=>by obtain⟨_,_,_,rfl⟩:=lv hl;rfl
 obtain⟨d11,F11⟩:=u11.2.get
 have k11:=F11.kp
 have b11:=F11.binds (ps:=["self", "marks"]) λ_ _ _ _ _ _ us hl=>by obtain⟨_,_,rfl⟩:=jj hl;rfl
 obtain⟨d12,F12⟩:=u12.2.get
 have k12:=F12.kp
 have b12:=F12.binds (ps:=["self", "sizes"]) λ_ _ _ _ _ _ us hl=>by obtain⟨_,_,rfl⟩:=jj hl;rfl
 obtain⟨d13,F13⟩:=u13.2.get
 have k13:=F13.kp
 have b13:=F13.binds (ps:=["self", "counts", "guide"]) λ_ _ _ _ _ _ us hl=>by obtain⟨_,_,_,rfl⟩:=lv hl;rfl
 obtain⟨d14,F14⟩:=u14.2.get
 have k14:=F14.kp
 have b14:=F14.binds (ps:=["self"]) λ_ _ _ _ _ _ us hl=>by obtain⟨_,rfl⟩:=nw hl;rfl
 obtain⟨d15,F15⟩:=u15.2.get
 have k15:=F15.kp
 have b15:=F15.binds (ps:=["self", "number", "at", "onward"]) λ_ _ _ _ _ _ us hl=>by obtain⟨_,_,_,_,rfl⟩:=Gd hl;rfl
 obtain⟨d16,F16⟩:=u16.2.get
 have k16:=F16.kp
 have b16:=F16.binds (ps:=["self", "number", "places", "onward"]) λ_ _ _ _ _ _ us hl=>by obtain⟨_,_,_,_,rfl⟩:=Gd hl;rfl
 obtain⟨d17,F17⟩:=u17.2.get
 have k17:=F17.kp
 have b17:=F17.binds (ps:=["self", "number", "onward"]) λ_ _ _ _ _ _ us hl=>by obtain⟨_,_,_,rfl⟩:=lv hl;rfl
 obtain⟨d18,F18⟩:=u18.2.get
 have k18:=F18.kp
 have b18:=F18.binds (ps:=["self", "parts", "onward"]) λ_ _ _ _ _ _ us hl=>by obtain⟨_,_,_,rfl⟩:=lv hl;rfl
 obtain⟨d19,F19⟩:=u19.2.get
 have k19:=F19.kp
 have b19:=F19.binds (ps:=["self", "parts", "onward"]) λ_ _ _ _ _ _ us hl=>by obtain⟨_,_,_,rfl⟩:=lv hl;rfl
 obtain⟨d20,F20⟩:=u20.2.get
 have k20:=F20.kp
 have b20:=F20.binds (ps:=["self", "number", "onward"]) λ_ _ _ _ _ _ us hl=>by obtain⟨_,_,_,rfl⟩:=lv hl;rfl
 obtain⟨d21,F21⟩:=u21.2.get
 have k21:=F21.kp
 have b21:=F21.binds (ps:=["thing"]) λ_ _ _ _ _ _ us hl=>by obtain⟨_,rfl⟩:=nw hl;rfl
 have g21:=PySem.W.mg_of X G u21.1
 obtain⟨d22,F22⟩:=u22.2.get
 have k22:=F22.kp
 have b22:=F22.binds (ps:=["tree"]) λ_ _ _ _ _ _ us hl=>by obtain⟨_,rfl⟩:=nw hl;rfl
 have g22:=PySem.W.mg_of X G u22.1
 obtain⟨d23,F23⟩:=u23.2.get
 have k23:=F23.kp
 have b23:=F23.binds (ps:=["tree"]) λ_ _ _ _ _ _ us hl=>by obtain⟨_,rfl⟩:=nw hl;rfl
 have g23:=PySem.W.mg_of X G u23.1
 obtain⟨d24,F24⟩:=u24.2.get
 have k24:=F24.kp
 have b24:=F24.binds (ps:=["tree"]) λ_ _ _ _ _ _ us hl=>by obtain⟨_,rfl⟩:=nw hl;rfl
 have g24:=PySem.W.mg_of X G u24.1
 obtain⟨d25,F25⟩:=u25.2.get
 have k25:=F25.kp
 have b25:=F25.binds (ps:=["tree"]) λ_ _ _ _ _ _ us hl=>by obtain⟨_,rfl⟩:=nw hl;rfl
 have g25:=PySem.W.mg_of X G u25.1
 obtain⟨d26,F26⟩:=u26.2.get
 have k26:=F26.kp
 have b26:=F26.binds (ps:=["tree"]) λ_ _ _ _ _ _ us hl=>by obtain⟨_,rfl⟩:=nw hl;rfl
 have g26:=PySem.W.mg_of X G u26.1
 obtain⟨d27,F27⟩:=u27.2.get
 have k27:=F27.kp
 have b27:=F27.binds (ps:=["pattern", "tree"]) λ_ _ _ _ _ _ us hl=>by obtain⟨_,_,rfl⟩:=jj hl;rfl
 have g27:=PySem.W.mg_of X G u27.1
 obtain⟨d28,F28⟩:=u28.2.get
 have k28:=F28.kp
 have b28:=F28.binds (ps:=["cell"]) λ_ _ _ _ _ _ us hl=>by obtain⟨_,rfl⟩:=nw hl;rfl
 have g28:=PySem.W.mg_of X G u28.1
 obtain⟨d29,F29⟩:=u29.2.get
 have k29:=F29.kp
 have b29:=F29.binds (ps:=["pool", "base"]) λ_ _ _ _ _ _ us hl=>by obtain⟨_,_,rfl⟩:=jj hl;rfl
 have g29:=PySem.W.mg_of X G u29.1
 obtain⟨d30,F30⟩:=u30.2.get
 have k30:=F30.kp
 have b30:=F30.binds (ps:=["pool"]) λ_ _ _ _ _ _ us hl=>by obtain⟨_,rfl⟩:=nw hl;rfl
 have g30:=PySem.W.mg_of X G u30.1
 obtain⟨d31,F31⟩:=u31.2.get
 have k31:=F31.kp
 have b31:=F31.binds (ps:=["pool", "letters"]) λ_ _ _ _ _ _ us hl=>by obtain⟨_,_,rfl⟩:=jj hl;rfl
 have g31:=PySem.W.mg_of X G u31.1
 obtain⟨d32,F32⟩:=u32.2.get
 have k32:=F32.kp
 have b32:=F32.binds (ps:=["pattern"]) λ_ _ _ _ _ _ us hl=>by obtain⟨_,rfl⟩:=nw hl;rfl
 have g32:=PySem.W.mg_of X G u32.1
 obtain⟨d33,F33⟩:=u33.2.get
 have k33:=F33.kp
 have b33:=F33.binds (ps:=["pool", "letters", "deep", "room", "blank"]) λ_ _ _ _ _ _ us hl=>by obtain⟨_,_,_,_,_,rfl⟩:=Jz hl;rfl
 have g33:=PySem.W.mg_of X G u33.1
 obtain⟨d34,F34⟩:=u34.2.get
 have k34:=F34.kp
 have b34:=F34.binds (ps:=["pool", "letters", "deep", "room", "blank"]) λ_ _ _ _ _ _ us hl=>by obtain⟨_,_,_,_,_,rfl⟩:=Jz hl;rfl
 have g34:=PySem.W.mg_of X G u34.1
 obtain⟨d35,F35⟩:=u35.2.get
 have k35:=F35.kp
 have b35:=F35.binds (ps:=["pool", "letters", "deep", "room", "blank"]) λ_ _ _ _ _ _ us hl=>by obtain⟨_,_,_,_,_,rfl⟩:=Jz hl;rfl
 have g35:=PySem.W.mg_of X G u35.1
 obtain⟨d36,F36⟩:=u36.2.get
 have k36:=F36.kp
 have b36:=F36.binds (ps:=["pool", "pattern", "room"]) λ_ _ _ _ _ _ us hl=>by obtain⟨_,_,_,rfl⟩:=lv hl;rfl
 have g36:=PySem.W.mg_of X G u36.1
 obtain⟨d37,F37⟩:=u37.2.get
 have k37:=F37.kp
 have b37:=F37.binds (ps:=["pool", "pattern", "letters", "most"]) λ_ _ _ _ _ _ us hl=>by obtain⟨_,_,_,_,rfl⟩:=Gd hl;rfl
 have g37:=PySem.W.mg_of X G u37.1
 obtain⟨d38,F38⟩:=u38.2.get
 have k38:=F38.kp
 have b38:=F38.binds (ps:=["some", "more"]) λ_ _ _ _ _ _ us hl=>by obtain⟨_,_,rfl⟩:=jj hl;rfl
 have g38:=PySem.W.mg_of X G u38.1
 obtain⟨d39,F39⟩:=u39.2.get
 have k39:=F39.kp
 have b39:=F39.binds (ps:=["pattern", "text", "at"]) λ_ _ _ _ _ _ us hl=>by obtain⟨_,_,_,rfl⟩:=lv hl;rfl
 have g39:=PySem.W.mg_of X G u39.1
 obtain⟨d40,F40⟩:=u40.2.get
 have k40:=F40.kp
 have b40:=F40.binds (ps:=["pattern", "text"]) λ_ _ _ _ _ _ us hl=>by obtain⟨_,_,rfl⟩:=jj hl;rfl
 have g40:=PySem.W.mg_of X G u40.1
 obtain⟨d41,F41⟩:=u41.2.get
 have k41:=F41.kp
 have b41:=F41.binds (ps:=["cell", "most"]) λ_ _ _ _ _ _ us hl=>by obtain⟨_,_,rfl⟩:=jj hl;rfl
 have g41:=PySem.W.mg_of X G u41.1
 obtain⟨d42,F42⟩:=u42.2.get
 have k42:=F42.kp
 have b42:=F42.binds (ps:=["pattern", "one", "due"]) λ_ _ _ _ _ _ us hl=>by obtain⟨_,_,_,rfl⟩:=lv hl;rfl
 have g42:=PySem.W.mg_of X G u42.1
 have x0:=PySem.W.mg_of X G m0
 have x1:=PySem.W.mg_of X G m1
 have x2:=PySem.W.mg_of X G m2
 have x3:=PySem.W.mg_of X G m3
 have x4:=PySem.W.mg_of X G m4
 obtain⟨_,_,kV,dc,pm,an,cd,ct,_,lL,qL,kL⟩:=u43.2
 have F43:=DW lL qL kL
 refine⟨PySem.W.fnOf "law" "law" (lj z7) (iU z7) (aN z7) .none kV dc pm an cd ct,λs v=> .of_eq rfl,λbase _ _=> ?_⟩
 obtain⟨cl,nC,hmk,hfn⟩:=ym zc
 have n1:=nC "signs" (by simp)
 have n2:=nC "makes" (by simp)
 have n3:=nC "parts" (by simp)
 have n4:=nC "table" (by simp)
 obtain⟨clB,nB,hmkB,hfnB⟩:=ym zcB
 have nm:=nB "marks" (by simp)
 have nu:=nB "used" (by simp)
 have np:=nB "passed" (by simp)
 obtain⟨clD,nD,hmkD,hfnD⟩:=ym zcD
 have nd1:=nD "counts" (by simp)
 have nd2:=nD "guide" (by simp)
 have nd3:=nD "at" (by simp)
 have mk:Mk K cC f5:=⟨hmk.1,u5.1,hfn f5 (by simp),hmk.2⟩
 have mkB:Mk K cB f11:=⟨hmkB.1,u11.1,hfnB f11 (by simp),hmkB.2⟩
 have mkD:Mk K cD f13:=⟨hmkD.1,u13.1,hfnD f13 (by simp),hmkD.2⟩
 have m6:jo K cC "count_from" f6:=⟨u6.1,hfn f6 (by simp),k6⟩
 have m7:jo K cC "count_row" f7:=⟨u7.1,hfn f7 (by simp),k7⟩
 have m8:jo K cC "count_pick" f8:=⟨u8.1,hfn f8 (by simp),k8⟩
 have m9:jo K cC "count_again" f9:=⟨u9.1,hfn f9 (by simp),k9⟩
 have m10:jo K cC "ends_of" f10:=⟨u10.1,hfn f10 (by simp),k10⟩
 have m12:jo K cB "choose" f12:=⟨u12.1,hfnB f12 (by simp),k12⟩
 have m14:jo K cD "whole_tree" f14:=⟨u14.1,hfnD f14 (by simp),k14⟩
 have m15:jo K cD "size" f15:=⟨u15.1,hfnD f15 (by simp),k15⟩
 have m16:jo K cD "onward_ahead" f16:=⟨u16.1,hfnD f16 (by simp),k16⟩
 have m17:jo K cD "make_tree" f17:=⟨u17.1,hfnD f17 (by simp),k17⟩
 have m18:jo K cD "make_row" f18:=⟨u18.1,hfnD f18 (by simp),k18⟩
 have m19:jo K cD "make_pick" f19:=⟨u19.1,hfnD f19 (by simp),k19⟩
 have m20:jo K cD "make_turns" f20:=⟨u20.1,hfnD f20 (by simp),k20⟩
 have C1:cq l.prog w K mg base 1 "inner_patterns" f1 _ ["pattern"] qk:=⟨Dh F1 B,b1,k1,g1⟩
 have C2:cq l.prog w K mg base 2 "makes_of" f2 _ ["pattern"] qj:=⟨Dg F2 B C1,b2,k2,g2⟩
 have C3:cq l.prog w K mg base 3 "parts_of" f3 _ ["pattern"] oB:=⟨xP F3 B C1 C2,b3,k3,g3⟩
 have C4:cq l.prog w K mg base 1 "add_ways" f4 _ ["ways", "more", "times"] vO:=⟨Jq F4 B,b4,k4,g4⟩
 have M7:fq l.prog w K mg base cC 2 "count_row" f7 _ ["self", "number", "at"] (Be cC Ih λ_=>true):=⟨Jn cl n1 n2 n3 n4 F7 B C4,b7,cl,m7⟩
 have M8:fq l.prog w K mg base cC 2 "count_pick" f8 _ ["self", "number", "at"] (Be cC BE λ_=>true):=⟨FI cl n1 n2 n3 n4 F8 B C4,b8,cl,m8⟩
 have M9:fq l.prog w K mg base cC 2 "count_again" f9 _ ["self", "number", "at"] (Be cC Ab Kt):=⟨Do cl n1 n2 n3 n4 F9 B C4,b9,cl,m9⟩
 have M6:fq l.prog w K mg base cC 3 "count_from" f6 _ ["self", "number", "at"] (Be cC Ab λ_=>true):=⟨FN cl n1 n2 n3 n4 F6 B M8 M9 M7,b6,cl,m6⟩
 have oki:iL l.prog w K mg base 4 f5 _ ["self", "pattern", "text"] (xD cC):=FL cl n1 n2 n3 n4 F5 B C2 C3 M6
 have M10:fq l.prog w K mg base cC 1 "ends_of" f10 _ ["self", "number", "at"] (oF cC):=⟨FO cl n4 F10 B,b10,cl,m10⟩
 have M12:fq l.prog w K mg base cB 1 "choose" f12 _ ["self", "sizes"] (jN cB):=⟨AD clB nm nu np F12 B,b12,clB,m12⟩
 have M15:fq l.prog w K mg base cD 2 "size" f15 _ ["self", "number", "at", "onward"] (kW cD cC cB):=⟨Da clD nd1 F15 B M10,b15,clD,m15⟩
 have M16:fq l.prog w K mg base cD 3 "onward_ahead" f16 _ ["self", "number", "places", "onward"] (na cD cC cB):=⟨Dl clD nd1 F16 B M15,b16,clD,m16⟩
 have oT:=ra (P:=l.prog) (w:=w) (base:=base) x0 ⟨cl,n1⟩ ⟨cl,n2⟩ ⟨cl,n3⟩ ⟨clD,nd1⟩ ⟨clD,nd2⟩ ⟨clD,nd3⟩ B M10 M15 M16 M12 F17 b17 m17 F18 b18 m18 F19 b19 m19 F20 b20 m20 5
 have M17:fq l.prog w K mg base cD 13 "make_tree" f17 _ ["self", "number", "onward"] (mZ cD cC cB 5):=⟨oT,b17,clD,m17⟩
 have M14:fq l.prog w K mg base cD 14 "whole_tree" f14 _ ["self"] (Ip cD cC cB 5):=⟨Ay ⟨cl,n1⟩ ⟨clD,nd1⟩ F14 B M17,b14,clD,m14⟩
 have CWI:cq l.prog w K mg base 1 "is_whole" f21 _ ["thing"] qR:=⟨Az F21 B,b21,k21,g21⟩
 have CIT:cq l.prog w K mg base 1 "inner_trees" f22 _ ["tree"] uu:=⟨FK F22 B,b22,k22,g22⟩
 have CWn:cq l.prog w K mg base 2 "trees_within" f23 _ ["tree"] qQ:=⟨Ax F23 B CIT,b23,k23,g23⟩
 have CTO:cq l.prog w K mg base 3 "text_of" f24 _ ["tree"] qS:=⟨AA F24 B CWn,b24,k24,g24⟩
 have CMT:cq l.prog w K mg base 2 "marks_and_trees" f25 _ ["tree"] Iq:=⟨LU x0 x1 F25 B CIT,b25,k25,g25⟩
 have CMO:cq l.prog w K mg base 3 "marks_of" f26 _ ["tree"] ut:=⟨Df F26 B CWI CMT,b26,k26,g26⟩
 have CNu:cq l.prog w K mg base 15 "number_of" f27 _ ["pattern", "tree"] (BX 5):=⟨Jo (by decide) ⟨clB,np⟩ F27 B ⟨mk,oki,b5,x2⟩ ⟨mkB,Dk clB nm nu np F11 B,b11,x3⟩ ⟨mkD,Dj clD nd1 nd2 nd3 F13 B,b13,x4⟩ M14 CMO CTO,b27,k27,g27⟩
 have C28:cq l.prog w K mg base 1 "_law_pool" f28 _ ["cell"] xC:=⟨FH F28 B,b28,k28,g28⟩
 have CN:cq l.prog w K mg base 1 "_law_next" f29 _ ["pool", "base"] gI:=⟨FJ F29 B,b29,k29,g29⟩
 have CNB:cq l.prog w K mg base 1 "_law_next" f29 _ ["pool", "base"] ur:=⟨Dd F29 B,b29,k29,g29⟩
 have CL:cq l.prog w K mg base 2 "_law_letters" f30 _ ["pool"] oE:=⟨xQ F30 B CN,b30,k30,g30⟩
 have CSi:cq l.prog w K mg base 2 "_law_signs" f31 _ ["pool", "letters"] mX:=⟨Db F31 B CN,b31,k31,g31⟩
 have CSz:∀n:Nat,cq l.prog w K mg base (n+1) "_law_size" f32 d32 ["pattern"] (lY n):=by
  intro n
  induction n with
  |zero=>exact⟨kI λas G Q h=>by obtain⟨p,_,hd,_⟩:=h;have:=pe p;ac_nf,b32,k32,g32⟩
  |succ n ih=>exact⟨FG (k:=n+1) (by ac_nf) F32 B ih,b32,k32,g32⟩
 have CPa:∀n:Nat,cq l.prog w K mg base (2*n+8) "_law_pattern" f35 d35 ["pool", "letters", "deep", "room", "blank"] (mY n):=by
  intro n
  induction n with
  |zero=>exact⟨kI λas G Q h=>by obtain⟨_,_,_,d,_,_,_,_,hd,_⟩:=h;ac_nf,b35,k35,g35⟩
  |succ n ih=>exact⟨xO (k:=2*n+8) (by ac_nf) F35 B CN CSi ⟨FF (k:=2*n+8) (by ac_nf) F33 B CN (CSz 5) ih,b33,k33,g33⟩ ⟨FM (k:=2*n+8) (by ac_nf) F34 B CN (CSz 5) ih,b34,k34,g34⟩ ih,b35,k35,g35⟩
 have CGr:∀n:Nat,cq l.prog w K mg base (n+2) "_law_grown" f36 d36 ["pool", "pattern", "room"] (m5 n):=by
  intro n
  induction n with
  |zero=>exact⟨kI λas G Q h=>by obtain⟨_,_,p,_,_,_,_,_,_,hd,_⟩:=h;have:=pe p;ac_nf,b36,k36,g36⟩
  |succ n ih=>exact⟨Di (k:=n+2) (by ac_nf) F36 B CN ih,b36,k36,g36⟩
 have CGx:cq l.prog w K mg base 8 "_law_grown" f36 _ ["pool", "pattern", "room"] (m5 5):=⟨(CGr 5).ok.mono (by decide),b36,k36,g36⟩
 have CTx:cq l.prog w K mg base 9 "_law_text" f37 _ ["pool", "pattern", "letters", "most"] uo:=⟨FE (k:=8) (by decide) F37 B CN CGx,b37,k37,g37⟩
 have CBo:cq l.prog w K mg base 1 "_law_both" f38 _ ["some", "more"] uv:=⟨FQ F38 B,b38,k38,g38⟩
 have CTr:∀n:Nat,cq l.prog w K mg base (n+1) "_law_trees" f39 d39 ["pattern", "text", "at"] (gC n):=by
  intro n
  induction n with
  |zero=>exact⟨kI λas G Q h=>by obtain⟨p,_,_,_,a,_⟩:=h;have:=pe p;have:=a.d;ac_nf,b39,k39,g39⟩
  |succ n ih=>exact⟨C9 (k:=n+1) (by ac_nf) F39 B CBo ih,b39,k39,g39⟩
 have CWh:cq l.prog w K mg base 50 "_law_whole_trees" f40 _ ["pattern", "text"] um:=⟨(C7 (k:=41) (by decide) F40 B (CTr 40)).mono (by decide),b40,k40,g40⟩
 have CPx:cq l.prog w K mg base 20 "_law_pattern" f35 _ ["pool", "letters", "deep", "room", "blank"] (mY 5):=⟨(CPa 5).ok.mono (by decide),b35,k35,g35⟩
 have CTy:cq l.prog w K mg base 20 "_law_text" f37 _ ["pool", "pattern", "letters", "most"] uo:=⟨CTx.ok.mono (by decide),b37,k37,g37⟩
 have CSc:cq l.prog w K mg base 50 "_law_scene" f41 _ ["cell", "most"] uq:=⟨(Dc (k:=20) (by decide) F41 B C28 CN CL CPx CTy).mono (by decide),b41,k41,g41⟩
 have CTl:cq l.prog w K mg base 16 "_law_told" f42 _ ["pattern", "one", "due"] (xB 5):=⟨FD F42 B CNu,b42,k42,g42⟩
 exact Jp (k:=50) (by decide) F43 B CSc CWh CNB CTl
theorem Nc{K:PySem.W.Frag}{H:Hp}{a:Addr}{xs:List V}(h:SqL K H a xs)(o:Hm H):FzL K H a xs:=by
 rcases h with(h|⟨ob,h⟩)|h
 ·rcases o a with e|⟨ob,ys,e⟩<;>(rw[e]at h;cases h)
 ·exact .inl ⟨ob,h⟩
 ·exact .inr h
theorem walk{l:PySem.W.OpenLaw}{q:aK}{loose:List Str}{XP:(Str->Option ae)->Heap->Prop}{YP:aX->Heap->Prop}{d:DefRec}{K:Params->PySem.W.Frag}(hn:l.most=some 63)(hdf:d.params.defaults=[])
  (hY:∀(w:aX) (h:Heap),YP w h->(K w.params).In h)
  (F:∀(w:aX) (mg:Str->Option ae) (fa:Addr) (h:Heap),(K w.params).In h->h.Ns cf mg->mg d.name=some (.ref fa)->
   ∃fd:a8,(∀(s:al) (u:ae),BindsTo s fd ⟨[u],[]⟩ [("script",u)])/\∀base:Heap,(K w.params).In base->base.Ns cf mg->FnOk l.prog w (K w.params) mg base Hn 51 fa fd ["script"] (Hv (K w.params) yY)):
  PySem.W.WalkO q loose XP YP l.row.toRowW d [] (λf vs=>PySem.call f vs):=
 L2.walk_of (n:=63) (k:=51) (x:= "script") (CX:=λ_=>Hn) (sp:=λw=>Hv (K w.params) yY) hn (by decide) hdf ⟨rfl,by decide,by decide⟩ hY F
  (λ_ H a ns hl ho hS=>⟨[.ro (ns.map PV.int)],λ_=>none,λp _=>p= .bl true,.cons ⟨a,_,rfl,Nc hS ho,zN ns⟩ .nil,λ_ _ z=>(nomatch z),⟨ns,rfl,hl,λ_=>rfl⟩,λp G v H' e d _ _=>by subst e;exact d⟩) λ_ _ _ _ _ z=>z
end T18
open PySem PySem.W PyProof.Rows
set_option maxRecDepth 100000 in
theorem PySem.Challenge.cw_tastegrove_k18_numbers_of_trees_holds : PySem.Challenge.rw_tastegrove_k18_numbers_of_trees.Holds := by
 refine T18.tp ⟨⟨T18.h1,T18.h2⟩,?_⟩
 k_fill
 refine T18.walk (l:=PySem.Challenge.rw_tastegrove_k18_numbers_of_trees) rfl rfl (fun w h Y=>PySem.W.kIn_of Y) ?F
 case F=>
  intro w mg fa h KX G hmg
  refine' T18.all_mk (f1:=35) (f2:=42) (f3:=47) (f4:=54) (f5:=66) (f6:=87) (f7:=94) (f8:=101) (f9:=108) (f10:=73) (f11:=162) (f12:=169) (f13:=190) (f14:=197) (f15:=202) (f16:=209) (f17:=216) (f18:=221) (f19:=226) (f20:=233) (f21:=28) (f22:=122) (f23:=129) (f24:=134) (f25:=141) (f26:=148) (f27:=247) (f28:=254) (f29:=261) (f30:=268) (f31:=273) (f32:=278) (f33:=285) (f34:=292) (f35:=299) (f36:=304) (f37:=311) (f38:=316) (f39:=321) (f40:=326) (f41:=333) (f42:=340) (f43:=347) (cC:=111) (cB:=172) (cD:=236) KX G hmg ?u1 ?u2 ?u3 ?u4 ?u5 ?u6 ?u7 ?u8 ?u9 ?u10 ?u11 ?u12 ?u13 ?u14 ?u15 ?u16 ?u17 ?u18 ?u19 ?u20 ?u21 ?u22 ?u23 ?u24 ?u25 ?u26 ?u27 ?u28 ?u29 ?u30 ?u31 ?u32 ?u33 ?u34 ?u35 ?u36 ?u37 ?u38 ?u39 ?u40 ?u41 ?u42 ?u43 ?m0 ?m1 ?m2 ?m3 ?m4 ?zc ?zcB ?zcD ?zb
  (case m0=>k_is)
  (case m1=>k_is)
  (case m2=>k_is)
  (case m3=>k_is)
  (case m4=>k_is)
  case u1=>as_aux_lemma=>exact⟨by k_is,_,_,_,_,_,_,_,_,_,by k_is,by k_is,by k_is⟩
  case u2=>as_aux_lemma=>exact⟨by k_is,_,_,_,_,_,_,_,_,_,by k_is,by k_is,by k_is⟩
  case u3=>as_aux_lemma=>exact⟨by k_is,_,_,_,_,_,_,_,_,_,by k_is,by k_is,by k_is⟩
  case u4=>as_aux_lemma=>exact⟨by k_is,_,_,_,_,_,_,_,_,_,by k_is,by k_is,by k_is⟩
  case u5=>as_aux_lemma=>exact⟨by k_is,_,_,_,_,_,_,_,_,_,by k_is,by k_is,by k_is⟩
  case u6=>as_aux_lemma=>exact⟨by k_is,_,_,_,_,_,_,_,_,_,by k_is,by k_is,by k_is⟩
  case u7=>as_aux_lemma=>exact⟨by k_is,_,_,_,_,_,_,_,_,_,by k_is,by k_is,by k_is⟩
  case u8=>as_aux_lemma=>exact⟨by k_is,_,_,_,_,_,_,_,_,_,by k_is,by k_is,by k_is⟩
  case u9=>as_aux_lemma=>exact⟨by k_is,_,_,_,_,_,_,_,_,_,by k_is,by k_is,by k_is⟩
  case u10=>as_aux_lemma=>exact⟨by k_is,_,_,_,_,_,_,_,_,_,by k_is,by k_is,by k_is⟩
  case u11=>as_aux_lemma=>exact⟨by k_is,_,_,_,_,_,_,_,_,_,by k_is,by k_is,by k_is⟩
  case u12=>as_aux_lemma=>exact⟨by k_is,_,_,_,_,_,_,_,_,_,by k_is,by k_is,by k_is⟩
  case u13=>as_aux_lemma=>exact⟨by k_is,_,_,_,_,_,_,_,_,_,by k_is,by k_is,by k_is⟩
  case u14=>as_aux_lemma=>exact⟨by k_is,_,_,_,_,_,_,_,_,_,by k_is,by k_is,by k_is⟩
  case u15=>as_aux_lemma=>exact⟨by k_is,_,_,_,_,_,_,_,_,_,by k_is,by k_is,by k_is⟩
  case u16=>as_aux_lemma=>exact⟨by k_is,_,_,_,_,_,_,_,_,_,by k_is,by k_is,by k_is⟩
  case u17=>as_aux_lemma=>exact⟨by k_is,_,_,_,_,_,_,_,_,_,by k_is,by k_is,by k_is⟩
  case u18=>as_aux_lemma=>exact⟨by k_is,_,_,_,_,_,_,_,_,_,by k_is,by k_is,by k_is⟩
  case u19=>as_aux_lemma=>exact⟨by k_is,_,_,_,_,_,_,_,_,_,by k_is,by k_is,by k_is⟩
  case u20=>as_aux_lemma=>exact⟨by k_is,_,_,_,_,_,_,_,_,_,by k_is,by k_is,by k_is⟩
  case u21=>as_aux_lemma=>exact⟨by k_is,_,_,_,_,_,_,_,_,_,by k_is,by k_is,by k_is⟩
  case u22=>as_aux_lemma=>exact⟨by k_is,_,_,_,_,_,_,_,_,_,by k_is,by k_is,by k_is⟩
  case u23=>as_aux_lemma=>exact⟨by k_is,_,_,_,_,_,_,_,_,_,by k_is,by k_is,by k_is⟩
  case u24=>as_aux_lemma=>exact⟨by k_is,_,_,_,_,_,_,_,_,_,by k_is,by k_is,by k_is⟩
  case u25=>as_aux_lemma=>exact⟨by k_is,_,_,_,_,_,_,_,_,_,by k_is,by k_is,by k_is⟩
  case u26=>as_aux_lemma=>exact⟨by k_is,_,_,_,_,_,_,_,_,_,by k_is,by k_is,by k_is⟩
  case u27=>as_aux_lemma=>exact⟨by k_is,_,_,_,_,_,_,_,_,_,by k_is,by k_is,by k_is⟩
  case u28=>as_aux_lemma=>exact⟨by k_is,_,_,_,_,_,_,_,_,_,by k_is,by k_is,by k_is⟩
  case u29=>as_aux_lemma=>exact⟨by k_is,_,_,_,_,_,_,_,_,_,by k_is,by k_is,by k_is⟩
  case u30=>as_aux_lemma=>exact⟨by k_is,_,_,_,_,_,_,_,_,_,by k_is,by k_is,by k_is⟩
  case u31=>as_aux_lemma=>exact⟨by k_is,_,_,_,_,_,_,_,_,_,by k_is,by k_is,by k_is⟩
  case u32=>as_aux_lemma=>exact⟨by k_is,_,_,_,_,_,_,_,_,_,by k_is,by k_is,by k_is⟩
  case u33=>as_aux_lemma=>exact⟨by k_is,_,_,_,_,_,_,_,_,_,by k_is,by k_is,by k_is⟩
  case u34=>as_aux_lemma=>exact⟨by k_is,_,_,_,_,_,_,_,_,_,by k_is,by k_is,by k_is⟩
  case u35=>as_aux_lemma=>exact⟨by k_is,_,_,_,_,_,_,_,_,_,by k_is,by k_is,by k_is⟩
  case u36=>as_aux_lemma=>exact⟨by k_is,_,_,_,_,_,_,_,_,_,by k_is,by k_is,by k_is⟩
  case u37=>as_aux_lemma=>exact⟨by k_is,_,_,_,_,_,_,_,_,_,by k_is,by k_is,by k_is⟩
  case u38=>as_aux_lemma=>exact⟨by k_is,_,_,_,_,_,_,_,_,_,by k_is,by k_is,by k_is⟩
  case u39=>as_aux_lemma=>exact⟨by k_is,_,_,_,_,_,_,_,_,_,by k_is,by k_is,by k_is⟩
  case u40=>as_aux_lemma=>exact⟨by k_is,_,_,_,_,_,_,_,_,_,by k_is,by k_is,by k_is⟩
  case u41=>as_aux_lemma=>exact⟨by k_is,_,_,_,_,_,_,_,_,_,by k_is,by k_is,by k_is⟩
  case u42=>as_aux_lemma=>exact⟨by k_is,_,_,_,_,_,_,_,_,_,by k_is,by k_is,by k_is⟩
  case u43=>as_aux_lemma=>exact⟨by k_is,_,_,_,_,_,_,_,_,_,by k_is,by k_is,by k_is⟩
  (case zc=>as_aux_lemma=>kernel_rfl)
  (case zcB=>as_aux_lemma=>kernel_rfl)
  (case zcD=>as_aux_lemma=>kernel_rfl)
  (case zb=>as_aux_lemma=>kernel_rfl)
