import PyProof.Rows.All
import Wide.All
import OpenK.KLine
import OpenK.KOwn
import OpenK.KMore
import OpenK.KMake
import OpenK.KList
import OpenK.KFacts
import OpenK.KDescr
import OpenK.KGet
import OpenK.KCall
import OpenK.KCls
import OpenK.Peek
import OpenK.Lit
import KE.KIsAll
import KE.KItem
import Wide.FinOn
import Lean
import PyProof.EqAt
import PyProof.EqKinds
import PyProof.NeKinds
import PyProof.TupleCall
import PyProof.CollectStr
import PyProof.FactsAll.tuple
import PyProof.Draws
import PyProof.EnumMake
import PyProof.ListTruth
import PyProof.RaisesMany
import PyProof.Rows.SetFrom
import PyProof.StrLawsIn
import PyProof.TupleIter
import PyProof.Rows.SortRunsK
import PyProof.Rows.DictTally
import KE.KIntText
import PySem.Challenge.RW_tastegrove_k89_whole_spoilt_texts
set_option Elab.async false
set_option linter.all false
set_option maxRecDepth 100000
set_option maxHeartbeats 0
set_option compiler.extract_closed false
set_option genSizeOf false
namespace PySem.W.Fast
def tw1794371705220926483:Program:=PySem.Challenge.pw_tastegrove_k89_whole_spoilt_texts
theorem te1794371705220926483:PySem.Challenge.pw_tastegrove_k89_whole_spoilt_texts=tw1794371705220926483:=rfl
end PySem.W.Fast
namespace T89
open PySem
def top(i:Nat):Stmt:=PySem.Challenge.pw_tastegrove_k89_whole_spoilt_texts.main.body.getD i (.Pass ⟨0,0,0,0⟩)
abbrev pw:Program:=PySem.Challenge.pw_tastegrove_k89_whole_spoilt_texts
def vw:Program:={pw with main:={pw.main with body:=[top 1,top 2,top 4,top 5,top 6,top 7,top 8,top 9,top 11,top 12,top 13,top 14,top 15,top 16,top 17,top 18,top 19,top 20,top 21,top 22,top 23,top 24,top 26,top 27,top 28,top 29,top 30,top 31,top 32,top 34,top 35,top 36,top 37,top 38,top 39,top 40,top 41,top 42,top 43,top 44,top 45,top 46,top 47,top 48,top 49,top 50,top 51,top 52,top 53,top 54,top 55]}}
theorem two_all{W α β γ:Type}{o:W→Option α}{f:W→α→β}{g:W→α→γ}{a:W→β}{b:W→γ}(h1:∀w,(o w).map (f w)=some (a w))(h2:∀w,(o w).map (g w)=some (b w)):∀w,(o w).map (fun x=>(f w x,g w x))=some (a w,b w):=fun w=>by
 have h1:=h1 w;have h2:=h2 w;cases h:o w with
 |none=>rw[h]at h1;cases h1
 |some x=>
  rw[h]at h1 h2
  simp only[Option.map_some,Option.some.injEq]at h1 h2⊢
  rw[h1,h2]
theorem in_all{W α β γ δ:Type}{o:W→Option α}{t:W→α→Option β}{f:W→β→γ}{g:W→β→δ}{a:W→γ}{b:W→δ}(h1:∀w,(o w).map (fun s=>(t w s).map (f w))=some (some (a w)))(h2:∀w,(o w).map (fun s=>(t w s).map (g w))=some (some (b w))):∀w,(o w).map (fun s=>(t w s).map fun x=>(f w x,g w x))=some (some (a w,b w)):=fun w=>by
 have h1:=h1 w;have h2:=h2 w;cases h:o w with
 |none=>rw[h]at h1;cases h1
 |some x=>
  rw[h]at h1 h2
  simp only[Option.map_some,Option.some.injEq]at h1 h2⊢
  cases h3:t w x with
  |none=>rw[h3]at h1;cases h1
  |some y=>
   rw[h3]at h1 h2
   simp only[Option.map_some,Option.some.injEq]at h1 h2⊢
   rw[h1,h2]
theorem helper{A B C:Prop}(f:A→B→C)(hw:A)(call:B):C:=f hw call
def q1{A B C D W V:Prop}(_:((A∧B)∧(C∧D))∧W→V):Prop:=A
def q2{A B C D W V:Prop}(_:((A∧B)∧(C∧D))∧W→V):Prop:=B
def q3{A B C D W V:Prop}(_:((A∧B)∧(C∧D))∧W→V):Prop:=C
def q4{A B C D W V:Prop}(_:((A∧B)∧(C∧D))∧W→V):Prop:=D
end T89
open PySem PySem.W PyProof.Rows in
local macro_rules | `(tactic| o_head $H) => `(tactic| (apply T89.helper (fun hw hc => holds_open (q := T89.vw) (loose := [PySem.Str.ofString "LENGTHS"]) (Xt := fun s => xlAt T89.vw [] s && recOk (RowW.records (OpenRow.toRowW (OpenLaw.row PySem.Challenge.rw_tastegrove_k89_whole_spoilt_texts))) s) (XP := XL T89.vw []) (Yf := Hook.obs $H) (Ya := Hook.val $H) (YP := Hook.says $H) (N := 4554) (LeftO.of_split "special-get-raises" (T89.two_all (T89.in_all (And.left (And.left (And.left hc))) (And.right (And.left (And.left hc)))) (T89.in_all (And.left (And.right (And.left hc))) (And.right (And.right (And.left hc)))))) (Hook.of $H) (Hook.keeps $H) (fun s e => xl_of s (Bool.and_eq_true_iff.mp e).1) XL.keeps (by rfl) (by rfl) (by rfl) (fun s e => recFacts_of (Bool.and_eq_true_iff.mp e).2) (by rfl) (by first | assumption | decide +kernel) (by decide +kernel) ⟨rfl, rfl, rfl, rfl, rfl, by decide +kernel⟩ hw (And.right hc))))
open PySem PySem.W PyProof.Rows in
open_top T89.tp for PySem.Challenge.rw_tastegrove_k89_whole_spoilt_texts
theorem T89.h1:T89.q1 @T89.tp:=by
 unfold T89.q1;intro w;kernel_rfl
theorem T89.h2:T89.q2 @T89.tp:=by
 unfold T89.q2;intro w;kernel_rfl
theorem T89.h3:T89.q3 @T89.tp:=by
 unfold T89.q3;intro w;kernel_rfl
theorem T89.h4:T89.q4 @T89.tp:=by
 unfold T89.q4;intro w;kernel_rfl
noncomputable section
theorem Qb(h:True:=by rfl):True:=trivial
def Qa:Lean.Syntax:=Qb._auto_1
theorem Qd(h:True:=by decide):True:=trivial
def Qc:Lean.Syntax:=Qd._auto_1
theorem Qf(h:∀_:Nat,1=1:=by intro _;rfl):True:=trivial
def Qe:Lean.Syntax:=Qf._auto_1
theorem Qh(h:True∨True:=by first|exact .inl rfl|exact .inr rfl|assumption):True:=trivial
def Qg:Lean.Syntax:=Qh._auto_1
theorem Qj(h:True:=by with_unfolding_all rfl):True:=trivial
def Qi:Lean.Syntax:=Qj._auto_1
theorem Ql(h:True∨True:=by first|exact Or.inl rfl|exact Or.inr rfl):True:=trivial
def Qk:Lean.Syntax:=Ql._auto_1
theorem Qn(h:True∨True:=by first|exact .inl rfl|exact .inr rfl):True:=trivial
def Qm:Lean.Syntax:=Qn._auto_1
theorem Qp(h:True∨True:=by decide+kernel):True:=trivial
def Qo:Lean.Syntax:=Qp._auto_1
open PySem renaming wpAny_bind → aa, Value → ae, Shared → ag, wpAny_pure → ah, starEach → ao, Program → aG, model → aK, World → aX, sizeLine → ba, FuncData → bb, wpAny_mono → bh, mainGlobals → bn, SetTable → bw, compareOp → bD, wpAny_newObj_type → bI, bootBuiltins → bN, backTo → bZ, wpAny_holding → b6, wpAny_ite_false → cq, wpAny_call_entry → cr, wpAny_callSpecial?_slot → cu, wpAny_field → cT, attributeBase → cU, binaryOp → dC, wpAny_Call_Name_kw → dH, wpAny_truthy_bool → dU, behindInMarks → eG, keywordEach → eI, foldedSetIterable → eN, wpAny_rule → eP, NameKind → eW, pickOrder → fD, lookup_relabel_local → fH, wpAny_attempt → fL, IsPair → fN, wpAny_setField → fZ, wpAny_seqItems → gc, Scope → gu, wpAny_passesOwn → gJ, codeAny_builtin → gM, wpAny_setState_of → gS, Keyword → gZ, backToKw → im, wpAny_askSetting → iq, swapsWith → ir, wpAny_setEntries_of → iD, wpAny_loadPart' → iQ, wpAny_execs_nil → iR, wpAny_setField_rec → iZ, sizeLine_eq → i6, wpAny_newTuple → jf, codeAny_mono → jl, rawInt → jD, sliceBounds → jO, letOwnedTupleGo → j8, wpAny_typeOf → kj, scanBound → kN, relayAll → kR, assignEach → kW, fits_of_scanBound → lY, wpAny_comprehension_free → me, wpAny_nextOf_ascii_item → mH, wpAny_isInstance → mI, lastMarks → mT, getMethod → mZ, wpAny_call → nD, codeAny_compStart_list → ot, call_meets → ou, wpAny_updateSeq_pair → pG, wpAny_of_eq → pH, wpAny_newFunctionEnv → pI, wpAny_fieldsOf → pJ, codeAny_call_builtin → pM, wpAny_onRaise → rX, wpAny_newList → rY, plainId_quiet → rZ, wpAny_sequenceKey → tU, wpAny_pyIter_list → tV, wpAny_loadPart_at → tW, slot_list_getitem → ue, wpAny_getItem_list_slice → Be
open List renaming length_append → af, length_cons → aj, getElem?_eq_some_iff → ak, size_toArray → aq, mem_singleton → ar, getElem?_eq_getElem → au, length_map → av, mem_cons → aw, mem_append → aH, append_assoc → aI, length_take → aO, map_cons → aU, length_drop → aW, mem_append_right → a8, map_append → a9, pairwise_iff_getElem → bd, take_append_drop → bg, length_nil → bo, getElem?_map → br, not_mem_nil → bu, all_eq_true → bv, replicate → bz, mem_map → bA, map_map → bB, mem_cons_of_mem → bC, mem_iff_getElem → bK, range → bQ, getElem?_append_right → cn, mem_of_getElem? → cy, take_of_length_le → cE, take_add_one → cK, flatten_cons → cL, pairwise_append → cP, replicate_succ → cW, length → cX, eq_nil_of_length_eq_zero → cY, append_nil → dz, mem_cons_self → dB, getElem?_set_ne → dD, filterMap_cons → dO, nodup_cons → dR, nil_append → dS, getElem?_append_left → dW, take_length → dZ, takeWhile_cons → eJ, getElem?_set_self → eO, cons_append → eS, pairwise_cons → e7, drop_eq_getElem_cons → fj, length_reverse → fI, lookup_cons → fJ, length_eq_zero_iff → fK, map_nil → fW, getElem?_eq_none → gw, mem_append_left → gP, extract_eq_drop_take → ii, all_cons → ip, reverse_cons → iW, mem_range → iX, length_range → iY, mem_iff_getElem? → i9, sum_cons → jm, lookup → jq, getElem?_range → jF, mem_filterMap → jY, getElem?_take → jZ, getElem_drop → kK, any_cons → kQ, getElem_mem → lc, foldl_cons → mj, pairwise_reverse → mG, take_left → nu, mem_of_mem_take → nv, mem_of_mem_drop → nw, reverse_append → oA, length_flatten → oB, getElem?_drop → pE, getElem_take → qf, ext_getElem? → qh, prefix_iff_eq_take → xX, getElem?_replicate → xY, map_eq_append_iff → zD, filter_eq_self → EB
open PySem.Heap renaming get?_push_of_some → ai, lt_size → aA, get?_push_size → aF, get?_update_other → bW, size_push → cb, SameBut → cM, get?_update_self → de, get?_none_of_le → ny
open PySem.Str renaming ofString → al, join → lJ, length → mi
open Nat renaming le_refl → ap, ne_of_lt → aN, lt_of_lt_of_le → aT, le_trans → bj, le_of_ble_eq_true → bP, lt_succ_of_lt → cc, zero_le → c8, lt_succ_self → dG, lt_irrefl → dJ, le_succ → eR, ne_of_gt → ie, lt_or_ge → ig, le_of_lt → i5, add_assoc → kX, lt_of_le_of_lt → pO, lt_trichotomy → rW, add_sub_cancel_left → zB
open Bool renaming and_eq_true → aB, false_and → bH, false_ne_true → bR, eq_iff_iff → cR, true_and → dj, and_false → e8, false_eq_true → fX, and_eq_true_iff → AZ
open PyProof.Rows renaming wpS_bind → aD, wpS_pure → aL, KeyKind → aP, arrOf → aQ, Keyed → bf, slot_tuple_getitem → bx, SortSt → b7, pendingOf → cN, wpS_forRange → cO, seqObj → ef, callWith_type1 → fM, pairsOf → fS, wpS_mono → fY, oneType' → gL, wpS_modify → il, failedOf → iL, StrsAre → l7, AllBare → l9, callWith_builtin1 → nt, KK_mirror_equal → oE, entry_tuple_getitem → rA, listUpdate_at → r6, args_tuple_getitem → sv
open Array renaming length_toList → aE, getElem?_toList → aZ, getElem?_eq_getElem → bG, toList_append → dM, getElem?_eq_some_iff → eY, perm_iff_toList_perm → gO, toList_push → iP, toList_extract → jn, all_eq_true' → o9, size_append → pQ, toList_setIfInBounds → uR
open PySem.Value renaming ref → aM, type → bE, none → bF, int → cZ, str → fh, bool → fB, isStrOf → jc, isStrOf_shape → jC, isInt_shape → kg, builtin → kI
open PyProof.Rows.KeyOrd renaming kle_of_klt → aR, kle_trans → aS, kle_refl → bY, kle_antisymm → kJ
open Ne renaming symm → aY
open PySem.Builtin.Str renaming occurrences → bq
open Option.some renaming inj → bt, injEq → wv
open PySem.Txt renaming slice → bO, join → gs
open False renaming elim → bV
open PySem.SetTable renaming below → cj, grown → fC
open PySem.Builtin.Slice renaming slicePlaces → ck, sliceAdjust → eM, sliceApplied → fR, sliceFields → pF
open PySem.Builtin.Tuple renaming tupleExact → cw, tupleItemsOf → ja, tupleIsExact → o7
open PySem.Obj renaming mapSeq → cI, data_mapFields → iF, isFreed_of_fields → je, mapFields → jp, putSet → ke
open Int renaming toNat_natCast → dP, emod_lt_of_pos → iG, emod_nonneg → jG, eq_ofNat_of_zero_le → zE
open PySem.Builtin.List renaming listTooLong → dQ, listExtendWith → o8, listSameRef → ql
open ForInStep renaming yield → er
open PySem.Data renaming fields → eu, seq → fz
open PySem.Builtin.SmallTypes renaming nextOf → fO
open True renaming intro → fV
open PyProof.Rows.F renaming plain_set_update_loop → gh, entry_set_update_loop → kP
open PySem.Heap.SameBut renaming update → gA
open PySem.Around renaming under_plainId → gI
open PySem.SetTable.below renaming go → gW
open PySem.Calls renaming Name_function_global → jV, spliced_nil → ki, spliced_cons → o5, call_function_entry → uV, loadGlobal_global → ww
open PySem.StrLaws renaming found_one → jW
open PySem.NameKind renaming free → jX
open Prod.mk renaming injEq → kc
open Option renaming some → kd, isSome_iff_exists → kh
open Array.Perm renaming refl → kM
open List.Perm renaming append_left → kZ
open PySem.Heap.IsSliceOf renaming new → lf
open PySem.SetTable.probe renaming go → l8
open PySem.SeqAt.EqAt renaming str_int → mE, int_str → mF
open PySem.F renaming slot_zip_next → nz
open PySem.Builtin.Range renaming rangeSize → qk
local macro_rules | `(tactic| ac_nf) => `(tactic| first | lia | omega)
namespace L2
open PySem PySem.Spec PyProof.Rows
abbrev qi:=Sum Int Str
def pr:qi->ae->Bool
 | .inl k,v=>ae.isInt k v
 | .inr x,v=>jc x v
def Po(w:aX):qi->Int
 | .inl k=>hashInt k
 | .inr x=>hashStr w x
theorem fg:∀{k:qi} {v:ae},pr k v=true->(∃i t,k=Sum.inl i/\v=cZ i t)\/(∃x t,k=Sum.inr x/\v=fh x t)
 | .inl i,v,h=>by
  obtain⟨t,e⟩:=kg (k:=i) (v:=v) h;exact .inl ⟨i,t,rfl,e⟩
 | .inr x,v,h=>by
  obtain⟨t,e⟩:=jC (x:=x) (v:=v) h;exact .inr ⟨x,t,rfl,e⟩
theorem Kf(a b:Int):decide ((Sum.inl a:qi)=Sum.inl b)=(a==b):=by
 by_cases e:a=b
 ·subst e;simp
 ·have h:¬(Sum.inl a:qi)=Sum.inl b:=λq=>e (Sum.inl.inj q);rw[decide_eq_false h];exact(beq_eq_false_iff_ne.mpr e).symm
theorem Kc(a b:Str):decide ((Sum.inr a:qi)=Sum.inr b)=decide (a=b):=by
 by_cases e:a=b
 ·subst e;simp
 ·have h:¬(Sum.inr a:qi)=Sum.inr b:=λq=>e (Sum.inr.inj q);rw[decide_eq_false h,decide_eq_false e]
theorem Ke(a:Int)(b:Str):decide ((Sum.inl a:qi)=Sum.inr b)=false:=decide_eq_false (λq=>nomatch q)
theorem Kd(a:Str)(b:Int):decide ((Sum.inr a:qi)=Sum.inl b)=false:=decide_eq_false (λq=>nomatch q)
def ku(prog:aG)(w:aX):PySem.KeyKind prog w qi where
 is:=pr
 hash:=Po w
 inj:=λv a b ha hb=>by
  rcases fg ha with⟨i,t,rfl,rfl⟩|⟨x,t,rfl,rfl⟩
  ·rcases fg hb with⟨j,u,rfl,e⟩|⟨y,u,rfl,e⟩
   ·injection e with e1 _;rw[e1]
   ·exact nomatch e
  ·rcases fg hb with⟨j,u,rfl,e⟩|⟨y,u,rfl,e⟩
   ·exact nomatch e
   ·injection e with e1 _;rw[e1]
 byValue:=λk v h=>by
  rcases fg h with⟨i,t,rfl,rfl⟩|⟨x,t,rfl,rfl⟩<;>rfl
 pyHash:=λhv h=>by
  rcases fg hv with⟨i,t,rfl,rfl⟩|⟨x,t,rfl,rfl⟩
  ·exact wpAny_pyHash_int h
  ·exact wpAny_pyHash_str h
 eqBool:=λhu hv h=>by
  rcases fg hu with⟨i,t,rfl,rfl⟩|⟨x,t,rfl,rfl⟩
  ·rcases fg hv with⟨j,u,rfl,rfl⟩|⟨y,u,rfl,rfl⟩
   ·rw[Kf]at h;exact wpAny_eqBool_int h
   ·rw[Ke]at h;exact mF i t y u _ _ _ _ h
  ·rcases fg hv with⟨j,u,rfl,rfl⟩|⟨y,u,rfl,rfl⟩
   ·rw[Kd]at h;exact mE x t j u _ _ _ _ h
   ·rw[Kc]at h;exact wpAny_eqBool_str h
 «strs»:=λk x t v h=>by
  rcases fg h with⟨i,u,rfl,e⟩|⟨y,u,rfl,e⟩
  ·exact nomatch e
  ·injection e with e1 _
   subst e1;cases v<;>rfl
inductive V where
 |non|bl (b:Bool)|int (i:Int)|str (x:Str)|byt (b:Array UInt8)|flt (b:UInt64)|ref (a:Addr)|ty (n:String)
 deriving DecidableEq
def RelV:V->ae->Prop
 | .non,u=>u=bF
 | .bl b,u=>u=fB b
 | .int i,u=>∃t,u=cZ i t
 | .str x,u=>∃t,u=fh x t
 | .byt b,u=>∃t,u=ae.bytes b t
 | .flt b,u=>∃t,u=ae.float b t
 | .ref a,u=>u=aM a
 | .ty n,u=>u=bE n
abbrev Vals:List V->List ae->Prop:=Paired RelV
theorem Vals.length{xs:List V}{us:List ae}(r:Vals xs us):xs.length=us.length:=Paired.length r
theorem Vals.get:∀{xs:List V} {us:List ae} {i:Nat} {x:V},Vals xs us->xs[i]? =some x->∃u,us[i]? =some u/\RelV x u
 |_,_,_,_,.nil,e=>by simp at e
 |_,_,0,_,.cons r _,e=>by simp at e;subst e;exact⟨_,rfl,r⟩
 |_,_,i+1,x,.cons _ t,e=>by
  obtain⟨u,h1,h2⟩:=Vals.get (i:=i) (x:=x) t (by simpa using e);exact⟨u,by simpa using h1,h2⟩
theorem Vals.set{x:V}{u:ae}(r:RelV x u):∀{xs:List V} {us:List ae} (i:Nat),Vals xs us->Vals (xs.set i x) (us.set i u)
 |_,_,_,.nil=> .nil
 |_,_,0,.cons _ t=> .cons r t
 |_,_,i+1,.cons q t=> .cons q (Vals.set r i t)
theorem Vals.append:∀{xs ys:List V} {us ws:List ae},Vals xs us->Vals ys ws->Vals (xs++ys) (us++ws)
 |_,_,_,_,.nil,s=>s
 |_,_,_,_,.cons r t,s=> .cons r (Vals.append t s)
theorem Vals.take:∀{xs:List V} {us:List ae} (n:Nat),Vals xs us->Vals (xs.take n) (us.take n)
 |_,_,0,_=> .nil
 |_,_,_+1,.nil=> .nil
 |_,_,n+1,.cons r t=> .cons r (Vals.take n t)
theorem Vals.drop:∀{xs:List V} {us:List ae} (n:Nat),Vals xs us->Vals (xs.drop n) (us.drop n)
 |_,_,0,r=>r
 |_,_,_+1,.nil=> .nil
 |_,_,n+1,.cons _ t=>Vals.drop n t
def RelO:Option V->Option ae->Prop
 |some v,some u=>RelV v u
 |none,none=>True
 |_,_=>False
def KV{κ:Type}:List (κ×V)->List (κ×ae)->Prop:=Paired fun(p:κ×V) (q:κ×ae)=>p.1=q.1/\RelV p.2 q.2
def kV:qi->V
 | .inl i=> .int i
 | .inr x=> .str x
inductive HO where
  |lst (xs:List V)
  |tup (xs:List V)
  |dK (kvs:List (qi×V))|dT (kvs:List (List qi×V))
  |set (S:Int->Bool) (n:Nat)
  |ins (C dx:Addr) (fs:List (Str×V))
  |own (x:Addr)
  |xd (fs:List (Str×V))
  |met (f x:Addr)
  |rng (lo hi:Int)
  |frz (o:Obj) (u:HO)
  |tbl (ps:Array ae)
  |ext (φ:Heap->Prop)
abbrev Hp:=Addr->Option HO
def upd(H:Hp)(a:Addr)(o:HO):Hp:=λb=>if b=a then some o else H b
theorem eA{H:Hp}{a:Addr}{o:HO}:upd H a o a=some o:=by unfold upd;rw[if_pos rfl]
theorem bJ{H:Hp}{a b:Addr}{o:HO}(h:b≠a):upd H a o b=H b:=by unfold upd;rw[if_neg h]
theorem cH{H:Hp}{a b:Addr}{o:HO}(h:H a=some o)(h':H b=none):a≠b:=by
 intro e;subst e;rw[h]at h';cases h'
section
variable(P:aG)(w:aX)
def ObjOk(H:Hp)(h:Heap)(a:Addr):HO->Prop
 | .lst xs=>xs.length<=ba/\∃(its:List ae) (n:Nat),Vals xs its/\h.get? a=some {cls:= .type "list",data:= .seq its.toArray n}
 | .tup xs=>xs.length<=ba/\∃its:List ae,Vals xs its/\IsTup h a its.toArray
 | .dK kvs=>kvs.length<=ba/\(a==sysModules)=false/\∃vs,KV kvs vs/\h.DictOf (ku P w) a vs
 | .dT kvs=>kvs.length<=ba/\(a==sysModules)=false/\∃xs:List (List qi×Addr×ae),
   Paired (fun(p:List qi×V) (q:List qi×Addr×ae)=>p.1=q.1/\H q.2.1=some (.tup (p.1.map kV))/\RelV p.2 q.2.2) kvs xs/\
   ∃o es ep,h.get? a=some o/\o.ExactDict/\o.data= .dict es ep/\es.toList=xs.map (entryOfKey (tupleKind (ku P w)))/\(xs.map (·.1)).Nodup
 | .set S n=>h.SetOf (intKind P w) a S n
 | .ins C dx fs=>H dx=some (.own a)/\fs.length<=1000/\dx≠a/\h.get? a=some (PySem.W.instObj C dx)/\
   ∃mA,h.Ns1 dx mA/\(∀f,RelO (fs.lookup f) (mA f))/\PySem.Within mA (fs.map (·.1))
 | .own _=>∃o,h.get? a=some o
 | .xd fs=>∃mA,h.Ns1 a mA/\∀f,RelO (fs.lookup f) (mA f)
 | .rng lo hi=>∃t u v,h.get? a=some {cls:= .type "range",data:= .fields #[.int lo t,.int hi u,.int 1 v]}
 | .frz o u=>h.get? a=some o/\ObjOk H h a u
 | .tbl ps=>h.get? a=some {cls:= .none,data:= .fields ps}
 | .met f x=>h.get? a=some (PySem.W.methodObj (.ref f) (.ref x))
 | .ext φ=>φ h/\(∃o,h.get? a=some o)/\∀h1 h2:Heap,φ h1->(∀o,h1.get? a=some o->h2.get? a=some o)->φ h2
def HOk(H:Hp)(h:Heap):Prop:=∀a o,H a=some o->ObjOk P w H h a o
end
section
variable{P:aG}{w:aX}{H H':Hp}{h h':Heap}{a:Addr}{o:HO}
theorem ObjOk.lt(x:ObjOk P w H h a o):a<h.objs.size:=by
 cases o with
 |lst xs=>obtain⟨_,_,_,_,e⟩:=x;exact aA e
 |tup xs=>obtain⟨_,_,_,p⟩:=x;exact p.lt
 |dK kvs=>obtain⟨_,_,_,_,o,_,_,e,_⟩:=x;exact aA e
 |dT kvs=>obtain⟨_,_,_,_,o,_,_,e,_⟩:=x;exact aA e
 |set S n=>obtain⟨o,_,_,_,e,_⟩:=x;exact aA e
 |ins C dx fs=>obtain⟨_,_,_,e,_⟩:=x;exact aA e
 |own y=>obtain⟨_,e⟩:=x;exact aA e
 |xd fs=>obtain⟨_,⟨_,_,_,e,_⟩,_⟩:=x;exact aA e
 |rng lo hi=>obtain⟨_,_,_,e⟩:=x;exact aA e
 |frz ob u=>obtain⟨e,_⟩:=x;exact aA e
 |tbl ps=>exact aA (show h.get? a=some _ from x)
 |met f y=>exact aA (show h.get? a=some _ from x)
 |ext φ=>obtain⟨_,⟨_,e⟩,_⟩:=x;exact aA e
theorem Paired.mapP{α β:Type}{F G:α->β->Prop}:∀{l₁:List α} {l₂:List β},Paired F l₁ l₂->(∀a b,F a b->G a b)->Paired G l₁ l₂
 |_,_,.nil,_=> .nil
 |_,_,.cons r t,f=> .cons (f _ _ r) (Paired.mapP t f)
theorem ObjOk.stay(x:ObjOk P w H h a o)(k:∀b u,(b=a\/H b=some (.own a))->h.get? b=some u->h'.get? b=some u)
  (ho:∀b,H b=some (.own a)->H' b=some (.own a)) (ht:∀b xs,H b=some (.tup xs)->H' b=some (.tup xs)):ObjOk P w H' h' a o:=by
 induction o with
 |lst xs=>obtain⟨z,its,n,r,e⟩:=x;exact⟨z,its,n,r,k _ _ (.inl rfl) e⟩
 |tup xs=>obtain⟨z,its,r,ob,e,c⟩:=x;exact⟨z,its,r,ob,k _ _ (.inl rfl) e,c⟩
 |dK kvs=>obtain⟨z,y,vs,r,ob,es,ep,e,c⟩:=x;exact⟨z,y,vs,r,ob,es,ep,k _ _ (.inl rfl) e,c⟩
 |dT kvs=>
  obtain⟨z,y,xs,r,ob,es,ep,e,c⟩:=x
  exact⟨z,y,xs,Paired.mapP r λp q z=>⟨z.1,ht _ _ z.2.1,z.2.2⟩,ob,es,ep,k _ _ (.inl rfl) e,c⟩
 |set S n=>obtain⟨ob,es,ep,t,e,c⟩:=x;exact⟨ob,es,ep,t,k _ _ (.inl rfl) e,c⟩
 |ins C dx fs=>
  obtain⟨d,z,ne,e,mA,⟨od,es,ep,e2,c⟩,r⟩:=x
  exact⟨ho _ d,z,ne,k _ _ (.inl rfl) e,mA,⟨od,es,ep,k _ _ (.inr d) e2,c⟩,r⟩
 |own y=>obtain⟨ob,e⟩:=x;exact⟨ob,k _ _ (.inl rfl) e⟩
 |xd fs=>obtain⟨mA,⟨od,es,ep,e,c⟩,r⟩:=x;exact⟨mA,⟨od,es,ep,k _ _ (.inl rfl) e,c⟩,r⟩
 |rng lo hi=>obtain⟨t,u,v,e⟩:=x;exact⟨t,u,v,k _ _ (.inl rfl) e⟩
 |frz ob u ih=>obtain⟨e,q⟩:=x;exact⟨k _ _ (.inl rfl) e,ih q⟩
 |tbl ps=>
  have e:h.get? a=some {cls:= .none,data:= .fields ps}:=x
  show h'.get? a=some {cls:= .none,data:= .fields ps}
  exact k a _ (.inl rfl) e
 |met f y=>
  have e:h.get? a=some (PySem.W.methodObj (.ref f) (.ref y)):=x
  show h'.get? a=some (PySem.W.methodObj (.ref f) (.ref y))
  exact k a _ (.inl rfl) e
 |ext φ=>obtain⟨p,⟨o,e⟩,st⟩:=x;exact⟨st _ _ p λo q=>k _ _ (.inl rfl) q,⟨o,k _ _ (.inl rfl) e⟩,st⟩
theorem HOk.lt(x:HOk P w H h)(e:H a=some o):a<h.objs.size:=(x a o e).lt
theorem HOk.fresh(x:HOk P w H h)(e:h.objs.size<=a):H a=none:=by
 cases q:H a with
 |none=>rfl
 |some u=>exact absurd (aT (x.lt q) e) (dJ _)
theorem HOk.kept(x:HOk P w H h)(k:∀b u,h.get? b=some u->h'.get? b=some u):HOk P w H h':=λa o e=>
 (x a o e).stay (λb u _ q=>k b u q) (λ_ q=>q) λ_ _ q=>q
theorem HOk.laid(x:HOk P w H h)(k:∀b u,h.get? b=some u->h'.get? b=some u)(hp:h.objs.size<=a)(new:ObjOk P w (upd H a o) h' a o):HOk P w (upd H a o) h':=λb u e=>by
 have hn:=x.fresh hp;by_cases hb:b=a
 ·subst hb;rw[eA]at e;cases e;exact new
 ·rw[bJ hb]at e;exact(x b u e).stay (λc v _ q=>k c v q) (λc q=>by rw[bJ (cH q hn)];exact q) λc xs q=>by rw[bJ (cH q hn)];exact q
end
def Rd(H:Hp)(a:Addr)(u:HO):Prop:=H a=some u\/∃o,H a=some (.frz o u)
theorem Rd.ok{P:aG}{w:aX}{H:Hp}{h:Heap}{a:Addr}{u:HO}(r:Rd H a u)(x:HOk P w H h):ObjOk P w H h a u:=by
 rcases r with r|⟨o,r⟩
 ·exact x a u r
 ·obtain⟨_,q⟩:=x a _ r;exact q
def OE:Option HO->Prop
 |some (.lst _)=>True
 |some (.dK _)=>True
 |some (.dT _)=>True
 |some (.set _ _)=>True
 |some (.ins _ _ _)=>True
 |some (.ext _)=>True
 |_=>False
section
variable{P:aG}{w:aX}{H:Hp}{h h':Heap}{x e:Addr}{o':HO}
theorem HOk.write(ok:HOk P w H h)(mu:OE (H x))(he:e=x\/H e=some (.own x))(k:∀b u,b≠e->h.get? b=some u->h'.get? b=some u)(heo:∃u,h'.get? e=some u)
  (new:ObjOk P w (upd H x o') h' x o'):HOk P w (upd H x o') h':=λb u q=>by
 have nown:∀c y,H c=some (.own y)->c≠x:=λc y r z=>by subst z;rw[r]at mu;exact mu
 have ntup:∀c xs,H c=some (.tup xs)->c≠x:=λc xs r z=>by subst z;rw[r]at mu;exact mu
 by_cases hb:b=x
 ·subst hb;rw[eA]at q;cases q;exact new
 ·rw[bJ hb]at q;by_cases hbe:b=e
  ·have q':H b=some (.own x):=by
    rcases he with z|z
    ·exact absurd (hbe.trans z) hb
    ·rw[hbe];exact z
   rw[q]at q';cases q'
   obtain⟨v,hv⟩:=heo
   exact⟨v,by rw[hbe];exact hv⟩
  ·refine(ok b u q).stay (λc v hc r=>k c v ?_ r) (λc r=>by rw[bJ (nown c b r)];exact r) λc xs r=>by rw[bJ (ntup c xs r)];exact r
   rcases hc with rfl|hc
   ·exact hbe
   ·rintro rfl;rcases he with z|z
    ·exact nown c b hc z
    ·rw[hc]at z;cases z;exact hb rfl
end
structure Un(fs ex:List Addr)(H H':Hp)(h h':Heap):Prop where
 keep:∀b o,h.get? b=some o->H b=none->b∉fs->b∉ex->h'.get? b=some o
 slot:∀b o,h.get? b=some o->H b=none->b∈fs->b∉ex->∃sl,h'.get? b=some {o with slots:=sl}
 free:∀b o,h.get? b=some o->H b=none->b∉ex->H' b=none
 there:∀b o,h.get? b=some o->b∉ex->∃o',h'.get? b=some o'
 tups:∀b xs,H b=some (.tup xs)->H' b=some (.tup xs)
 frzs:∀b o u,H b=some (.frz o u)->H' b=some (.frz o u)
 tbls:∀b ps,H b=some (.tbl ps)->∃more,H' b=some (.tbl (ps++more))
section
variable{fs ex:List Addr}{H H1:Hp}{h h1 h':Heap}{a x e:Addr}{o:HO}
theorem Un.any(u:Un fs ex H H1 h h1){b:Addr}{ob:Obj}(q:h.get? b=some ob)(n:H b=none)(hx:b∉ex):∃sl,h1.get? b=some {ob with slots:=sl}:=by
 by_cases hb:b∈fs
 ·exact u.slot b ob q n hb hx
 ·exact⟨ob.slots,u.keep b ob q n hb hx⟩
theorem Un.kept(k:∀b u,h.get? b=some u->h'.get? b=some u):Un fs ex H H h h':=
 ⟨λb ob q _ _ _=>k b ob q,λb ob q _ _ _=>⟨ob.slots,k b ob q⟩,λ_ _ _ n _=>n,λb ob q _=>⟨ob,k b ob q⟩,λ_ _ q=>q,λ_ _ _ q=>q,λ_ ps q=>⟨#[],by rw[q];simp⟩⟩
theorem Un.refl:Un fs ex H H h h:=Un.kept λ_ _ q=>q
theorem Un.laid(k:∀b u,h.get? b=some u->h'.get? b=some u)(hp:h.objs.size<=a)(hn:H a=none):Un fs ex H (upd H a o) h h' where
 keep:=λb u q _ _ _=>k b u q
 slot:=λb u q _ _ _=>⟨u.slots,k b u q⟩
 free:=λb u q n _=>by rw[bJ (aN (aT (aA q) hp))];exact n
 there:=λb u q _=>⟨u,k b u q⟩
 tups:=λb xs q=>by rw[bJ (cH q hn)];exact q
 frzs:=λb u xs q=>by rw[bJ (cH q hn)];exact q
 tbls:=λb ps q=>⟨#[],by rw[bJ (cH q hn),q];simp⟩
theorem Un.write(mu:OE (H x))(he:e=x\/H e=some (.own x))(k:∀b u,b≠e->h.get? b=some u->h'.get? b=some u)(heo:∃u,h'.get? e=some u):Un fs ex H (upd H x o) h h':=by
 have hx:∀b,H b=none->b≠x:=λb n z=>by subst z;rw[n]at mu;exact mu
 have hb:∀b,H b=none->b≠e:=λb n z=>by
  subst z;rcases he with r|r
  ·exact hx b n r
  ·rw[n]at r;cases r
 have hm:∀b u,H b=some u->¬OE (some u)->b≠x:=λb u q nm z=>by subst z;rw[q]at mu;exact nm mu
 refine⟨λb u q n _ _=>k b u (hb b n) q,λb u q n _ _=>⟨u.slots,k b u (hb b n) q⟩,λb u q n _=>by rw[bJ (hx b n)];exact n,λb u q _=> ?_,
  λb xs q=>by rw[bJ (hm b _ q λz=>z)];exact q,λb u xs q=>by rw[bJ (hm b _ q λz=>z)];exact q,λb ps q=>⟨#[],by rw[bJ (hm b _ q λz=>z),q];simp⟩⟩
 by_cases hbe:b=e
 ·subst hbe;exact heo
 ·exact⟨u,k b u hbe q⟩
end
def Os(h:Heap)(H:Hp):List Addr:=(bQ h.objs.size).filter λa=>(H a).isSome
def uy(h:Heap)(H:Hp):Heap:=PySem.W.hideAll h (Os h H)
theorem Au(h:Heap)(H:Hp):(uy h H).objs.size=h.objs.size:=PySem.W.hideAll_size _ _
theorem DQ{h:Heap}{H:Hp}{b:Addr}{o:Obj}(e:h.get? b=some o)(n:H b=none):(uy h H).get? b=some o:=
 PySem.W.hideAll_get _ e λhm=>by
  have q:(H b).isSome=true:=(List.mem_filter.mp hm).2;rw[n]at q;simp at q
theorem FK{h:Heap}{H:Hp}{b:Addr}{o:Obj}(e:(uy h H).get? b=some o):h.get? b=some o/\H b=none:=by
 have e':h.get? b=some o:=PySem.W.of_hideAll (Os h H) e;refine⟨e',?_⟩;cases q:H b with
 |none=>rfl
 |some x=>
  have hm:b∈Os h H:=List.mem_filter.mpr ⟨iX.mpr (aA e'),by simp[q]⟩
  have z:(uy h H).get? b=none:=PySem.W.hideAll_none (Os h H) hm
  rw[z]at e;cases e
structure Mod(K:PySem.W.Frag)(mg:Str->Option ae)(base:Heap):Prop where
 kin:K.In base
 glob:base.Ns bn mg
 blt:∃mb,base.Ns builtinsNs mb/\∀x:Str,x≠ "__name__" ->mb x=bN x
 nolimit:base.NoLimit
structure Cx where
 prog:aG
 w:aX
 K:PySem.W.Frag
 mg:Str->Option ae
 base:Heap
 A:Around
 N:List Str
 s₀:ag
 H₀:Hp
 env:Env
 outer:List Env
 stack:List Env
 ex:List Addr
 fn:Str->Bool
 calm:Bool
 pn:List (Addr×Obj)
 xe:ae->ag->Prop
def lW(l:List Env):List Addr:=l.filterMap (·.frame)
abbrev Cx.fs(X:Cx):List Addr:=lW X.outer
def Oz(sc:gu)(x:Str):Prop:=sc.names.lookup x=some .local\/sc.names.lookup x=some .cell\/sc.names.lookup x=some .free
def zC(sc:gu)(x:Str):Prop:=sc.names.lookup x=some .local\/sc.names.lookup x=some .cell
def P0(env:Env)(h:Heap)(m:Str->Option ae)(x:Str)(u:ae):Prop:=
 (env.kindOf x=some .local/\m x=some u)\/((env.kindOf x=some .cell\/env.kindOf x=some .free)/\∃c,env.cells.lookup x=some c/\h.IsCell c (some u))
structure Cx.Ok(X:Cx):Prop where
 mod:Mod X.K X.mg X.base
 kind:X.env.scope.kind= .function
 glob:X.env.globals=bn
 blt:X.env.builtins=builtinsNs
 above:X.s₀.heap.objs.size<=X.env.locals
 inj:∀x y c,X.env.cells.lookup x=some c->X.env.cells.lookup y=some c->x=y
 has:∀x,(X.env.kindOf x=some .cell\/X.env.kindOf x=some .free)->∃c,X.env.cells.lookup x=some c
 cab:∀x c,X.fn x=true->X.env.cells.lookup x=some c->X.s₀.heap.objs.size<=c
 hd:X.calm=true->X.A.handled=none
 frames:X.A.frames=some X.stack
 stk:X.stack=X.outer\/(X.stack=X.env::X.outer/\X.env.frame=some X.env.locals)
 exf:∀b∈X.ex,b≠X.env.locals/\∀x c,X.env.cells.lookup x=some c->c≠b
 bs:∀b o,X.base.get? b=some o->X.s₀.heap.get? b=some o/\X.H₀ b=none
 bsz:X.base.objs.size<=X.s₀.heap.objs.size
 noex:∀b o,X.base.get? b=some o->b∉X.ex
 exfs:∀b∈X.ex,b∉X.fs
 funs:X.s₀.heap.FunFrames X.base X.outer
 frf:∀b∈X.fs,X.H₀ b=none
structure Inv(X:Cx)(pins:List (Addr×Obj))(σ:List (Option V))(H:Hp)(s:ag):Prop where
 ok:X.Ok
 os:s.os=X.s₀.os
 bare:l9 s.gens
 base:Un X.fs X.ex X.H₀ H X.s₀.heap s.heap
 loc:∃m,s.heap.Ns X.env.locals m/\∀(i:Nat) (x:Str) (v:V),X.N[i]? =some x->σ[i]? =some (some v)->Oz X.env.scope x->∃u,RelV v u/\P0 X.env s.heap m x u
 cell:∀x c,X.env.cells.lookup x=some c->∃v,s.heap.IsCell c v
 free:H X.env.locals=none
 freeC:∀x c,X.env.cells.lookup x=some c->H c=none
 pin:∀p∈X.pn++pins,s.heap.get? p.1=some p.2/\H p.1=none/\p.1≠X.env.locals/\p.1∉X.fs/\∀v,p.2.data≠ .cell v
 hok:HOk X.prog X.w H s.heap
 len:σ.length=X.N.length
section
variable{X:Cx}{pins:List (Addr×Obj)}{σ:List (Option V)}{H H':Hp}{s:ag}{h':Heap}
theorem Cx.Ok.nofr(ok:X.Ok){b:Addr}{o:Obj}(e:X.base.get? b=some o):b∉X.fs:=λhb=>by
 have:=(ok.funs.mem hb).1;rw[e]at this;cases this
theorem Inv.bs(I:Inv X pins σ H s):∀b o,X.base.get? b=some o->s.heap.get? b=some o/\H b=none:=λb o e=>
 ⟨I.base.keep b o (I.ok.bs b o e).1 (I.ok.bs b o e).2 (I.ok.nofr e) (I.ok.noex b o e),I.base.free b o (I.ok.bs b o e).1 (I.ok.bs b o e).2 (I.ok.noex b o e)⟩
theorem Inv.bk(I:Inv X pins σ H s):∀b o,X.base.get? b=some o->s.heap.get? b=some o:=λb o e=>(I.bs b o e).1
theorem Inv.mod(I:Inv X pins σ H s):Mod X.K X.mg X.base:=I.ok.mod
theorem Inv.kIn(I:Inv X pins σ H s):X.K.In s.heap:=I.ok.mod.kin.keeps I.bk
theorem Inv.fr(I:Inv X pins σ H s):∃m,Fr X.base X.env.locals s.heap m:=
 let⟨m,hn,_⟩:=I.loc
 ⟨m,hn,I.bk,bj I.ok.bsz I.ok.above⟩
theorem Inv.lt(I:Inv X pins σ H s):X.env.locals<s.heap.objs.size:=let⟨_,hn,_⟩:=I.loc;hn.lt
theorem Inv.sz(I:Inv X pins σ H s):X.s₀.heap.objs.size<=s.heap.objs.size:=bj I.ok.above (i5 I.lt)
theorem Inv.nofs(I:Inv X pins σ H s){a:Addr}(h:s.heap.objs.size<=a):a∉X.fs:=λhb=>by
 obtain⟨_,o,ho,_⟩:=I.ok.funs.mem hb;exact absurd (aT (aA ho) (bj I.sz h)) (dJ _)
theorem Inv.cne(I:Inv X pins σ H s):∀x c,X.env.cells.lookup x=some c->c≠X.env.locals:=λx c e z=>by
 obtain⟨v,o,ho,hd⟩:=I.cell x c e;obtain⟨m,⟨o',es,ep,ho',hd',_⟩,_⟩:=I.loc;rw[z,ho']at ho;cases ho;rw[hd']at hd;cases hd
theorem Inv.funs(I:Inv X pins σ H s):s.heap.FunFrames X.base X.outer:=by
 have all:∀(l:List Env),(∀b∈lW l,b∈X.fs)->X.s₀.heap.FunFrames X.base l->s.heap.FunFrames X.base l:=by
  intro l;induction l with
  |nil=>intro _ _;trivial
  |cons env r ih=>
   intro hs hl
   obtain⟨hk,⟨L,o,hf,hn,ho,hd⟩,hr⟩:=hl
   have hL:L∈X.fs:=hs L (by unfold lW;rw[dO,hf];exact dB)
   obtain⟨sl,e⟩:=I.base.slot L o ho (I.ok.frf L hL) hL λz=>I.ok.exfs L z hL
   exact⟨hk,⟨L,_,hf,hn,e,hd⟩,ih (λb hb=>hs b (by unfold lW;rw[dO,hf];exact bC _ hb)) hr⟩
 exact all X.outer (λ_ hb=>hb) I.ok.funs
theorem Inv.stack(I:Inv X pins σ H s):s.heap.FunFrames X.base X.stack:=by
 rcases I.ok.stk with e|⟨e,hf⟩
 ·rw[e];exact I.funs
 ·rw[e];obtain⟨m,hn,_⟩:=I.loc;refine .cons (by rw[I.ok.kind];decide) hf hn ?_ I.funs;exact ny (bj I.ok.bsz I.ok.above)
theorem Inv.stkSub(I:Inv X pins σ H s):∀b∈lW X.stack,b∈X.env.locals::X.fs:=λb hb=>by
 rcases I.ok.stk with e|⟨e,hf⟩
 ·rw[e]at hb;exact bC _ hb
 ·rw[e]at hb;unfold lW at hb;rw[dO,hf]at hb;exact hb
theorem Inv.stkFree(I:Inv X pins σ H s):∀b∈lW X.stack,H b=none:=λb hb=>by
 rcases aw.mp (I.stkSub b hb)with e|hb
 ·rw[e];exact I.free
 ·obtain⟨_,o,ho,_⟩:=I.ok.funs.mem hb;exact I.base.free b o ho (I.ok.frf b hb) λz=>I.ok.exfs b z hb
theorem Inv.step{g':Array GenState}{t':Nat}{d':Drawn}{ch:List Addr}(I:Inv X pins σ H s)
  (hch:∀b∈ch,(b∈X.ex\/X.s₀.heap.objs.size<=b)/\b≠X.env.locals/\(∀x c,X.env.cells.lookup x=some c->c≠b)/\∀p∈X.pn++pins,p.1≠b)
  (keep:∀b o,b≠X.env.locals->b∉X.fs->b∉ch->s.heap.get? b=some o->H b=none->h'.get? b=some o)
  (slot:∀b o,b≠X.env.locals->b∈X.fs->b∉ch->s.heap.get? b=some o->H b=none->∃sl,h'.get? b=some {o with slots:=sl}) (free:∀b o,b∉ch->s.heap.get? b=some o->H b=none->H' b=none)
  (there:∀b o,b∉ch->s.heap.get? b=some o->∃o',h'.get? b=some o')
  (tups:∀b xs,H b=some (.tup xs)->H' b=some (.tup xs)) (frzs:∀b o u,H b=some (.frz o u)->H' b=some (.frz o u)) (tbls:∀b ps,H b=some (.tbl ps)->∃more,H' b=some (.tbl (ps++more)))
  (ns:∀m,s.heap.Ns X.env.locals m->h'.Ns X.env.locals m) (hok:HOk X.prog X.w H' h') (hg:l9 g'):
  Inv X pins σ H' {s with heap:=h',gens:=g',drawn:=d',toks:=t'}:=by
 have neL:∀b o,X.s₀.heap.get? b=some o->b≠X.env.locals:=λb o e=>aN (aT (aA e) I.ok.above);have neC:∀b o,X.s₀.heap.get? b=some o->b∉X.ex->b∉ch:=λb o e hx hb=>by
  rcases(hch b hb).1 with z|z
  ·exact hx z
  ·exact absurd (aT (aA e) z) (dJ _)
 have cellK:∀x c,X.env.cells.lookup x=some c->∀v,s.heap.IsCell c v->h'.IsCell c v:=λx c e v hPl=>by
  obtain⟨o,ho,hd⟩:=hPl;have nch:c∉ch:=λz=>(hch c z).2.2.1 x c e rfl;by_cases hc:c∈X.fs
  ·obtain⟨sl,q⟩:=slot c o (I.cne x c e) hc nch ho (I.freeC x c e);exact⟨_,q,hd⟩
  ·exact⟨o,keep c o (I.cne x c e) hc nch ho (I.freeC x c e),hd⟩
 refine⟨I.ok,I.os,hg,⟨λb o e n hb hx=> ?_,λb o e n hb hx=> ?_,λb o e n hx=> ?_,λb o e hx=> ?_,λb xs e=>tups b xs (I.base.tups b xs e),λb o xs e=>frzs b o xs (I.base.frzs b o xs e),λb ps e=> ?_⟩,?_,λx c e=> ?_,?_,λx c e=> ?_,λp hp=> ?_,hok,I.len⟩
 ·exact keep b o (neL b o e) hb (neC b o e hx) (I.base.keep b o e n hb hx) (I.base.free b o e n hx)
 ·obtain⟨sl,e1⟩:=I.base.slot b o e n hb hx;obtain⟨sl',e2⟩:=slot b _ (neL b o e) hb (neC b o e hx) e1 (I.base.free b o e n hx);exact⟨sl',e2⟩
 ·obtain⟨o',e1⟩:=I.base.there b o e hx;exact free b o' (neC b o e hx) e1 (I.base.free b o e n hx)
 ·obtain⟨o',e1⟩:=I.base.there b o e hx;exact there b o' (neC b o e hx) e1
 ·obtain⟨m1,e1⟩:=I.base.tbls b ps e;obtain⟨m2,e2⟩:=tbls b _ e1;exact⟨m1++m2,by rw[e2,Array.append_assoc]⟩
 ·obtain⟨m,hn,hl⟩:=I.loc;refine⟨m,ns m hn,λi x v e1 e2 e3=> ?_⟩;obtain⟨u,r,l⟩:=hl i x v e1 e2 e3;refine⟨u,r,?_⟩;rcases l with l|⟨k,c,e,z⟩
  ·exact .inl l
  ·exact .inr ⟨k,c,e,cellK x c e _ z⟩
 ·obtain⟨v,z⟩:=I.cell x c e;exact⟨v,cellK x c e v z⟩
 ·obtain⟨m,⟨o,_,_,ho,_⟩,_⟩:=I.loc;exact free _ o (λz=>(hch _ z).2.1 rfl) ho I.free
 ·obtain⟨v,o,ho,hd⟩:=I.cell x c e;exact free c o (λz=>(hch c z).2.2.1 x c e rfl) ho (I.freeC x c e)
 ·obtain⟨e,n,ne,nf,d⟩:=I.pin p hp;have nch:p.1∉ch:=λz=>(hch p.1 z).2.2.2 p hp rfl;exact⟨keep p.1 p.2 ne nf nch e n,free p.1 p.2 nch e n,ne,nf,d⟩
theorem Inv.un{t':Nat}(I:Inv X pins σ H s)(u:Un X.fs [] H H' s.heap h')(hok:HOk X.prog X.w H' h'):Inv X pins σ H' {s with heap:=h',toks:=t'}:=by
 obtain⟨m,⟨o,es,ep,ho,r⟩,_⟩:=id I.loc;obtain⟨sl,hL⟩:=u.any ho I.free (by simp);exact I.step (g':=s.gens) (d':=s.drawn) (ch:=[]) (λ_ z=>nomatch z) (λb o _ hb _ e n=>u.keep b o e n hb (by simp)) (λb o _ hb _ e n=>u.slot b o e n hb (by simp)) (λb o _ e n=>u.free b o e n (by simp)) (λb o _ e=>u.there b o e (by simp)) u.tups u.frzs u.tbls (λm' hm=>by
  obtain⟨o',es',ep',ho',r'⟩:=hm;rw[ho]at ho';cases ho';exact⟨_,es',ep',hL,r'⟩) hok I.bare
theorem Inv.call{g':Array GenState}{t':Nat}{d':Drawn}{ch:List Addr}(I:Inv X pins σ H s)(u:Un (lW X.stack) ch H H' s.heap h')(hok:HOk X.prog X.w H' h')(hg:l9 g')
  (hch:∀b∈ch,(b∈X.ex\/X.s₀.heap.objs.size<=b)/\b≠X.env.locals/\(∀x c,X.env.cells.lookup x=some c->c≠b)/\∀p∈X.pn++pins,p.1≠b):
  Inv X pins σ H' {s with heap:=h',gens:=g',drawn:=d',toks:=t'}:=by
 obtain⟨m,⟨o,es,ep,ho,r⟩,_⟩:=id I.loc;obtain⟨sl,hL⟩:=u.any ho I.free λz=>(hch _ z).2.1 rfl;exact I.step (ch:=ch) hch (λb o hL hb hc e n=>u.keep b o e n (λz=>(aw.mp (I.stkSub b z)).elim hL hb) hc) (λb o _ _ hc e n=>u.any e n hc) (λb o hc e n=>u.free b o e n hc) (λb o hc e=>u.there b o e hc) u.tups u.frzs u.tbls (λm' hm=>by
  obtain⟨o',es',ep',ho',r'⟩:=hm;rw[ho]at ho';cases ho';exact⟨_,es',ep',hL,r'⟩) hok hg
theorem Inv.turned{t':Nat}{it:Addr}(I:Inv X pins σ H s)(k:∀b o,b≠it->s.heap.get? b=some o->h'.get? b=some o)(hn:H it=none)(hL:it≠X.env.locals)
  (h1:it∈X.ex\/X.s₀.heap.objs.size<=it) (h2:∀x c,X.env.cells.lookup x=some c->c≠it) (h3:∀p∈X.pn++pins,p.1≠it):Inv X pins σ H {s with heap:=h',toks:=t'}:=by
 have nit:∀b u,H b=some u->b≠it:=λb u e z=>by rw[z,hn]at e;cases e
 refine I.step (g':=s.gens) (d':=s.drawn) (ch:=[it]) (λb hb=> ?_) (λb o _ _ hc e _=>k b o (λz=>hc (by simp[z])) e) (λb o _ _ hc e _=>⟨o.slots,k b o (λz=>hc (by simp[z])) e⟩) (λ_ _ _ _ n=>n)
  (λb o hc e=>⟨o,k b o (λz=>hc (by simp[z])) e⟩) (λ_ _ e=>e) (λ_ _ _ e=>e) (λb ps e=>⟨#[],by rw[e];simp⟩) (λm hm=> ?_) (λb u e=> ?_) I.bare
 ·have e:b=it:=by simpa using hb
  subst e;exact⟨h1,hL,h2,h3⟩
 ·obtain⟨o,es,ep,ho,r⟩:=hm;exact⟨o,es,ep,k _ o (aY hL) ho,r⟩
 ·refine(I.hok b u e).stay (λc v hc q=>k c v ?_ q) (λ_ q=>q) λ_ _ q=>q;rcases hc with z|z
  ·rw[z];exact nit b u e
  ·exact nit c _ z
theorem Inv.tok(I:Inv X pins σ H s)(t:Nat):Inv X pins σ H {s with toks:=t}:=I.un (h':=s.heap) (t':=t) Un.refl I.hok
theorem Inv.kept{t':Nat}(I:Inv X pins σ H s)(k:∀b u,s.heap.get? b=some u->h'.get? b=some u):Inv X pins σ H {s with heap:=h',toks:=t'}:=I.un (Un.kept k) (I.hok.kept k)
theorem Inv.laid{a:Addr}{o:HO}{t':Nat}(I:Inv X pins σ H s)(k:∀b u,s.heap.get? b=some u->h'.get? b=some u)(hp:s.heap.objs.size<=a)(new:ObjOk X.prog X.w (upd H a o) h' a o):
  Inv X pins σ (upd H a o) {s with heap:=h',toks:=t'}:=I.un (Un.laid k hp (I.hok.fresh hp)) (I.hok.laid k hp new)
theorem Inv.write{x e:Addr}{o:HO}{t':Nat}(I:Inv X pins σ H s)(mu:OE (H x))(he:e=x\/H e=some (.own x))(k:∀b u,b≠e->s.heap.get? b=some u->h'.get? b=some u)(heo:∃u,h'.get? e=some u)
  (new:ObjOk X.prog X.w (upd H x o) h' x o):Inv X pins σ (upd H x o) {s with heap:=h',toks:=t'}:=I.un (Un.write mu he k heo) (I.hok.write mu he k heo new)
theorem Inv.weak{σ':List (Option V)}(I:Inv X pins σ H s)(hl:σ'.length=σ.length)(w:∀(i:Nat) v,σ'[i]? =some (some v)->σ[i]? =some (some v)):Inv X pins σ' H s:=
 ⟨I.ok,I.os,I.bare,I.base,let⟨m,hn,hl'⟩:=I.loc;⟨m,hn,λi x v e1 e2 e3=>hl' i x v e1 (w i v e2) e3⟩,I.cell,I.free,I.freeC,I.pin,I.hok,hl.trans I.len⟩
theorem Inv.pins_of{pins':List (Addr×Obj)}(I:Inv X pins σ H s)(h:∀p∈pins',s.heap.get? p.1=some p.2/\H p.1=none/\p.1≠X.env.locals/\p.1∉X.fs/\∀v,p.2.data≠ .cell v):Inv X pins' σ H s:=
 ⟨I.ok,I.os,I.bare,I.base,I.loc,I.cell,I.free,I.freeC,λp hp=>(aH.mp hp).elim (λz=>I.pin p (gP _ z)) (h p),I.hok,I.len⟩
theorem qO{N:List Str}(hN:N.Nodup){i j:Nat}{x:Str}(a:N[i]? =some x)(b:N[j]? =some x):i=j:=by
 obtain⟨h1,e1⟩:=ak.mp a;obtain⟨h2,e2⟩:=ak.mp b;exact(List.getElem_inj hN).mp (e1.trans e2.symm)
theorem zM{M:Model}{A:Around}{E:ae->ag->Prop}{i:Nat}{x:Str}{v:V}{u:ae}{Q:Unit->ag->Prop}(I:Inv X pins σ H s)(hN:X.N.Nodup)(hi:X.N[i]? =some x)(hx:zC X.env.scope x)(r:RelV v u)
  (h:∀s',Inv X pins (σ.set i (some v)) H s'->(∃a,cM a s.heap s'.heap/\(a=X.env.locals\/X.env.cells.lookup x=some a))->Q () s') (hf:autoParam (X.fn x=true\/X.env.scope.names.lookup x=some .local) Qg):wpAny M A (storeName X.env x u) Q E s:=by
 obtain⟨m,hn,hl⟩:=id I.loc;have hcls:(X.env.scope.kind== .class||(X.env.scope.kind== .module&&X.env.locals !=X.env.globals))=false:=by rw[I.ok.kind];rfl
 have hiσ:i<σ.length:=by rw[I.len];exact(ak.mp hi).1
 have cne:=I.cne;have tracked:∀{a:Addr} {h':Heap},(∃o,s.heap.get? a=some o/\H a=none)->cM a s.heap h'->HOk X.prog X.w H h':=fun{a h'} ha hs b ob e=>by
  obtain⟨_,_,hfree⟩:=ha;refine(I.hok b ob e).stay (λc w' hc q=>(hs.2 c ?_).trans q) (λ_ q=>q) λ_ _ q=>q;rintro rfl;rcases hc with rfl|hc
  ·rw[hfree]at e;cases e
  ·rw[hfree]at hc;cases hc
 rcases hx with hk|hk
 ·refine wpAny_storeName_local hk hn (λh' hn' hs=> ?_) hcls;obtain⟨oL,_,_,hoL,_⟩:=id hn;refine h _ ⟨I.ok,I.os,I.bare,⟨λb o e n hb hx=> ?_,λb o e n hb hx=> ?_,I.base.free,λb o e hx=> ?_,I.base.tups,I.base.frzs,I.base.tbls⟩,⟨_,hn',λj y v' e1 e2 e3=> ?_⟩,λy c e=> ?_,I.free,I.freeC,λp hp=> ?_,tracked ⟨oL,hoL,I.free⟩ hs,by simpa using I.len⟩ ⟨_,hs,.inl rfl⟩
  ·exact(hs.2 b (aN (aT (aA e) I.ok.above))).trans (I.base.keep b o e n hb hx)
  ·obtain⟨sl,e1⟩:=I.base.slot b o e n hb hx;exact⟨sl,(hs.2 b (aN (aT (aA e) I.ok.above))).trans e1⟩
  ·obtain⟨o',e1⟩:=I.base.there b o e hx;exact⟨o',(hs.2 b (aN (aT (aA e) I.ok.above))).trans e1⟩
  ·by_cases hj:j=i
   ·subst hj;rw[hi]at e1;cases e1;rw[eO hiσ]at e2;cases e2;exact⟨u,r,.inl ⟨hk,by simp⟩⟩
   ·rw[dD (aY hj)]at e2;obtain⟨u',r',q⟩:=hl j y v' e1 e2 e3;refine⟨u',r',?_⟩;rcases q with⟨k,e⟩|⟨k,c,e,z⟩
    ·refine .inl ⟨k,?_⟩;have:y≠x:=λe=>hj (qO hN e1 (e▸hi));simp[this,e]
    ·exact .inr ⟨k,c,e,z.sameBut hs (cne y c e)⟩
  ·obtain⟨w',z⟩:=I.cell y c e;exact⟨w',z.sameBut hs (cne y c e)⟩
  ·obtain⟨e,n,ne,nf,d⟩:=I.pin p hp;exact⟨(hs.2 p.1 ne).trans e,n,ne,nf,d⟩
 ·have hfn:X.fn x=true:=by
   rcases hf with z|z
   ·exact z
   ·rw[z]at hk;cases hk
  obtain⟨c,hc⟩:=I.ok.has x (.inl hk)
  obtain⟨w',z⟩:=I.cell x c hc
  refine wpAny_storeName_cell I.ok.kind hk hc z (λh' hc' hs=> ?_)
  obtain⟨oc,hoc,hocd⟩:=id z
  refine h {s with heap:=h'} ⟨I.ok,I.os,I.bare,⟨λb o e n hb hx=> ?_,λb o e n hb hx=> ?_,I.base.free,λb o e hx=> ?_,I.base.tups,I.base.frzs,I.base.tbls⟩,⟨m,hn.sameBut hs (aY (cne x c hc)),λj y v' e1 e2 e3=> ?_⟩,λy c' e=> ?_,I.free,I.freeC,λp hp=> ?_,tracked ⟨oc,hoc,I.freeC x c hc⟩ hs,by simpa using I.len⟩ ⟨c,hs,.inr hc⟩
  ·exact(hs.2 b (aN (aT (aA e) (I.ok.cab x c hfn hc)))).trans (I.base.keep b o e n hb hx)
  ·obtain⟨sl,e1⟩:=I.base.slot b o e n hb hx
   exact⟨sl,(hs.2 b (aN (aT (aA e) (I.ok.cab x c hfn hc)))).trans e1⟩
  ·obtain⟨o',e1⟩:=I.base.there b o e hx
   exact⟨o',(hs.2 b (aN (aT (aA e) (I.ok.cab x c hfn hc)))).trans e1⟩
  ·by_cases hj:j=i
   ·subst hj
    rw[hi]at e1;cases e1
    rw[eO hiσ]at e2
    cases e2
    exact⟨u,r,.inr ⟨.inl hk,c,hc,hc'⟩⟩
   ·rw[dD (aY hj)]at e2
    obtain⟨u',r',q⟩:=hl j y v' e1 e2 e3
    refine⟨u',r',?_⟩
    rcases q with q|⟨k,c',e,z'⟩
    ·exact .inl q
    ·refine .inr ⟨k,c',e,z'.sameBut hs ?_⟩
     rintro rfl
     exact hj (qO hN e1 (I.ok.inj _ _ _ e hc▸hi))
  ·by_cases hcc:c'=c
   ·subst hcc;exact⟨_,hc'⟩
   ·obtain⟨w2,z2⟩:=I.cell y c' e
    exact⟨w2,z2.sameBut hs hcc⟩
  ·obtain⟨e,n,ne,nf,d⟩:=I.pin p hp
   refine⟨(hs.2 p.1 ?_).trans e,n,ne,nf,d⟩
   intro q
   rw[q,hoc]at e
   have q':oc=p.2:=bt e
   exact d w' (by rw[<-q'];exact hocd)
theorem j5{M:Model}{A:Around}{E:ae->ag->Prop}{i:Nat}{x:Str}{v:V}{u:ae}{Q:Unit->ag->Prop}(I:Inv X pins σ H s)(hN:X.N.Nodup)(hi:X.N[i]? =some x)(hx:zC X.env.scope x)(r:RelV v u)
  (h:∀s',Inv X pins (σ.set i (some v)) H s'->Q () s') (hf:autoParam (X.fn x=true\/X.env.scope.names.lookup x=some .local) Qg):wpAny M A (storeName X.env x u) Q E s:=
 zM I hN hi hx r (λs' I' _=>h s' I') hf
theorem Inv.call'{s':ag}{ch:List Addr}(I:Inv X pins σ H s)(ho:s'.os=s.os)(u:Un (lW X.stack) ch H H' s.heap s'.heap)(hok:HOk X.prog X.w H' s'.heap)(hg:l9 s'.gens)
  (hch:∀b∈ch,(b∈X.ex\/X.s₀.heap.objs.size<=b)/\b≠X.env.locals/\(∀x c,X.env.cells.lookup x=some c->c≠b)/\∀p∈X.pn++pins,p.1≠b):Inv X pins σ H' s':=by
 obtain⟨h',g',d',t',o'⟩:=s';have e:o'=s.os:=ho;subst e;exact I.call (g':=g') (t':=t') (d':=d') u hok hg hch
end
abbrev XK:=ae->Option Addr->Hp->Prop
abbrev St:=List (Option V)
abbrev VK:=V->Hp->Prop
abbrev TE:=St->Hp->VK->Prop
abbrev TT:=St->Hp->(Bool->Hp->Prop)->Prop
abbrev TA:=St->Hp->(List V->Hp->Prop)->Prop
structure Ends where
 nx:St->Hp->Prop
 rt:VK
 bk:St->Hp->Prop:=λ_ _=>False
 ct:St->Hp->Prop:=λ_ _=>False
abbrev TS:=Ends->St->Hp->Prop
def EP(X:Cx)(pins:List (Addr×Obj))(σ:St)(Q:VK)(u:ae)(s':ag):Prop:=∃v H',Inv X pins σ H' s'/\RelV v u/\Q v H'
def TP(X:Cx)(pins:List (Addr×Obj))(σ:St)(Q:Bool->Hp->Prop)(b:Bool)(s':ag):Prop:=∃H',Inv X pins σ H' s'/\Q b H'
def AP(X:Cx)(pins:List (Addr×Obj))(σ:St)(Q:List V->Hp->Prop)(us:List ae)(s':ag):Prop:=∃vs H',Inv X pins σ H' s'/\Vals vs us/\Q vs H'
def SP(X:Cx)(pins:List (Addr×Obj))(D:Ends)(f:Flow)(s':ag):Prop:=
 match f with
 | .next=>∃σ' H',Inv X pins σ' H' s'/\D.nx σ' H'
 | .brk=>∃σ' H',Inv X pins σ' H' s'/\D.bk σ' H'
 | .cont=>∃σ' H',Inv X pins σ' H' s'/\D.ct σ' H'
 | .ret u=>∃v σ' H',Inv X pins σ' H' s'/\RelV v u/\D.rt v H'
def PE(X:Cx)(e:Expr)(t:TE):Prop:=
 ∀(pins:List (Addr×Obj)) (s:ag) (σ:St) (H:Hp) (Q:VK),Inv X pins σ H s->t σ H Q->wpAny (aK X.prog X.w) X.A (eval e X.env) (EP X pins σ Q) X.xe s
def PT(X:Cx)(e:Expr)(t:TT):Prop:=
 ∀(pins:List (Addr×Obj)) (s:ag) (σ:St) (H:Hp) (Q:Bool->Hp->Prop),Inv X pins σ H s->t σ H Q->wpAny (aK X.prog X.w) X.A (isTrue e X.env (eval e X.env)) (TP X pins σ Q) X.xe s
def PW(X:Cx)(e:Expr)(t:TT):Prop:=
 ∀(whole:Sem ae) (pins:List (Addr×Obj)) (s:ag) (σ:St) (H:Hp) (Q:Bool->Hp->Prop),Inv X pins σ H s->t σ H Q->wpAny (aK X.prog X.w) X.A (isTrue e X.env whole) (TP X pins σ Q) X.xe s
theorem PW.pt{X:Cx}{e:Expr}{t:TT}(h:PW X e t):PT X e t:=h _
def PA(X:Cx)(es:List Expr)(t:TA):Prop:=
 ∀(pos:Pos) (pins:List (Addr×Obj)) (s:ag) (σ:St) (H:Hp) (Q:List V->Hp->Prop),Inv X pins σ H s->t σ H Q->wpAny (aK X.prog X.w) X.A (spliced (bZ pos (ao es X.env))) (AP X pins σ Q) X.xe s
def PS(X:Cx)(st:Stmt)(t:TS):Prop:=
 ∀(pins:List (Addr×Obj)) (s:ag) (σ:St) (H:Hp) (D:Ends),Inv X pins σ H s->t D σ H->wpAny (aK X.prog X.w) X.A (exec st X.env) (SP X pins D) X.xe s
def PSs(X:Cx)(st:List Stmt)(t:TS):Prop:=
 ∀(pins:List (Addr×Obj)) (s:ag) (σ:St) (H:Hp) (D:Ends),Inv X pins σ H s->t D σ H->wpAny (aK X.prog X.w) X.A (execs st X.env) (SP X pins D) X.xe s
theorem fF{α:Type}{t:Sem α}{Q Q':α->ag->Prop}{M:Model}{A:Around}{E:ae->ag->Prop}{s:ag}(h:wpAny M A t Q E s)(hQ:∀a s,Q a s->Q' a s):wpAny M A t Q' E s:=bh h hQ λ_ _ x=>x
section
variable{X:Cx}
def ON(i:Nat):TE:=λσ H Q=>∃v,σ[i]? =some (some v)/\Q v H
def tC(v:V):TE:=λ_ H Q=>Q v H
theorem Jc{i:Nat}{x:Str}{pos:Pos}(hN:X.N[i]? =some x)(hv:Oz X.env.scope x)(hd:autoParam ((x==("__debug__" :Str))=false) Qc)(hcd:autoParam ((x==("__classdict__" :Str))=false) Qc):PE X (.Name x pos) (ON i):=by
 intro pins s σ H Q I h;obtain⟨v,e,h⟩:=h;obtain⟨m,hn,hl⟩:=I.loc;obtain⟨u,r,l⟩:=hl i x v hN e hv;have fin:EP X pins σ Q u s:=⟨v,H,I,r,h⟩;rcases l with⟨hk,hm⟩|⟨hk,c,hc,hcell⟩
 ·exact wpAny_Name (wpAny_loadName_local I.ok.kind hk hn hm fin) hd
 ·rcases hk with hk|hk
  ·exact wpAny_Name (wpAny_loadName_cell I.ok.kind hk hc hcell fin) hd
  ·exact wpAny_Name (wpAny_loadName_free I.ok.kind hk hc hcell fin hcd) hd
theorem Cg{i j pos}:PE X (.Constant (.int i) j pos) (tC (.int i)):=λ_ _ _ H _ I h=>wpAny_Constant_int ⟨.int i,H,I.tok _,⟨_,rfl⟩,h⟩
theorem MD{b j pos}:PE X (.Constant (.bool b) j pos) (tC (.bl b)):=λ_ _ _ H _ I h=>Constant_bool ⟨.bl b,H,I,rfl,h⟩
theorem Jh{j pos}:PE X (.Constant .none j pos) (tC .non):=λ_ _ _ H _ I h=>Constant_none ⟨.non,H,I,rfl,h⟩
theorem Je{x j pos}:PE X (.Constant (.str x) j pos) (tC (.str x)):=λ_ _ _ H _ I h=>Calls.Constant_str ⟨.str x,H,I.tok _,⟨_,rfl⟩,h⟩
def Gl(X:Cx)(x:Str):Prop:=X.env.kindOf x=some .globalImplicit
theorem kx{E:ae->ag->Prop}{pins:List (Addr×Obj)}{s:ag}{σ:St}{H:Hp}{x:Str}{u:ae}{pos:Pos}{Q:ae->ag->Prop}(I:Inv X pins σ H s)(hg:Gl X x)(hm:X.mg x=some u)(h:Q u s)
  (hd:autoParam ((x==("__debug__" :Str))=false) Qc):wpAny (aK X.prog X.w) X.A (eval (.Name x pos) X.env) Q E s:=
 jV I.ok.kind hg (ww (by rw[I.ok.glob];exact I.mod.glob.keeps I.bk) hm h) hd
theorem mS{E:ae->ag->Prop}{pins:List (Addr×Obj)}{s:ag}{σ:St}{H:Hp}{x:Str}{u:ae}{pos:Pos}{Q:ae->ag->Prop}(I:Inv X pins σ H s)(hg:Gl X x)(hm:X.mg x=none)(hv:bN x=some u)(h:Q u s)
  (hn:autoParam (x≠ "__name__") Qc) (hd:autoParam ((x==("__debug__" :Str))=false) Qc):wpAny (aK X.prog X.w) X.A (eval (.Name x pos) X.env) Q E s:=by
 obtain⟨mb,h1,h2⟩:=I.mod.blt;exact jV I.ok.kind hg (Calls.loadGlobal_builtin (by rw[I.ok.glob];exact I.mod.glob.keeps I.bk) hm (by rw[I.ok.blt];exact h1.keeps I.bk) ((h2 x hn).trans hv) h) hd
theorem Fn{x:Str}{v:V}{u:ae}{pos:Pos}(hg:Gl X x)(hm:X.mg x=some u)(r:RelV v u)(hd:autoParam ((x==("__debug__" :Str))=false) Qc):PE X (.Name x pos) (tC v):=
 λ_ _ _ H _ I h=>kx I hg hm ⟨v,H,I,r,h⟩ hd
theorem Fs{x:Str}{v:V}{u:ae}{pos:Pos}(hg:Gl X x)(hm:X.mg x=none)(hv:bN x=some u)(r:RelV v u)(hn:autoParam (x≠ "__name__") Qc)(hd:autoParam ((x==("__debug__" :Str))=false) Qc):PE X (.Name x pos) (tC v):=
 λ_ _ _ H _ I h=>mS I hg hm hv ⟨v,H,I,r,h⟩ hn hd
variable{a b:Expr}{ta tb:TE}{pos:Pos}
def tB(t:TE):TT:=λσ H Q=>t σ H λx H1=>∃c,x= .bl c/\Q c H1
theorem IS{e:Expr}{t:TE}(h:PE X e t)(he:autoParam (∀whole,isTrue e X.env whole=(do let v <-whole;standAt e.pos;holding [v] (truthy v))) Qe):PT X e (tB t):=by
 intro pins s σ H Q I hw;refine isTrue_plain (fF (h pins s σ H _ I hw) λv s1 hPl=> ?_) (he _);obtain⟨x,H1,I1,r1,q1⟩:=hPl;obtain⟨d,rfl,q⟩:=q1;cases r1;exact dU ⟨H1,I1,q⟩
variable{tA tB':TT}{rest:List Expr}
def O1(t u:TT):TT:=λσ H Q=>t σ H λc H1=>if c=true then u σ H1 Q else Q false H1
def tOr(t u:TT):TT:=λσ H Q=>t σ H λc H1=>if c=true then Q true H1 else u σ H1 Q
def OT(t:TT):TT:=λσ H Q=>t σ H λc H1=>Q (!c) H1
theorem Fc(ha:PT X a tA):PW X (.BoolOp .And [a] pos) tA:=by
 intro wh pins s σ H Q I h;refine isTrue_and (fF (ha pins s σ H Q I h) λc s1 e=> ?_);cases c with
 |true=>exact isTrue_and_nil e
 |false=>exact e
theorem IQ(ha:PT X a tA):PW X (.BoolOp .Or [a] pos) tA:=by
 intro wh pins s σ H Q I h;refine isTrue_or (fF (ha pins s σ H Q I h) λc s1 e=> ?_);cases c with
 |false=>exact isTrue_or_nil e
 |true=>exact e
theorem IR(ha:PT X a tA)(hb:PW X (.BoolOp .And (b::rest) pos) tB'):PW X (.BoolOp .And (a::b::rest) pos) (O1 tA tB'):=by
 intro wh pins s σ H Q I h;refine isTrue_and (fF (ha pins s σ H _ I h) λc s1 hPl=> ?_);obtain⟨H1,I1,q1⟩:=hPl;cases c with
 |true=>exact hb wh pins s1 σ H1 Q I1 q1
 |false=>exact⟨H1,I1,q1⟩
theorem Mu(ha:PT X a tA)(hb:PW X (.BoolOp .Or (b::rest) pos) tB'):PW X (.BoolOp .Or (a::b::rest) pos) (tOr tA tB'):=by
 intro wh pins s σ H Q I h;refine isTrue_or (fF (ha pins s σ H _ I h) λc s1 hPl=> ?_);obtain⟨H1,I1,q1⟩:=hPl;cases c with
 |true=>exact⟨H1,I1,q1⟩
 |false=>exact hb wh pins s1 σ H1 Q I1 q1
theorem IT(ha:PT X a tA):PT X (.UnaryOp .Not a pos) (OT tA):=by
 intro pins s σ H Q I h;exact isTrue_not (ha pins s σ H (λc H1=>Q (!c) H1) I h)
def L7(ta tb:TE):TE:=λσ H Q=>ta σ H λx H1=>∃c,x= .bl c/\if c=true then tb σ H1 Q else Q (.bl false) H1
def OR(ta tb:TE):TE:=λσ H Q=>ta σ H λx H1=>∃c,x= .bl c/\if c=true then Q (.bl true) H1 else tb σ H1 Q
def LY(ta:TE):TE:=λσ H Q=>ta σ H λx H1=>∃c,x= .bl c/\Q (.bl (!c)) H1
theorem Jf{op}{t:TE}(h:PE X a t):PE X (.BoolOp op [a] pos) t:=λpins s σ H Q I hw=>BoolOp_one (h pins s σ H Q I hw)
theorem Jl(ha:PE X a ta)(hb:PE X (.BoolOp .And (b::rest) pos) tb):PE X (.BoolOp .And (a::b::rest) pos) (L7 ta tb):=by
 intro pins s σ H Q I h;refine BoolOp_and (fF (ha pins s σ H _ I h) λv s1 hPl=> ?_);obtain⟨x,H1,I1,r1,q1⟩:=hPl;obtain⟨c,rfl,q1⟩:=q1;cases r1;refine dU ?_;cases c with
 |true=>exact hb pins s1 σ H1 Q I1 q1
 |false=>exact⟨.bl false,H1,I1,rfl,q1⟩
theorem MA(ha:PE X a ta)(hb:PE X (.BoolOp .Or (b::rest) pos) tb):PE X (.BoolOp .Or (a::b::rest) pos) (OR ta tb):=by
 intro pins s σ H Q I h;refine BoolOp_or (fF (ha pins s σ H _ I h) λv s1 hPl=> ?_);obtain⟨x,H1,I1,r1,q1⟩:=hPl;obtain⟨c,rfl,q1⟩:=q1;cases r1;refine dU ?_;cases c with
 |false=>exact hb pins s1 σ H1 Q I1 q1
 |true=>exact⟨.bl true,H1,I1,rfl,q1⟩
theorem Jg(ha:PE X a ta):PE X (.UnaryOp .Not a pos) (LY ta):=by
 intro pins s σ H Q I h;refine UnaryOp_ (fF (ha pins s σ H _ I h) λv s1 hPl=> ?_);obtain⟨x,H1,I1,r1,q1⟩:=hPl;obtain⟨c,rfl,q1⟩:=q1;cases r1;exact not_of (dU ⟨.bl (!c),H1,I1,rfl,q1⟩)
def tIf(t:TT)(ta tb:TE):TE:=λσ H Q=>t σ H λc H1=>if c=true then ta σ H1 Q else tb σ H1 Q
theorem Ci{c:Expr}(hc:PT X c tA)(ha:PE X a ta)(hb:PE X b tb):PE X (.IfExp c a b pos) (tIf tA ta tb):=by
 intro pins s σ H Q I h;refine wpAny_IfExp (fF (hc pins s σ H _ I h) λd s1 hPl=> ?_);obtain⟨H1,I1,q1⟩:=hPl;cases d with
 |true=>exact ha pins s1 σ H1 Q I1 q1
 |false=>exact hb pins s1 σ H1 Q I1 q1
end
def SqL(K:PySem.W.Frag)(H:Hp)(a:Addr)(xs:List V):Prop:=
 Rd H a (.lst xs)\/
  ∃(o:Obj) (its:Array ae) (n:Nat),K.lookup a=some o/\o.cls= .type "list" /\o.dict=none/\o.data= .seq its n/\its.size<=ba/\Vals xs its.toList
def SqT(K:PySem.W.Frag)(H:Hp)(a:Addr)(xs:List V):Prop:=
 Rd H a (.tup xs)\/
  ∃(o:Obj) (its:Array ae) (n:Nat),K.lookup a=some o/\o.cls= .type "tuple" /\o.data= .seq its n/\its.size<=ba/\Vals xs its.toList
def PY:ae->Option V
 | .none=>some .non
 | .bool b=>some (.bl b)
 | .int i _=>some (.int i)
 | .str x _=>some (.str x)
 | .bytes b _=>some (.byt b)
 | .float b _=>some (.flt b)
 | .ref a=>some (.ref a)
 | .type n=>some (.ty n)
 |_=>none
theorem RelV.abs{x:V}{u:ae}(r:RelV x u):PY u=some x:=by
 cases x with
 |non=>cases r;rfl
 |bl _=>cases r;rfl
 |int _=>obtain⟨t,rfl⟩:=r;rfl
 |str _=>obtain⟨t,rfl⟩:=r;rfl
 |byt _=>obtain⟨t,rfl⟩:=r;rfl
 |flt _=>obtain⟨t,rfl⟩:=r;rfl
 |ref _=>cases r;rfl
 |ty _=>cases r;rfl
theorem RelV.inj{x y:V}{u:ae}(r:RelV x u)(q:RelV y u):x=y:=bt (r.abs.symm.trans q.abs)
theorem Vals.inj:∀{xs ys:List V} {us:List ae},Vals xs us->Vals ys us->xs=ys
 |_,_,_,.nil,.nil=>rfl
 |_,_,_,.cons r t,.cons r' t'=>by rw[r.inj r',Vals.inj t t']
section
variable{X:Cx}{pins:List (Addr×Obj)}{σ:St}{H:Hp}{s:ag}{a:Addr}{xs ys:List V}
theorem SqL.of{K:PySem.W.Frag}(h:H a=some (.lst xs)):SqL K H a xs:= .inl (.inl h)
theorem SqT.of{K:PySem.W.Frag}(h:H a=some (.tup xs)):SqT K H a xs:= .inl (.inl h)
theorem Inv.list(I:Inv X pins σ H s)(h:SqL X.K H a xs):∃its:List ae,Vals xs its/\PlainL s.heap a its.toArray/\xs.length<=ba:=by
 rcases h with h|⟨o,its,n,hk,hc,hd,hs,hz,r⟩
 ·obtain⟨z,its,n,r,e⟩:=h.ok I.hok;exact⟨its,r,⟨_,n,e,rfl,rfl,rfl⟩,z⟩
 ·refine⟨its.toList,r,⟨o,n,I.kIn a o hk,hc,hd,by simpa using hs⟩,?_⟩;have e:=r.length;simp only[aE]at e;ac_nf
theorem Inv.tuple(I:Inv X pins σ H s)(h:SqT X.K H a xs):∃its:List ae,Vals xs its/\IsTup s.heap a its.toArray/\xs.length<=ba:=by
 rcases h with h|⟨o,its,n,hk,hc,hs,hz,r⟩
 ·obtain⟨z,its,r,p⟩:=h.ok I.hok;exact⟨its,r,p,z⟩
 ·refine⟨its.toList,r,⟨o,I.kIn a o hk,hc,n,by simpa using hs⟩,?_⟩;have e:=r.length;simp only[aE]at e;ac_nf
theorem Inv.list_inj(I:Inv X pins σ H s)(h:SqL X.K H a xs)(h':SqL X.K H a ys):xs=ys:=by
 obtain⟨its,r,⟨o,n,e,_,_,d⟩,_⟩:=I.list h;obtain⟨its',r',⟨o',n',e',_,_,d'⟩,_⟩:=I.list h';rw[e]at e';cases e';rw[d]at d';injection d' with d1 _
 have:its=its':=by simpa using congrArg Array.toList d1
 subst this;exact r.inj r'
theorem Inv.tuple_inj(I:Inv X pins σ H s)(h:SqT X.K H a xs)(h':SqT X.K H a ys):xs=ys:=by
 obtain⟨its,r,⟨o,e,_,n,d⟩,_⟩:=I.tuple h;obtain⟨its',r',⟨o',e',_,n',d'⟩,_⟩:=I.tuple h';rw[e]at e';cases e';rw[d]at d';injection d' with d1 _
 have:its=its':=by simpa using congrArg Array.toList d1
 subst this;exact r.inj r'
end
abbrev Cx.wish(X:Cx)(E:ae->ag->Prop):Cx:={X with xe:=E}
abbrev Cx.nox(X:Cx):Cx:=X.wish λ_ _=>False
theorem Cx.Ok.wish{X:Cx}(ok:X.Ok)(E:ae->ag->Prop):(X.wish E).Ok:=
 ⟨ok.mod,ok.kind,ok.glob,ok.blt,ok.above,ok.inj,ok.has,ok.cab,ok.hd,ok.frames,ok.stk,ok.exf,ok.bs,ok.bsz,ok.noex,ok.exfs,ok.funs,ok.frf⟩
theorem Cx.Ok.unwish{X:Cx}{E:ae->ag->Prop}(ok:(X.wish E).Ok):X.Ok:=
 ⟨ok.mod,ok.kind,ok.glob,ok.blt,ok.above,ok.inj,ok.has,ok.cab,ok.hd,ok.frames,ok.stk,ok.exf,ok.bs,ok.bsz,ok.noex,ok.exfs,ok.funs,ok.frf⟩
section
variable{X:Cx}{pins:List (Addr×Obj)}{σ:St}{H:Hp}{s:ag}{E:ae->ag->Prop}
theorem Inv.wish(I:Inv X pins σ H s)(E:ae->ag->Prop):Inv (X.wish E) pins σ H s:=⟨I.ok.wish E,I.os,I.bare,I.base,I.loc,I.cell,I.free,I.freeC,I.pin,I.hok,I.len⟩
theorem Inv.unwish(I:Inv (X.wish E) pins σ H s):Inv X pins σ H s:=⟨I.ok.unwish,I.os,I.bare,I.base,I.loc,I.cell,I.free,I.freeC,I.pin,I.hok,I.len⟩
theorem SP.unwish{D:Ends}{f:Flow}{s':ag}(h:SP (X.wish E) pins D f s'):SP X pins D f s':=by
 cases f with
 |next=>obtain⟨σ',H',I,q⟩:=h;exact⟨σ',H',I.unwish,q⟩
 |brk=>obtain⟨σ',H',I,q⟩:=h;exact⟨σ',H',I.unwish,q⟩
 |cont=>obtain⟨σ',H',I,q⟩:=h;exact⟨σ',H',I.unwish,q⟩
 |ret u=>obtain⟨v,σ',H',I,r,q⟩:=h;exact⟨v,σ',H',I.unwish,r,q⟩
theorem PSs.nox{st:List Stmt}{t:TS}(h:PSs X.nox st t):PSs X st t:=λpins s σ H D I hw=>
 bh (h pins s σ H D (I.wish _) hw) (λ_ _ q=>q.unwish) λ_ _ z=>bV z
end
section
variable{X:Cx}{st:Stmt}{rest:List Stmt}{t u:TS}{e:Expr}{te:TE}{pos:Pos}
def Hl:TS:=λD σ H=>D.nx σ H
def OP(t u:TS):TS:=λD σ H=>t {D with nx:=u D} σ H
theorem Ff:PSs X [] Hl:=λ_ _ σ H _ I h=>iR ⟨σ,H,I,h⟩
theorem B6(h1:PS X st t)(h2:PSs X rest u):PSs X (st::rest) (OP t u):=by
 intro pins s σ H D I h;refine wpAny_execs_cons (fF (h1 pins s σ H {D with nx:=u D} I h) λf s1 q=> ?_);cases f with
 |next=>
  obtain⟨σ',H',I',q⟩:=q
  exact h2 pins s1 σ' H' D I' q
 |ret v=>exact q
 |brk=>exact q
 |cont=>exact q
theorem Fe(h1:PS X st t):PSs X [st] t:=by
 intro pins s σ H D I h;refine wpAny_execs_cons (fF (h1 pins s σ H D I h) λf s1 q=> ?_);cases f with
 |next=>exact iR q
 |ret v=>exact q
 |brk=>exact q
 |cont=>exact q
theorem Fg:PS X (.Pass pos) Hl:=λ_ _ σ H _ I h=>wpAny_Pass ⟨σ,H,I,h⟩
theorem Inv.quiet{pins:List (Addr×Obj)}{σ:St}{H:Hp}{s:ag}(I:Inv X pins σ H s):interactive X.env=false:=by simp[interactive,I.ok.kind]
def L5(te:TE):TS:=λD σ H=>te σ H λ_ H1=>D.nx σ H1
theorem Fh(he:PE X e te)(hs:autoParam (ir e none pos.line X.env=pure false) Qa):PS X (.Expr e pos) (L5 te):=by
 intro pins s σ H D I h;exact wpAny_Expr_any (fF (he pins s σ H _ I h) λv s1 ⟨x,H1,I1,r1,q1⟩=>⟨σ,H1,I1,q1⟩) I.quiet hs
def OQ(te:TE):TS:=λD σ H=>te σ H D.rt
theorem IV(he:PE X e te):PS X (.Return (some e) pos) (OQ te):=by
 intro pins s σ H D I h;exact wpAny_Return_some (fF (he pins s σ H _ I h) λv s1 ⟨x,H1,I1,r1,q1⟩=>⟨x,σ,H1,I1,r1,q1⟩)
def OV(c:TT)(t u:TS):TS:=λD σ H=>c σ H λb H1=>if b=true then t D σ H1 else u D σ H1
theorem Mw{c:Expr}{a b:List Stmt}{tc:TT}(hc:PT X c tc)(ha:PSs X a t)(hb:PSs X b u):PS X (.If c a b pos) (OV tc t u):=by
 intro pins s σ H D I h;refine wpAny_If (fF (hc pins s σ H _ I h) λd s1 hPl=> ?_);obtain⟨H1,I1,q1⟩:=hPl;cases d with
 |true=>exact ha pins s1 σ H1 D I1 q1
 |false=>exact hb pins s1 σ H1 D I1 q1
end
abbrev TG:=V->St->Hp->(St->Hp->Prop)->Prop
abbrev LC:=List V->St->Hp->(St->Hp->Prop)->Prop
def PG(X:Cx)(target:Expr)(t:TG):Prop:=
 ∀(pins:List (Addr×Obj)) (s:ag) (σ:St) (H:Hp) (v:V) (u:ae) (Q:St->Hp->Prop),Inv X pins σ H s->RelV v u->t v σ H Q->
  wpAny (aK X.prog X.w) X.A (assign target X.env u) (λ_ s'=>∃σ' H',Inv X pins σ' H' s'/\Q σ' H') X.xe s
def OC(X:Cx)(ts:List Expr)(t:LC):Prop:=
 ∀(pins:List (Addr×Obj)) (s:ag) (σ:St) (H:Hp) (vs:List V) (us:List ae) (Q:St->Hp->Prop),Inv X pins σ H s->Vals vs us->t vs σ H Q->
  wpAny (aK X.prog X.w) X.A (assignInOrder ((kW ts X.env).map (·.2)) us) (λ_ s'=>∃σ' H',Inv X pins σ' H' s'/\Q σ' H') X.xe s
abbrev Ey:=V->V->V->Hp->(Hp->Prop)->Prop
def PSet(X:Cx)(t:Ey):Prop:=
 ∀(pins:List (Addr×Obj)) (s:ag) (σ:St) (H:Hp) (o i v:V) (ov iv u:ae) (Q:Hp->Prop),Inv X pins σ H s->RelV o ov->RelV i iv->RelV v u->t o i v H Q->
  wpAny (aK X.prog X.w) X.A (setItem ov iv u) (λ_ s'=>∃H',Inv X pins σ H' s'/\Q H') X.xe s
abbrev OA:=V->V->Hp->VK->Prop
def OB(X:Cx)(op:Operator)(t:OA):Prop:=
 ∀(pins:List (Addr×Obj)) (s:ag) (σ:St) (H:Hp) (x y:V) (v u:ae) (Q:VK),Inv X pins σ H s->RelV x v->RelV y u->t x y H Q->
  wpAny (aK X.prog X.w) X.A (inplaceOp op v u) (EP X pins σ Q) X.xe s
section
variable{X:Cx}{pos:Pos}
def rk(i:Nat):TG:=λv σ H Q=>Q (σ.set i (some v)) H
theorem lQ{i:Nat}{x:Str}(hN:X.N.Nodup)(hi:X.N[i]? =some x)(hx:zC X.env.scope x)(hf:autoParam (X.fn x=true\/X.env.scope.names.lookup x=some .local) Qg):PG X (.Name x pos) (rk i):=by
 intro pins s σ H v u Q I r h;exact wpAny_assign_Name (j5 I hN hi hx r (λs' I'=>⟨_,H,I',h⟩) hf)
def NT:LC:=λvs σ H Q=>vs=[]/\Q σ H
def DW(t:TG)(u:LC):LC:=λvs σ H Q=>∃v r,vs=v::r/\t v σ H λσ' H'=>u r σ' H' Q
theorem yR:OC X [] NT:=by
 intro pins s σ H vs us Q I r h;obtain⟨e,h⟩:=h;subst e;cases r;exact assignInOrder_nil ⟨σ,H,I,h⟩
theorem nN{e:Expr}{es:List Expr}{t:TG}{u:LC}(h1:PG X e t)(h2:OC X es u)
  (hs:autoParam ((kW (e::es) X.env).map (·.2)=assign e X.env::(kW es X.env).map (·.2)) Qa):OC X (e::es) (DW t u):=by
 intro pins s σ H vs us Q I r h;obtain⟨v,vr,e1,h⟩:=h;subst e1;cases r with
 |cons r rr=>
  rw[hs]
  refine assignInOrder_cons (fF (h1 pins s σ H _ _ _ I r h) λ_ s1 hPl=> ?_)
  obtain⟨σ1,H1,I1,q1⟩:=hPl
  exact h2 pins s1 σ1 H1 _ _ Q I1 rr q1
def NR(K:PySem.W.Frag)(n:Nat)(t:LC):TG:=λv σ H Q=>∃a xs,v= .ref a/\SqT K H a xs/\xs.length=n/\t xs σ H Q
theorem Cc{es:List Expr}{k:Nat}{t:LC}{n:Nat}(hc:X.calm=true)(h:OC X es t)
  (hn:autoParam ((kW es X.env).length=n) Qa) (hst:autoParam ((kW es X.env).findIdx? (·.1)=none) Qa):PG X (.Tuple es k pos) (NR X.K n t):=by
 intro pins s σ H v u Q I r hw;obtain⟨a,xs,e1,hq,hl,hw⟩:=hw;subst e1;cases r;obtain⟨its,rv,ht,hz⟩:=I.tuple hq;refine assign_Tuple_tuple (I.ok.hd hc) ht (by simp[hn,<-hl,rv.length]) hst λh' hx=> ?_;have I1:Inv X pins σ H {s with heap:=h'}:=I.kept (t':=s.toks) λb o e=>hx b o (aN (aA e)) e;exact h pins _ σ H xs _ Q I1 (by simpa using rv) hw
def PD(to ti:TE)(t:Ey):TG:=λv σ H Q=>to σ H λo H1=>ti σ H1 λi H2=>t o i v H2 λH3=>Q σ H3
theorem Ja{o i:Expr}{to ti:TE}{t:Ey}(ho:PE X o to)(hi:PE X i ti)(hs:PSet X t)
  (ha:autoParam (∀v,assign (.Subscript o i pos) X.env v=(do
   let ov <-holding [v] (eval o X.env)
   let iv <-holding [v,ov] (eval i X.env)
   standAt pos
   holding [v,ov,iv] (setItem ov iv v)
   release [v,ov,iv] [])) Qe):PG X (.Subscript o i pos) (PD to ti t):=by
 intro pins s σ H v u Q I r h;rw[ha];refine aa (b6 (fF (ho pins s σ H _ I h) λov s1 hPl=> ?_));obtain⟨x,H1,I1,r1,q1⟩:=hPl;refine aa (b6 (fF (hi pins s1 σ H1 _ I1 q1) λiv s2 hPl=> ?_));obtain⟨y,H2,I2,r2,q2⟩:=hPl;refine aa (wpAny_standAt (aa (b6 (fF (hs pins s2 σ H2 x y v ov iv u _ I2 r1 r2 r q2) λ_ s3 hPl=> ?_))));obtain⟨H3,I3,q3⟩:=hPl;exact wpAny_release ⟨σ,H3,I3,q3⟩
def Iu(te:TE)(g:TG):TS:=λD σ H=>te σ H λx H1=>g x σ H1 D.nx
theorem IZ{tg e:Expr}{te:TE}{g:TG}(he:PE X e te)(hg:PG X tg g)(hs:autoParam (swapsWithSole [tg] e pos.line X.env=pure false) Qa)(hw:autoParam (swappedStores [tg] e X.env=pure none) Qa)
  (h1:autoParam ((kW [tg] X.env).map (·.2)=[assign tg X.env]) Qa):PS X (.Assign [tg] e pos) (Iu te g):=by
 intro pins s σ H D I h;refine wpAny_Assign_stores (fF (he pins s σ H _ I h) λv s1 hPl=> ?_) hs hw;obtain⟨x,H1,I1,r1,q1⟩:=hPl;rw[h1];exact fF (hg pins s1 σ H1 x v _ I1 r1 q1) λ_ s2 q=>q
theorem IU{i:Nat}{x:Str}{e:Expr}{te:TE}{pos':Pos}(hN:X.N.Nodup)(hi:X.N[i]? =some x)(hx:zC X.env.scope x)(he:PE X e te)(hs:autoParam (ir e (some (.Name x pos')) pos.line X.env=pure false) Qa)(hf:autoParam (X.fn x=true\/X.env.scope.names.lookup x=some .local) Qg):
  PS X (.Assign [.Name x pos'] e pos) (Iu te (rk i)):=by
 intro pins s σ H D I h;refine wpAny_Assign_Name (fF (he pins s σ H _ I h) λv s1 hPl=> ?_) hs;obtain⟨y,H1,I1,r1,q1⟩:=hPl;exact j5 I1 hN hi hx r1 (λs2 I2=>⟨_,H1,I2,q1⟩) hf
def O0(i:Nat)(te:TE)(ti:OA):TS:=λD σ H=>∃x,σ[i]? =some (some x)/\te σ H λy H1=>ti x y H1 λz H2=>D.nx (σ.set i (some z)) H2
theorem IY{i:Nat}{x:Str}{e:Expr}{te:TE}{op:Operator}{ti:OA}{pos':Pos}(hN:X.N.Nodup)(hi:X.N[i]? =some x)(hx:zC X.env.scope x)(he:PE X e te)(ho:OB X op ti)(hf:autoParam (X.fn x=true\/X.env.scope.names.lookup x=some .local) Qg):
  PS X (.AugAssign (.Name x pos') op e pos) (O0 i te ti):=by
 intro pins s σ H D I h;obtain⟨v,e1,h⟩:=h;obtain⟨m,hn,hl⟩:=I.loc;have vis:Oz X.env.scope x:=by rcases hx with k|k;exact .inl k;exact .inr (.inl k)
 obtain⟨u,r,l⟩:=hl i x v hi e1 vis;refine wpAny_AugAssign_Name ?_;have go:wpAny (aK X.prog X.w) X.A (eval e X.env) (λw s₂=>wpAny (aK X.prog X.w) X.A (inplaceOp op u w) (λr s₃=>wpAny (aK X.prog X.w) X.A (storeName X.env x r) (λ_=>SP X pins D .next) X.xe s₃) X.xe s₂) X.xe s:=by
  refine fF (he pins s σ H _ I h) λw s1 hPl=> ?_;obtain⟨y,H1,I1,r1,q1⟩:=hPl;refine fF (ho pins s1 σ H1 v y u w _ I1 r r1 q1) λz s2 hPl=> ?_;obtain⟨zv,H2,I2,r2,q2⟩:=hPl;exact j5 I2 hN hi hx r2 (λs3 I3=>⟨_,H2,I3,q2⟩) hf
 rcases l with⟨hk,hm⟩|⟨hk,c,hc,hcell⟩
 ·exact wpAny_loadName_local I.ok.kind hk hn hm go
 ·rcases hk with hk|hk
  ·exact wpAny_loadName_cell I.ok.kind hk hc hcell go
  ·rcases hx with k|k
   ·have:X.env.scope.names.lookup x=some .free:=hk;rw[k]at this;cases this
   ·have:X.env.scope.names.lookup x=some .free:=hk;rw[k]at this;cases this
def ipI(f:Int->Int->Int):OA:=λx y H Q=>∃i j,x= .int i/\y= .int j/\Q (.int (f i j)) H
theorem K7:OB X .Add (ipI λi j=>i+j):=by
 intro pins s σ H x y v u Q I r1 r2 h;obtain⟨i,j,e1,e2,q⟩:=h;subst e1;subst e2;obtain⟨t,rfl⟩:=r1;obtain⟨t',rfl⟩:=r2;exact iadd_int ⟨.int _,H,I.tok _,⟨_,rfl⟩,q⟩
end
section
variable{X:Cx}{pos:Pos}
def Io(c:TT)(tb:TS):TS:=λD σ H=>∃W:Nat->St->Hp->Prop,(∃m,W m σ H)/\∀m σ H,W m σ H->
 c σ H λb H1=>if b=true then∃N:St->Hp->Prop,(∀σ' H',N σ' H'->∃m',m'<m/\W m' σ' H')/\tb {D with nx:=N,ct:=N,bk:=D.nx} σ H1 else D.nx σ H1
theorem B7{c:Expr}{body:List Stmt}{tc:TT}{tb:TS}(hp:PassesOwn (aK X.prog X.w) X.A X.env X.xe)(hc:PT X c tc)(hb:PSs X body tb):PS X (.While c body [] pos) (Io tc tb):=by
 intro pins s σ H D I h;obtain⟨W,⟨m0,w0⟩,turn⟩:=h;refine wpAny_While (codeAny_whileLoop (λn s'=>∃σ' H',Inv X pins σ' H' s'/\W n σ' H') ?_ m0 ⟨σ,H,I,w0⟩);rintro n s1 ⟨σ1,H1,I1,w1⟩;refine gJ hp (fF (hc pins s1 σ1 H1 _ I1 (turn n σ1 H1 w1)) λb s2 hPl=> ?_);obtain⟨H2,I2,q2⟩:=hPl;cases b with
 |true=>
  obtain⟨N,hN,q2⟩:=q2
  rw[if_pos rfl]
  refine gJ hp (fF (hb pins s2 σ1 H2 _ I2 q2) λf s3 q3=> ?_)
  cases f with
  |next=>
   obtain⟨σ3,H3,I3,n3⟩:=q3
   obtain⟨m',hm,w3⟩:=hN σ3 H3 n3
   exact⟨m',hm,σ3,H3,I3,w3⟩
  |cont=>
   obtain⟨σ3,H3,I3,n3⟩:=q3
   obtain⟨m',hm,w3⟩:=hN σ3 H3 n3
   exact⟨m',hm,σ3,H3,I3,w3⟩
  |brk=>exact q3
  |ret v=>exact q3
 |false=>
  rw[if_neg bR]
  exact iR ⟨σ1,H2,I2,q2⟩
end
structure It where
 go:Nat->Hp->Prop
 yld:Nat->Hp->V->Hp->Prop
 stop:Nat->Hp->Prop
def pP(X:Cx)(pins:List (Addr×Obj))(H:Hp)(b:Addr):Prop:=
 H b=none/\b≠X.env.locals/\b∉X.fs/\(b∈X.ex\/X.s₀.heap.objs.size<=b)/\(∀x c,X.env.cells.lookup x=some c->c≠b)/\∀p∈X.pn++pins,p.1≠b
theorem Inv.fpOk{X:Cx}{pins:List (Addr×Obj)}{σ:St}{H H':Hp}{s:ag}{b:Addr}(I:Inv X pins σ H s)(hb:s.heap.objs.size<=b)(hn:H' b=none):pP X pins H' b:=by
 refine⟨hn,ie (aT I.lt hb),I.nofs hb,.inr (bj I.sz hb),λx c e z=> ?_,λp hp z=> ?_⟩
 ·obtain⟨v,q⟩:=I.cell x c e;exact absurd (aT q.lt (by rw[z];exact hb)) (dJ _)
 ·exact absurd (aT (aA (I.pin p hp).1) (by rw[z];exact hb)) (dJ _)
structure wj(P:aG)(w:aX)(K:PySem.W.Frag)(tg:Expr)(J:It)(fp:List Addr)(it:Addr)(tn:Nat->Heap->Prop):Prop where
 mem:it∈fp
 obj:∀i h,tn i h->∀b∈fp,∃o,h.get? b=some o/\∀v,o.data≠ .cell v
 keep:∀i h h',tn i h->(∀b∈fp,∀o,h.get? b=some o->h'.get? b=some o)->tn i h'
 item:∀(X:Cx),X.prog=P->X.w=w->X.K=K->X.calm=true->∀(i:Nat) (pins:List (Addr×Obj)) (s:ag) (σ:St) (H:Hp) (E:ae->ag->Prop),Inv X pins σ H s->(∀b∈fp,pP X pins H b)->tn i s.heap->J.go i H->
  wpAny (aK P w) X.A (pyNext (.ref it)) (λr s1=>∃u,r=some u/\
   wpAny (aK P w) X.A (j8 tg (.ref it) u) (λ_ s2=>∃x H',Inv X pins σ H' s2/\RelV x u/\J.yld i H x H'/\tn (i+1) s2.heap/\∀b∈fp,H' b=none) E s1) E s
 done:∀(X:Cx),X.prog=P->X.w=w->X.K=K->X.calm=true->∀(i:Nat) (pins:List (Addr×Obj)) (s:ag) (σ:St) (H:Hp) (E:ae->ag->Prop),Inv X pins σ H s->(∀b∈fp,pP X pins H b)->tn i s.heap->J.stop i H->
  wpAny (aK P w) X.A (pyNext (.ref it)) (λr s1=>r=none/\Inv X pins σ H s1) E s
 self:∀(A:Around) (i:Nat) (s:ag) (Q:ae->ag->Prop) (E:ae->ag->Prop),tn i s.heap->Q (.ref it) s->wpAny (aK P w) A (pyIter (.ref it)) Q E s
abbrev TI:=St->Hp->(It->Hp->Prop)->Prop
def PZ(X:Cx)(pins:List (Addr×Obj))(σ:St)(tg:Expr)(R:It->Hp->Prop)(itv:ae)(s2:ag):Prop:=
 ∃(it:Addr) (fp:List Addr) (tn:Nat->Heap->Prop) (J:It) (H':Hp),itv= .ref it/\Inv X pins σ H' s2/\wj X.prog X.w X.K tg J fp it tn/\tn 0 s2.heap/\(∀b∈fp,pP X pins H' b)/\R J H'
def PI(X:Cx)(tg iter:Expr)(wi:TI):Prop:=
 ∀(pins:List (Addr×Obj)) (s:ag) (σ:St) (H:Hp) (R:It->Hp->Prop),Inv X pins σ H s->wi σ H R->
  wpAny (aK X.prog X.w) X.A (eval iter X.env) (λv s1=>wpAny (aK X.prog X.w) X.A (pyIter v) (PZ X pins σ tg R) X.xe s1) X.xe s
theorem DS{M:Model}{A:Around}{E:ae->ag->Prop}{s:ag}{tg:Expr}{it:Addr}{u:ae}{o:Obj}{n:String}{vs:Array ae}{Q:Unit->ag->Prop}(ho:s.heap.get? it=some o)(hc:o.cls= .type n)(hd:o.data= .fields vs)
  (hn:["enumerate", "zip", "dict_itemiterator", "dict_reverseitemiterator", "odict_iterator", "itertools.zip_longest", "itertools.pairwise"].contains n=false) (hQ:Q () s):wpAny M A (j8 tg (.ref it) u) Q E s:=by
 unfold j8;cases tg<;>first
  |exact ah hQ
  |(cases u<;>first
    |exact ah hQ
    |(refine aa (wpAny_load ho ?_)
      rw[hc,hd]
      show wpAny M A (if(["enumerate", "zip", "dict_itemiterator", "dict_reverseitemiterator", "odict_iterator", "itertools.zip_longest", "itertools.pairwise"].contains n&&vs[0]? ==some (jD _))=true then _ else _) Q E s
      rw[if_neg (by intro h;rw[hn,bH]at h;cases h)]
      exact ah hQ))
def Itl(K:PySem.W.Frag)(a:Addr):It:=
 ⟨λi H=>∃xs x,SqL K H a xs/\xs[i]? =some x,λi H x H'=>H'=H/\∀xs,SqL K H a xs->xs[i]? =some x,λi H=>∃xs,SqL K H a xs/\xs.length<=i⟩
def Itt(K:PySem.W.Frag)(a:Addr):It:=
 ⟨λi H=>∃xs x,SqT K H a xs/\xs[i]? =some x,λi H x H'=>H'=H/\∀xs,SqT K H a xs->xs[i]? =some x,λi H=>∃xs,SqT K H a xs/\xs.length<=i⟩
def OH(lo:Int)(n:Nat):It:=⟨λi _=>i<n,λi H x H'=>H'=H/\x= .int (lo+i),λi _=>n<=i⟩
theorem zJ{P:aG}{w:aX}{K:PySem.W.Frag}{tg:Expr}(a it:Addr):wj P w K tg (Itl K a) [it] it (λi h=>h.IsListIter it a i) where
 mem:=by simp
 obj:=λi h st b hb=>by
  have e:b=it:=by simpa using hb
  subst e;obtain⟨o,e,c,d⟩:=st;exact⟨o,e,λv z=>by rw[d]at z;cases z⟩
 keep:=λi h h' st k=>st.at λo e=>k it (by simp) o e
 item:=by
  intro X hP hw hK hc i pins s σ H E I hf st hg;subst hP hw hK;obtain⟨xs,x,hq,hx⟩:=hg;obtain⟨its,rv,p,hz⟩:=I.list hq;obtain⟨u,hu,ru⟩:=rv.get hx;obtain⟨f0,f1,f2,f3,f4,f5⟩:=hf it (by simp);refine wpAny_pyNext_list_item st p.isList (x:=u) (by simpa using hu) λh' st' sb=> ?_;have I1:Inv X pins σ H {s with heap:=h'}:=I.turned (t':=s.toks) (λb o hb e=>(sb.2 b hb).trans e) f0 f1 f3 f4 f5;obtain⟨o,e,c,d⟩:=id st';exact⟨u,rfl,DS (s:={s with heap:=h'}) e c d (by decide) ⟨x,H,I1,ru,⟨rfl,λys hy=>by rw[I.list_inj hy hq];exact hx⟩,st',λb hb=>(hf b hb).1⟩⟩
 done:=by
  intro X hP hw hK hc i pins s σ H E I hf st hg;subst hP hw hK;obtain⟨xs,hq,hx⟩:=hg;obtain⟨its,rv,p,hz⟩:=I.list hq;obtain⟨f0,f1,f2,f3,f4,f5⟩:=hf it (by simp);have hl:=rv.length;exact wpAny_pyNext_list_end (I.ok.hd hc) st p.isList (by simp;ac_nf) λh' eb=>⟨rfl,I.turned (t':=s.toks) (λb o hb e=>eb b o hb e) f0 f1 f3 f4 f5⟩
 self:=λ_ _ _ _ _ st h=>wpAny_pyIter_listiter st h
theorem wJ{P:aG}{w:aX}{K:PySem.W.Frag}{tg:Expr}(a it:Addr):wj P w K tg (Itt K a) [it] it (λi h=>h.IsTupleIter it a i) where
 mem:=by simp
 obj:=λi h st b hb=>by
  have e:b=it:=by simpa using hb
  subst e;obtain⟨o,e,c,d⟩:=st;exact⟨o,e,λv z=>by rw[d]at z;cases z⟩
 keep:=λi h h' st k=>st.at λo e=>k it (by simp) o e
 item:=by
  intro X hP hw hK hc i pins s σ H E I hf st hg;subst hP hw hK;obtain⟨xs,x,hq,hx⟩:=hg;obtain⟨its,rv,p,hz⟩:=I.tuple hq;obtain⟨u,hu,ru⟩:=rv.get hx;obtain⟨f0,f1,f2,f3,f4,f5⟩:=hf it (by simp);refine wpAny_pyNext_tuple_item st (show s.heap.IsTuple a its.toArray from p) (x:=u) (by simpa using hu) λh' st' sb=> ?_;have I1:Inv X pins σ H {s with heap:=h'}:=I.turned (t':=s.toks) (λb o hb e=>(sb.2 b hb).trans e) f0 f1 f3 f4 f5;obtain⟨o,e,c,d⟩:=id st';exact⟨u,rfl,DS (s:={s with heap:=h'}) e c d (by decide) ⟨x,H,I1,ru,⟨rfl,λys hy=>by rw[I.tuple_inj hy hq];exact hx⟩,st',λb hb=>(hf b hb).1⟩⟩
 done:=by
  intro X hP hw hK hc i pins s σ H E I hf st hg;subst hP hw hK;obtain⟨xs,hq,hx⟩:=hg;obtain⟨its,rv,p,hz⟩:=I.tuple hq;obtain⟨f0,f1,f2,f3,f4,f5⟩:=hf it (by simp);have hl:=rv.length;exact wpAny_pyNext_tuple_end (I.ok.hd hc) st (show s.heap.IsTuple a its.toArray from p) (by simp;ac_nf) λh' eb=>⟨rfl,I.turned (t':=s.toks) (λb o hb e=>eb b o hb e) f0 f1 f3 f4 f5⟩
 self:=λ_ _ _ _ _ st h=>wpAny_pyIter_tupleiter st h
theorem wK{P:aG}{w:aX}{K:PySem.W.Frag}{tg:Expr}(it:Addr)(lo:Int)(n:Nat):wj P w K tg (OH lo n) [it] it (λi h=>IsRangeIter h it (lo+(i:Nat)*1) ((n:Int)-(i:Nat)) 1) where
 mem:=by simp
 obj:=λi h st b hb=>by
  have e:b=it:=by simpa using hb
  subst e;exact⟨_,st,λv z=>by
   have z':eu _=Data.cell v:=z;cases z'⟩
 keep:=λi h h' st k=>k it (by simp) _ st
 item:=by
  intro X hP hw hK hc i pins s σ H E I hf st hg;subst hP hw hK;obtain⟨f0,f1,f2,f3,f4,f5⟩:=hf it (by simp);have W:=Walks.range (prog:=X.prog) (w:=X.w) (I.ok.hd hc) it lo 1 n;refine W.item i s _ _ hg st λv h' tk hv st' kk=> ?_;obtain⟨t,rfl⟩:=hv;have I1:Inv X pins σ H {s with heap:=h',toks:=tk}:=I.turned (λb o hb e=>kk b o (by simpa using hb) e) f0 f1 f3 f4 f5;refine⟨_,rfl,DS (s:={s with heap:=h',toks:=tk}) (n:= "range_iterator") st' rfl rfl (by decide) ⟨.int (lo+i),H,I1,⟨t,?_⟩,⟨rfl,rfl⟩,st',λb hb=>(hf b hb).1⟩⟩;rw[Int.mul_one]
 done:=by
  intro X hP hw hK hc i pins s σ H E I hf st hg;subst hP hw hK;obtain⟨f0,f1,f2,f3,f4,f5⟩:=hf it (by simp);exact wpAny_pyNext_range_end (I.ok.hd hc) st (by have:n<=i:=hg;ac_nf) λh' eb=>⟨rfl,I.turned (t':=s.toks) (λb o hb e=>eb b o hb e) f0 f1 f3 f4 f5⟩
 self:=λ_ _ _ _ _ st h=>wpAny_pyIter_rangeiter st h
section
variable{X:Cx}{tg:Expr}
theorem B3{pins:List (Addr×Obj)}{σ:St}{H:Hp}{s:ag}{R:It->Hp->Prop}{E:ae->ag->Prop}{lo hi:Int}{t u v:Tok}{tk:Nat}(I:Inv X pins σ H s)(h1: -(2^62)<=lo)(h2:lo<2^62)(h3: -(2^62)<=hi)(h4:hi<2^62)
  (q:R (OH lo (hi-lo).toNat) H):wpAny (aK X.prog X.w) X.A (pyIter (.ref s.heap.objs.size)) (PZ X pins σ tg R) E {s with heap:=s.heap.push {cls:= .type "range",data:= .fields #[.int lo t,.int hi u,.int 1 v]},toks:=tk}:=by
 refine wpAny_pyIter_range (IsRange.new ..) (small_one h1 h2 h3 h4) ?_;have I1:Inv X pins σ H {s with heap:=s.heap.push {cls:= .type "range",data:= .fields #[.int lo t,.int hi u,.int 1 v]},toks:=tk}:=I.kept λb o e=>ai _ e;refine⟨(s.heap.push {cls:= .type "range",data:= .fields #[.int lo t,.int hi u,.int 1 v]}).objs.size,[(s.heap.push {cls:= .type "range",data:= .fields #[.int lo t,.int hi u,.int 1 v]}).objs.size],_,_,H,rfl,
  I1.kept (t':=tk) λb o e=>ai _ e,wK _ lo (hi-lo).toNat,?_,λb hb=> ?_,q⟩
 ·have e1:lo+((0:Nat):Int)*1=lo:=by simp
  have e2:(((hi-lo).toNat:Nat):Int)-((0:Nat):Int)=qk lo hi 1:=by rw[rangeSize_one];split<;>ac_nf
  show IsRangeIter _ _ (lo+((0:Nat):Int)*1) ((((hi-lo).toNat:Nat):Int)-((0:Nat):Int)) 1;rw[e1,e2];exact aF _ rfl
 ·have e:b=(s.heap.push {cls:= .type "range",data:= .fields #[.int lo t,.int hi u,.int 1 v]}).objs.size:=by simpa using hb
  subst e;exact I1.fpOk (ap _) (I1.hok.fresh (ap _))
def NP(ta:TA):TI:=λσ H R=>ta σ H λvs H1=>∃j:Int,vs=[.int j]/\-(2^62)<=j/\j<2^62/\R (OH 0 j.toNat) H1
theorem zW{a:Expr}{ta:TA}{p pos:Pos}(hg:Gl X "range")(hm:X.mg "range" =none)(ha:PA X [a] ta)(hs:autoParam (ao [a] X.env=[(false,eval a X.env)]) Qa):PI X tg (.Call (.Name "range" p) [a] [] pos) (NP ta):=by
 intro pins s σ H R I h;refine Call_ (mS I hg hm boot_range (fM (fF (ha pos pins s σ H _ I h) λus s1 hPl=> ?_) hs rfl));obtain⟨vs,H1,I1,r1,q1⟩:=hPl;obtain⟨j,e,q1,q2,q⟩:=q1;subst e;cases r1 with
 |cons r rr=>
  cases rr
  obtain⟨t,rfl⟩:=r
  exact call_range_1 (B3 I1 (by ac_nf) (by ac_nf) q1 q2 (by simpa using q))
def OW(wi:TI)(g:TG)(tb:TS):TS:=λD σ H=>wi σ H λJ H1=>∃W:Nat->Nat->St->Hp->Prop,(∃m,W 0 m σ H1)/\∀i m σ H,W i m σ H->
 (J.stop i H/\D.nx σ H)\/(J.go i H/\∃N:St->Hp->Prop,(∀σ' H',N σ' H'->∃m',m'<m/\W (i+1) m' σ' H')/\∀x H',J.yld i H x H'->g x σ H' λσ2 H2=>tb {D with nx:=N,ct:=N,bk:=D.nx} σ2 H2)
def oM(fp:List Addr)(h:Heap):List (Addr×Obj):=fp.filterMap λb=>(h.get? b).map λo=>(b,o)
theorem iJ{fp:List Addr}{h:Heap}{b:Addr}{o:Obj}(hb:b∈fp)(e:h.get? b=some o):(b,o)∈oM fp h:=jY.mpr ⟨b,hb,by rw[e];rfl⟩
theorem Af{fp:List Addr}{h:Heap}{p:Addr×Obj}(hp:p∈oM fp h):p.1∈fp/\h.get? p.1=some p.2:=by
 obtain⟨b,hb,e⟩:=jY.mp hp;cases q:h.get? b with
 |none=>rw[q]at e;cases e
 |some o=>
  rw[q]at e
  have e':(b,o)=p:=bt e
  subst e'
  exact⟨hb,q⟩
theorem Inv.pinned{pins:List (Addr×Obj)}{σ:St}{H:Hp}{s:ag}{fp:List Addr}(I:Inv X pins σ H s)(hf:∀b∈fp,pP X pins H b)(ho:∀b∈fp,∃o,s.heap.get? b=some o/\∀v,o.data≠ .cell v):Inv X (pins++oM fp s.heap) σ H s:=
 I.pins_of λp hp=>(aH.mp hp).elim (λz=>I.pin p (a8 _ z)) λz=>by
  obtain⟨hb,e⟩:=Af z;obtain⟨f0,f1,f2,_⟩:=hf p.1 hb;obtain⟨o,e',d⟩:=ho p.1 hb;rw[e]at e';cases e';exact⟨e,f0,f1,f2,d⟩
theorem Inv.unpinned{pins pl:List (Addr×Obj)}{σ:St}{H:Hp}{s:ag}(I:Inv X (pins++pl) σ H s):Inv X pins σ H s:=I.pins_of λp hp=>I.pin p (a8 _ (gP _ hp))
theorem IW{iter:Expr}{body:List Stmt}{wi:TI}{g:TG}{tb:TS}{pos:Pos}(hp:PassesOwn (aK X.prog X.w) X.A X.env X.xe)(hc:X.calm=true)(hi:PI X tg iter wi)(hg:PG X tg g)(hb:PSs X body tb)
  (hs:autoParam (∀x,eN iter X.env x=pure x) Qe):PS X (.For tg iter body [] pos) (OW wi g tb):=by
 intro pins s σ H D I h;refine wpAny_For (fF (hi pins s σ H _ I h) λv s1 h1=>fF h1 λitv s2 h2=> ?_) hs;obtain⟨it,fp,tn,J,H2,e,I2,T,st2,f2,W,⟨m0,w0⟩,turn⟩:=h2;subst e
 -- what stays true of the iterator's objects through the loop
 have stat:∀{H':Hp},(∀b∈fp,H' b=none)->∀b∈fp,pP X pins H' b:=λhn b hb=>⟨hn b hb,(f2 b hb).2⟩;refine codeAny_forLoop_any (λn s'=>∃i σ' H',Inv X pins σ' H' s'/\tn i s'.heap/\(∀b∈fp,H' b=none)/\W i n σ' H') ?_ m0 ⟨0,σ,H2,I2,st2,λb hb=>(f2 b hb).1,w0⟩;rintro n s3 ⟨i,σ3,H3,I3,st3,fr3,w3⟩;rcases turn i n σ3 H3 w3 with⟨stop,qn⟩|⟨go,N,hN,step⟩
 ·refine gJ hp (fF (T.done X rfl rfl rfl hc i pins s3 σ3 H3 X.xe I3 (stat fr3) st3 stop) λr s4 hPl=> ?_);obtain⟨hr,I4⟩:=hPl;subst hr;exact iR ⟨σ3,H3,I4,qn⟩
 ·refine gJ hp (fF (T.item X rfl rfl rfl hc i pins s3 σ3 H3 X.xe I3 (stat fr3) st3 go) λr s4 hPl=> ?_);obtain⟨u,hr,h4⟩:=hPl;subst hr;refine gJ hp (fF h4 λ_ s5 hPl=> ?_);obtain⟨x,H5,I5,r5,y5,st5,fr5⟩:=hPl;have I5':=I5.pinned (stat fr5) (T.obj _ _ st5);refine gJ hp (fF (hg _ s5 σ3 H5 x u _ I5' r5 (step x H5 y5)) λ_ s6 hPl=> ?_);obtain⟨σ6,H6,I6,q6⟩:=hPl;refine gJ hp (fF (hb _ s6 σ6 H6 _ I6 q6) λf s7 q7=> ?_);have again:∀{σ7:St} {H7:Hp},Inv X (pins++oM fp s5.heap) σ7 H7 s7->N σ7 H7->∃m,m<n/\∃i σ' H',Inv X pins σ' H' s7/\tn i s7.heap/\(∀b∈fp,H' b=none)/\W i m σ' H':=fun{σ7 H7} I7 n7=>by
   obtain⟨m',hm,w7⟩:=hN σ7 H7 n7;refine⟨m',hm,i+1,σ7,H7,I7.unpinned,T.keep _ _ _ st5 λb hb o e=>(I7.pin (b,o) (a8 _ (a8 _ (iJ hb e)))).1,λb hb=> ?_,w7⟩;obtain⟨o,e,d⟩:=T.obj _ _ st5 b hb;exact(I7.pin (b,o) (a8 _ (a8 _ (iJ hb e)))).2.1
  cases f with
  |next=>obtain⟨σ7,H7,I7,n7⟩:=q7;exact again I7 n7
  |cont=>obtain⟨σ7,H7,I7,n7⟩:=q7;exact again I7 n7
  |brk=>obtain⟨σ7,H7,I7,q7⟩:=q7;exact⟨σ7,H7,I7.unpinned,q7⟩
  |ret v=>obtain⟨x7,σ7,H7,I7,r7,q7⟩:=q7;exact⟨x7,σ7,H7,I7.unpinned,r7,q7⟩
end
abbrev R2:=V->V->Hp->VK->Prop
def ik(X:Cx)(f:ae->ae->Sem ae)(r:R2):Prop:=
 ∀(pins:List (Addr×Obj)) (s:ag) (σ:St) (H:Hp) (x y:V) (v u:ae) (Q:VK),Inv X pins σ H s->RelV x v->RelV y u->r x y H Q->
  wpAny (aK X.prog X.w) X.A (f v u) (EP X pins σ Q) X.xe s
def Oi(X:Cx)(f:ae->Sem ae)(r:V->Hp->VK->Prop):Prop:=
 ∀(pins:List (Addr×Obj)) (s:ag) (σ:St) (H:Hp) (x:V) (v:ae) (Q:VK),Inv X pins σ H s->RelV x v->r x H Q->
  wpAny (aK X.prog X.w) X.A (f v) (EP X pins σ Q) X.xe s
def eT(X:Cx)(f:ae)(r:List V->Hp->VK->Prop):Prop:=
 ∀(pins:List (Addr×Obj)) (s:ag) (σ:St) (H:Hp) (xs:List V) (us:List ae) (Q:VK),Inv X pins σ H s->Vals xs us->r xs H Q->
  wpAny (aK X.prog X.w) X.A (call f us) (EP X pins σ Q) X.xe s
def LX(r:R2)(ta tb:TE):TE:=λσ H Q=>ta σ H λx H1=>tb σ H1 λy H2=>r x y H2 Q
def tUn(r:V->Hp->VK->Prop)(ta:TE):TE:=λσ H Q=>ta σ H λx H1=>r x H1 Q
def rI(C:Int->Int->Prop)(g:Int->Int->V):R2:=λx y H Q=>∃i j,x= .int i/\y= .int j/\C i j/\Q (g i j) H
def HC(g:Int->Int->V):R2:=λx y H Q=>∃i j,x= .int i/\y= .int j/\Q (g i j) H
def rU(g:Int->V):V->Hp->VK->Prop:=λx H Q=>∃i,x= .int i/\Q (g i) H
section
variable{X:Cx}{a b:Expr}{ta tb:TE}{pos:Pos}
theorem Lz(ha:PE X a ta)(hb:PE X b tb){pins:List (Addr×Obj)}{s:ag}{σ:St}{H:Hp}{R:V->V->Hp->Prop}(I:Inv X pins σ H s)
  (h:ta σ H λx H1=>tb σ H1 λy H2=>R x y H2) {Q:ae->ag->Prop} {f:ae->ae->Sem ae}
  (hf:∀v u s2 x y H2,Inv X pins σ H2 s2->RelV x v->RelV y u->R x y H2->wpAny (aK X.prog X.w) X.A (f v u) Q X.xe s2):
  wpAny (aK X.prog X.w) X.A (eval a X.env) (λv s₁=>wpAny (aK X.prog X.w) X.A (eval b X.env) (λu s₂=>wpAny (aK X.prog X.w) X.A (f v u) Q X.xe s₂) X.xe s₁) X.xe s:=by
 refine fF (ha pins s σ H _ I h) λv s1 hPl=> ?_;obtain⟨x,H1,I1,r1,q1⟩:=hPl;refine fF (hb pins s1 σ H1 _ I1 q1) λu s2 hPl=> ?_;obtain⟨y,H2,I2,r2,q2⟩:=hPl;exact hf v u s2 x y H2 I2 r1 r2 q2
theorem MB{op:Operator}{r:R2}(ho:ik X (dC op) r)(ha:PE X a ta)(hb:PE X b tb):PE X (.BinOp a op b pos) (LX r ta tb):=by
 intro pins s σ H Q I h;exact wpAny_BinOp (Lz ha hb I h λv u s2 x y H2 I2 rx ry q=>ho pins s2 σ H2 x y v u Q I2 rx ry q)
theorem HE{op:UnaryOp}{r:V->Hp->VK->Prop}(ho:Oi X (unaryOp op) r)(ha:PE X a ta):PE X (.UnaryOp op a pos) (tUn r ta):=by
 intro pins s σ H Q I h;exact UnaryOp_ (fF (ha pins s σ H _ I h) λv s1 ⟨x,H1,I1,r1,q1⟩=>ho pins s1 σ H1 x v Q I1 r1 q1)
theorem Ov{f:ae->ae->Sem ae}{C:Int->Int->Prop}{g:Int->Int->Int}
  (rule:∀(i j:Int) (t u:Tok) (s:ag) (Q:ae->ag->Prop) (E:ae->ag->Prop),C i j->Q (.int (g i j) s.toks) {s with toks:=s.toks+1}->wpAny (aK X.prog X.w) X.A (f (.int i t) (.int j u)) Q E s):
  ik X f (rI C λi j=> .int (g i j)):=by
 intro pins s σ H x y v u Q I rx ry h;obtain⟨i,j,rfl,rfl,hc,q⟩:=h;obtain⟨t,rfl⟩:=rx;obtain⟨t',rfl⟩:=ry;exact rule i j t t' s _ _ hc ⟨.int (g i j),H,I.tok _,⟨_,rfl⟩,q⟩
theorem MI{f:ae->ae->Sem ae}{g:Int->Int->Int}
  (rule:∀(i j:Int) (t u:Tok) (s:ag) (Q:ae->ag->Prop) (E:ae->ag->Prop),Q (.int (g i j) s.toks) {s with toks:=s.toks+1}->wpAny (aK X.prog X.w) X.A (f (.int i t) (.int j u)) Q E s):
  ik X f (HC λi j=> .int (g i j)):=by
 intro pins s σ H x y v u Q I rx ry h;obtain⟨i,j,rfl,rfl,q⟩:=h;obtain⟨t,rfl⟩:=rx;obtain⟨t',rfl⟩:=ry;exact rule i j t t' s _ _ ⟨.int (g i j),H,I.tok _,⟨_,rfl⟩,q⟩
theorem Ju{f:ae->ae->Sem ae}{g:Int->Int->Bool}
  (rule:∀(i j:Int) (t u:Tok) (s:ag) (Q:ae->ag->Prop) (E:ae->ag->Prop),Q (.bool (g i j)) s->wpAny (aK X.prog X.w) X.A (f (.int i t) (.int j u)) Q E s):
  ik X f (HC λi j=> .bl (g i j)):=by
 intro pins s σ H x y v u Q I rx ry h;obtain⟨i,j,rfl,rfl,q⟩:=h;obtain⟨t,rfl⟩:=rx;obtain⟨t',rfl⟩:=ry;exact rule i j t t' s _ _ ⟨.bl (g i j),H,I,rfl,q⟩
def LJ(i j:Int):Prop:=0<=j/\j<=1000000/\i.natAbs<2^64
def CMul(i j:Int):Prop:=(-(2^64)<i/\i<2^64)\/(-(2^64)<j/\j<2^64)
theorem CMul.ok{i j:Int}(h:CMul i j):IntMulOk i j:=by
 rcases h with⟨h1,h2⟩|⟨h1,h2⟩
 ·exact .of_left (intBits_le_64 h1 h2)
 ·exact .of_right (intBits_le_64 h1 h2)
theorem Jt:ik X (dC .Add) (HC λi j=> .int (i+j)):=MI λ_ _ _ _ _ _ _ q=>add_int q
theorem Jn:ik X (dC .Sub) (HC λi j=> .int (i-j)):=MI λ_ _ _ _ _ _ _ q=>sub_int q
theorem Jq:ik X (dC .Mult) (rI CMul λi j=> .int (i*j)):=Ov λ_ _ _ _ _ _ _ hc q=>mul_int q hc.ok
theorem Jr:ik X (dC .Mod) (rI (λ_ j=>0<j) λi j=> .int (i%j)):=Ov λi j _ _ _ _ _ hc q=>by
 have h1:(0:Int)<j:=hc;exact mod_int' (by ac_nf) (by rw[Int.fmod_eq_emod_of_nonneg i (by ac_nf)];exact q)
theorem Jp:ik X (dC .Pow) (rI LJ λi j=> .int (i^j.toNat)):=Ov λ_ _ _ _ _ _ _ hc q=>pow_int_small hc.1 hc.2.1 hc.2.2 q
theorem unI{f:ae->Sem ae}{g:Int->Int}
  (rule:∀(i:Int) (t:Tok) (s:ag) (Q:ae->ag->Prop) (E:ae->ag->Prop),Q (.int (g i) s.toks) {s with toks:=s.toks+1}->wpAny (aK X.prog X.w) X.A (f (.int i t)) Q E s):
  Oi X f (rU λi=> .int (g i)):=by
 intro pins s σ H x v Q I rx h;obtain⟨i,rfl,q⟩:=h;obtain⟨t,rfl⟩:=rx;exact rule i t s _ _ ⟨.int (g i),H,I.tok _,⟨_,rfl⟩,q⟩
theorem Bf:Oi X (unaryOp .USub) (rU λi=> .int (-i)):=unI λ_ _ _ _ _ q=>neg_int q
end
section
variable{X:Cx}{a b c:Expr}{ta tb tc:TE}{pos:Pos}
theorem oW{pins:List (Addr×Obj)}{σ:St}{H:Hp}{s:ag}{Q:VK}{k k':Bool}(I:Inv X pins σ H s)(q:Q (.bl k) H)(e:k=k'):EP X pins σ Q (.bool k') s:=by
 subst e;exact⟨.bl k,H,I,rfl,q⟩
theorem ME:ik X (bD .Lt) (HC λi j=> .bl (decide (i<j))):=Ju λ_ _ _ _ _ _ _ q=>lt_int q
theorem MF:ik X (bD .LtE) (HC λi j=> .bl (decide (i<=j))):=Ju λ_ _ _ _ _ _ _ q=>le_int q
theorem MG:ik X (bD .Gt) (HC λi j=> .bl (decide (j<i))):=Ju λ_ _ _ _ _ _ _ q=>gt_int q
theorem sR:ik X (bD .Lt) (λx y H Q=>∃i j,x= .str i/\y= .str j/\Q (.bl (decide (i.cps.toList<j.cps.toList))) H):=by
 intro pins s σ H x y v u Q I rx ry h;obtain⟨i,j,rfl,rfl,q⟩:=h;obtain⟨t,rfl⟩:=rx;obtain⟨t',rfl⟩:=ry;exact lt_str (oW I q rfl)
theorem Aa:ik X (bD .In) (λx y H Q=>∃i j,x= .str i/\y= .str j/\Q (.bl (!(bq j i 0 j.length 1).isEmpty)) H):=by
 intro pins s σ H x y v u Q I rx ry h;obtain⟨i,j,rfl,rfl,q⟩:=h;obtain⟨t,rfl⟩:=rx;obtain⟨t',rfl⟩:=ry;exact in_str (oW I q rfl)
theorem Js:ik X (bD .Is) (λx y H Q=>y= .non/\Q (.bl (decide (x= .non))) H):=by
 intro pins s σ H x y v u Q I rx ry h;obtain⟨rfl,q⟩:=h;cases ry;refine is_none_gen (oW I q ?_);cases x<;>first
  |(cases rx;rfl)
  |(obtain⟨t,rfl⟩:=rx;rfl)
theorem Fv:ik X (bD .IsNot) (λx y H Q=>y= .non/\Q (.bl (!decide (x= .non))) H):=by
 intro pins s σ H x y v u Q I rx ry h;obtain⟨rfl,q⟩:=h;cases ry;refine isnot_none_gen (oW I q ?_);cases x<;>first
  |(cases rx;rfl)
  |(obtain⟨t,rfl⟩:=rx;rfl)
theorem um:ik X (bD .NotIn) (λx y H Q=>∃i j,x= .str i/\y= .str j/\Q (.bl (!(!(bq j i 0 j.length 1).isEmpty))) H):=by
 intro pins s σ H x y v u Q I rx ry h;obtain⟨i,j,rfl,rfl,q⟩:=h;obtain⟨t,rfl⟩:=rx;obtain⟨t',rfl⟩:=ry;exact notIn_str (oW I q rfl)
theorem jS(b:Expr){op:CmpOp}(h:autoParam (op≠ .In) Qc)(h2:autoParam (op≠ .NotIn) Qc):eG op b=false:=by
 have e1:(op==CmpOp.In)=false:=by cases op<;>first|rfl|exact absurd rfl h
 have e2:(op==CmpOp.NotIn)=false:=by cases op<;>first|rfl|exact absurd rfl h2
 cases b<;>simp[eG,e1,e2]
theorem Fp{op:CmpOp}{r:R2}(ho:ik X (bD op) r)(ha:PE X a ta)(hb:PE X b tb)(hm:eG op b=false):PE X (.Compare a [op] [b] pos) (LX r ta tb):=by
 intro pins s σ H Q I h;exact wpAny_Compare1 (Lz ha hb I h λv u s2 x y H2 I2 rx ry q=>ho pins s2 σ H2 x y v u Q I2 rx ry q) hm
def Bj(t:TE):TT:=λσ H Q=>t σ H λx H'=>∃k,x= .bl k/\Q k H'
theorem Fd{op:CmpOp}{r:R2}(ho:ik X (bD op) r)(ha:PE X a ta)(hb:PE X b tb)(hm:eG op b=false):PT X (.Compare a [op] [b] pos) (Bj (LX r ta tb)):=by
 intro pins s σ H Q I h;refine wpAny_isTrue_Compare1 (fF (ha pins s σ H _ I h) λv s1 ⟨x,H1,I1,r1,q1⟩=>fF (hb pins s1 σ H1 _ I1 q1) λu s2 ⟨y,H2,I2,r2,q2⟩=>
  fF (ho pins s2 σ H2 x y v u _ I2 r1 r2 q2) λc s3 ⟨z,H3,I3,r3,k,e,q3⟩=> ?_) hm
 subst e;cases r3;exact dU ⟨H3,I3,q3⟩
def wN(r r':R2)(ta tb tc:TE):TE:=λσ H Q=>ta σ H λx H1=>tb σ H1 λy H2=>r x y H2 λz H3=>∃k,z= .bl k/\
 (if k=true then tc σ H3 λw' H4=>r' y w' H4 Q else Q (.bl false) H3)
theorem Ck{op op':CmpOp}{r r':R2}(ho:ik X (bD op) r)(ho':ik X (bD op') r')(ha:PE X a ta)(hb:PE X b tb)(hc:PE X c tc)
  (hm:autoParam (mT [op,op'] [b,c]=false) Qi):PE X (.Compare a [op,op'] [b,c] pos) (wN r r' ta tb tc):=by
 intro pins s σ H Q I h;refine Compare_chain (fF (ha pins s σ H _ I h) λv s1 ⟨x,H1,I1,r1,q1⟩=>chain_link (fF (hb pins s1 σ H1 _ I1 q1) λu s2 ⟨y,H2,I2,r2,q2⟩=>
  fF (ho pins s2 σ H2 x y v u _ I2 r1 r2 q2) λd s3 ⟨z,H3,I3,r3,k,e,q3⟩=> ?_)) hm
 subst e;cases r3;refine dU ?_;cases k with
 |false=>exact ite_ff ⟨.bl false,H3,I3,rfl,q3⟩
 |true=>exact ite_tt (chain_last (fF (hc pins s3 σ H3 _ I3 q3) λw' s4 ⟨z',H4,I4,r4,q4⟩=>ho' pins s4 σ H4 y z' u w' Q I4 r2 r4 q4))
theorem B5{op op':CmpOp}{r r':R2}(ho:ik X (bD op) r)(ho':ik X (bD op') r')(ha:PE X a ta)(hb:PE X b tb)(hc:PE X c tc)
  (hm:autoParam (mT [op,op'] [b,c]=false) Qi):PT X (.Compare a [op,op'] [b,c] pos) (Bj (wN r r' ta tb tc)):=by
 intro pins s σ H Q I h;refine isTrue_chain (fF (ha pins s σ H _ I h) λv s1 ⟨x,H1,I1,r1,q1⟩=>test_link (fF (hb pins s1 σ H1 _ I1 q1) λu s2 ⟨y,H2,I2,r2,q2⟩=>
  fF (ho pins s2 σ H2 x y v u _ I2 r1 r2 q2) λd s3 ⟨z,H3,I3,r3,k,e,q3⟩=> ?_)) hm
 subst e;cases r3;refine dU ?_;cases k with
 |false=>
  obtain⟨k',e',q'⟩:=q3
  cases e'
  exact ite_ff ⟨H3,I3,q'⟩
 |true=>
  refine ite_tt (test_last (fF (hc pins s3 σ H3 _ I3 q3) λw' s4 ⟨z',H4,I4,r4,q4⟩=>fF (ho' pins s4 σ H4 y z' u w' _ I4 r2 r4 q4) λd' s5 ⟨z2,H5,I5,r5,k2,e2,q5⟩=> ?_))
  subst e2
  cases r5
  exact dU ⟨H5,I5,q5⟩
theorem oQ:(ba:Nat)<2^63:=by rw[i6];decide
theorem xl:ik X (dC .Add) (λx y H Q=>∃i j,x= .str i/\y= .str j/\i.length+j.length<=ba/\Q (.str (i++j)) H):=by
 intro pins s σ H x y v u Q I rx ry h;obtain⟨i,j,rfl,rfl,hz,q⟩:=h;obtain⟨t,rfl⟩:=rx;obtain⟨t',rfl⟩:=ry;exact add_str (λt' tk=>⟨.str (i++j),H,I.tok _,⟨_,rfl⟩,q⟩) hz
theorem nE{x:V}{us:List ae}(r:Vals [x] us):∃u,us=[u]/\RelV x u:=by
 cases r with
 |cons r1 r2=>cases r2;exact⟨_,rfl,r1⟩
theorem Hj{x y:V}{us:List ae}(r:Vals [x,y] us):∃u w',us=[u,w']/\RelV x u/\RelV y w':=by
 cases r with
 |cons r1 r2=>
  cases r2 with
  |cons r3 r4=>cases r4;exact⟨_,_,rfl,r1,r3⟩
theorem AH(hc:X.calm=true):eT X (.builtin "max") (λxs H Q=>∃i j,xs=[.int i,.int j]/\Q (.int (if j>i then j else i)) H):=by
 intro pins s σ H xs us Q I r h;obtain⟨i,j,rfl,q⟩:=h;obtain⟨u,w',rfl,⟨t,rfl⟩,⟨t',rfl⟩⟩:=Hj r;refine max_two_ints (I.ok.hd hc) λh' tk k=>⟨_,H,I.kept k,?_,q⟩;by_cases hj:j>i
 ·rw[if_pos hj,if_pos hj];exact⟨_,rfl⟩
 ·rw[if_neg hj,if_neg hj];exact⟨_,rfl⟩
theorem AG(hc:X.calm=true):eT X (.builtin "min") (λxs H Q=>∃i j,xs=[.int i,.int j]/\Q (.int (if j<i then j else i)) H):=by
 intro pins s σ H xs us Q I r h;obtain⟨i,j,rfl,q⟩:=h;obtain⟨u,w',rfl,⟨t,rfl⟩,⟨t',rfl⟩⟩:=Hj r;refine min_two_ints (I.ok.hd hc) λh' tk k=>⟨_,H,I.kept k,?_,q⟩;by_cases hj:j<i
 ·rw[if_pos hj,if_pos hj];exact⟨_,rfl⟩
 ·rw[if_neg hj,if_neg hj];exact⟨_,rfl⟩
theorem AI:eT X (.type "int") (λxs H Q=>(∃i,xs=[.int i]/\Q (.int i) H)\/∃k,xs=[.bl k]/\Q (.int (if k then 1 else 0)) H):=by
 intro pins s σ H xs us Q I r h;rcases h with⟨i,rfl,q⟩|⟨k,rfl,q⟩
 ·obtain⟨u,rfl,t,rfl⟩:=nE r;exact call_int_int ⟨.int i,H,I,⟨_,rfl⟩,q⟩
 ·obtain⟨u,rfl,r1⟩:=nE r;cases r1;exact call_int_bool ⟨.int (if k then 1 else 0),H,I.tok _,⟨_,rfl⟩,q⟩
theorem uJ:eT X (.type "str") (λxs H Q=>∃i,xs=[.int i]/\i.natAbs.log2<1920/\Q (.str (toString i)) H):=by
 intro pins s σ H xs us Q I r h;obtain⟨i,rfl,hz,q⟩:=h;obtain⟨u,rfl,t,rfl⟩:=nE r;exact PySem.P.str_of_int hz ⟨.str _,H,I.tok _,⟨_,rfl⟩,q⟩
end
structure ObjM(h:Heap)(x dx C:Addr)(mA:Str->Option ae):Prop where
 obj:h.get? x=some (PySem.W.instObj C dx)
 ns:h.Ns1 dx mA
 ne:dx≠x
theorem Ak{h:Heap}{dx:Addr}{mA:Str->Option ae}(n:h.Ns1 dx mA):∃od,h.get? dx=some od/\∀name,PySem.W.lookIn name od=some (mA name):=by
 obtain⟨o,es,ep,ho,hd,hk,_,hm⟩:=n;refine⟨o,ho,λname=> ?_⟩;have e:=hm name;unfold nsFind findBy at e;rw[<-Array.find?_toList]at e;unfold PySem.W.lookIn;rw[hd];dsimp only;split
 ·rename_i y q;rw[q]at e;exact congrArg some e
 ·rename_i q;rw[q]at e;have a:es.toList.any (·.refKey)=false:=by
   rw[List.any_eq_false];intro y hy;obtain⟨z,t,hkey⟩:=hk y (Array.mem_toList_iff.mp hy);simp[DictEntry.refKey,hkey]
  have a':¬es.toList.any (·.refKey)=true:=by rw[a];exact bR
  rw[if_neg a'];exact congrArg some e
theorem ObjM.look{h:Heap}{x dx C:Addr}{mA:Str->Option ae}(I:ObjM h x dx C mA):∃od,PySem.W.InstAt h x (PySem.W.instObj C dx) C (some od)/\∀name,PySem.W.lookIn name od=some (mA name):=
 let⟨od,ho,hl⟩:=Ak I.ns
 ⟨od,⟨I.obj,rfl,rfl,ho⟩,hl⟩
section
variable{prog:aG}{w:aX}{A:Around}{E:ae->ag->Prop}{s:ag}{K:PySem.W.Frag}{x dx C f:Addr}{mA:Str->Option ae}{name:Str}{v:ae}
theorem GI{expr:Bool}{Q:ae->ag->Prop}(X:K.In s.heap)(I:ObjM s.heap x dx C mA)(hg:PySem.W.plainGet K C name=true)(hh:PySem.W.hasDictIn K C=true)
  (ha:PySem.W.findIn K (.ref C) name=some none) (hv:mA name=some v) (hv':PySem.W.handedIn v=true) (h:Q v {s with toks:=s.toks+1}):
  wpAny (aK prog w) A (getAttr (.ref x) name expr) Q E s:=by
 obtain⟨od,J,hl⟩:=I.look;exact PySem.W.get_value X J (PySem.W.plainGet_of hg).1 (PySem.W.findObj_own hh ha rfl (by rw[hl,hv])) hv' h
theorem DT{pl:Sem Bool}{Q:ae×List ae->ag->Prop}(X:K.In s.heap)(I:ObjM s.heap x dx C mA)(hg:PySem.W.plainGet K C name=true)
  (hf:PySem.W.findIn K (.ref C) name=some (some (.ref f))) (ht:PySem.W.isFn K (.ref f)=true) (hv:mA name=none) (h:Q (.ref f,[.ref x]) s):
  wpAny (aK prog w) A (mZ (.ref x) name pl) Q E s:=by
 obtain⟨od,J,hl⟩:=I.look;exact PySem.W.method_fn X J (PySem.W.plainGet_of hg).1 (PySem.W.plainGet_of hg).2 hf (beq_iff_eq.mp ht) (by show(PySem.W.lookIn name od).map (·.isSome)=some false;rw[hl,hv];rfl) h
theorem E3{ns:List Str}{Q:Unit->ag->Prop}(X:K.In s.heap)(I:ObjM s.heap x dx C mA)
  (hs:PySem.W.findIn K (.ref C) "__setattr__" =some (some (.builtin "object.__setattr__"))) (hp:PySem.W.plainOver K C=true) (ht:PySem.W.takerIn K C name=some none) (hh:PySem.W.hasDictIn K C=true)
  (hw:PySem.Within mA ns) (hsz:ns.length<=ba)
  (h:∀h',ObjM h' x dx C (λy=>if y=name then some v else mA y)->cM dx s.heap h'->Q () {s with heap:=h',toks:=s.toks+2}):
  wpAny (aK prog w) A (setAttr (.ref x) name v) Q E s:=by
 obtain⟨od,J,hl⟩:=I.look;refine PySem.W.set_plain X J hs (PySem.W.osa_open (s:={s with toks:=s.toks+1}) (r:=none) X J hp ht λb=> ?_);obtain⟨cd,hc,hd'⟩:=PySem.W.any_some hh;have hx:s.heap.get? x=some ⟨.ref C,some dx,.plain,#[]⟩:=I.obj;refine aa (ah (aa (aa (wpAny_loadPart hx (aa (PySem.W.Looks.here (s:={s with toks:=s.toks+1}) (PySem.W.looks_clsIn X hc) ?_))))));rw[hd'];refine ah (a:=some dx) (aa (ah (aa ?_)));refine wpAny_nsSet1 (s:={s with toks:=s.toks+1}) I.ns λh' hn2 hs2=> ?_;obtain⟨oD,esD,epD,hoD,hdD,hcD⟩:=hn2.count (PySem.Within.cons name v hw);refine aa (wpAny_lookBehind hoD (by rw[hdD];exact pastItsLine_dict (bj hcD (by rw[aj];ac_nf))) ?_);exact ah (h _ ⟨(hs2.2 _ (aY I.ne)).trans I.obj,hn2,I.ne⟩ hs2)
theorem Dc{R:Result->ag->Prop}{vs:List ae}{kw:List (Str×ae)}(X:K.In s.heap)(hm:PySem.W.makesIn K C=true)
  (hi:PySem.W.findIn K (.ref C) "__init__" =some (some (.ref f))) (hf:PySem.W.typeIn K (.ref f)=some (.type "function"))
  (h:codeAny (aK prog w) (A.under (.builtin "type.__call__" ⟨.ref C::vs,kw⟩)) (.call (.ref f) ⟨.ref (s.heap.objs.size+1)::vs,kw⟩) (PySem.W.InitBack (s.heap.objs.size+1) R)
   {s with heap:=(s.heap.push PySem.W.emptyDict).push (PySem.W.instObj C s.heap.objs.size)}):
  codeAny (aK prog w) A (.call (.ref C) ⟨vs,kw⟩) R s:=by
 obtain⟨hh,g,d,t,os⟩:=s;exact PySem.W.make_core (PySem.W.makes_of X hm) (PySem.W.looks_findIn X hi) (λself=>PySem.W.bind_fn X self hf) (.inl rfl) h
end
def jP(f:Str)(v:V):List (Str×V)->List (Str×V)
 |[]=>[(f,v)]
 |(g,x)::r=>if g=f then(g,v)::r else(g,x)::jP f v r
theorem pp(f g:Str)(v:V):∀fs:List (Str×V),(jP f v fs).lookup g=if g=f then some v else fs.lookup g
 |[]=>by
  show jq g [(f,v)]=_;by_cases h:g=f
  ·have hb:(g==f)=true:=beq_iff_eq.mpr h;simp only[jq,hb,if_pos h]
  ·have hb:(g==f)=false:=beq_eq_false_iff_ne.mpr h;simp only[jq,hb,if_neg h]
 |(k,x)::r=>by
  have ih:=pp f g v r;rw[show jP f v ((k,x)::r)=(if k=f then(k,v)::r else(k,x)::jP f v r)from rfl];by_cases hk:k=f
  ·rw[if_pos hk];by_cases h:g=k
   ·have hb:(g==k)=true:=beq_iff_eq.mpr h;simp only[jq,hb,if_pos (h.trans hk)]
   ·have hb:(g==k)=false:=beq_eq_false_iff_ne.mpr h;simp only[jq,hb,if_neg (λe:g=f=>h (e.trans hk.symm))]
  ·rw[if_neg hk];by_cases h:g=k
   ·have hb:(g==k)=true:=beq_iff_eq.mpr h;simp only[jq,hb,if_neg (λe:g=f=>hk (h.symm.trans e))]
   ·have hb:(g==k)=false:=beq_eq_false_iff_ne.mpr h;simp only[jq,hb];exact ih
theorem oS(f:Str)(v:V):∀fs:List (Str×V),f∈(jP f v fs).map (·.1)/\∀g,g∈fs.map (·.1)->g∈(jP f v fs).map (·.1)
 |[]=>⟨by simp[jP],λg h=>by simp at h⟩
 |(k,x)::r=>by
  obtain⟨i1,i2⟩:=oS f v r;rw[show jP f v ((k,x)::r)=(if k=f then(k,v)::r else(k,x)::jP f v r)from rfl];by_cases hk:k=f
  ·rw[if_pos hk];subst hk;exact⟨by simp,λg h=>by simpa using h⟩
  ·rw[if_neg hk];refine⟨?_,λg h=> ?_⟩
   ·rw[aU];exact bC _ i1
   ·rw[aU]at h⊢;rcases aw.mp h with e|e
    ·exact aw.mpr (.inl e)
    ·exact bC _ (i2 g e)
theorem pq(f:Str)(v:V):∀fs:List (Str×V),(jP f v fs).length<=fs.length+1
 |[]=>by simp[jP]
 |(k,x)::r=>by
  have ih:=pq f v r;rw[show jP f v ((k,x)::r)=(if k=f then(k,v)::r else(k,x)::jP f v r)from rfl];by_cases hk:k=f
  ·rw[if_pos hk,aj,aj];ac_nf
  ·rw[if_neg hk,aj,aj];ac_nf
theorem RelO.some_of{v:V}{o:Option ae}(r:RelO (some v) o):∃u,o=some u/\RelV v u:=by
 cases o with
 |none=>exact(show False from r).elim
 |some u=>exact⟨u,rfl,r⟩
theorem RelO.none_of{o:Option ae}(r:RelO none o):o=none:=by
 cases o with
 |none=>rfl
 |some u=>exact(show False from r).elim
theorem Av{v:V}{u:ae}(r:RelV v u):PySem.W.handedIn u=true:=by
 cases v with
 |non=>cases (show u=bF from r);rfl
 |bl b=>cases (show u=fB b from r);rfl
 |int i=>obtain⟨t,e⟩:=(show∃t,u=cZ i t from r);cases e;rfl
 |str x=>obtain⟨t,e⟩:=(show∃t,u=fh x t from r);cases e;rfl
 |byt b=>obtain⟨t,e⟩:=(show∃t,u=ae.bytes b t from r);cases e;rfl
 |flt b=>obtain⟨t,e⟩:=(show∃t,u=ae.float b t from r);cases e;rfl
 |ref a=>cases (show u=aM a from r);rfl
 |ty n=>cases (show u=bE n from r);rfl
section
variable{P:aG}{w:aX}{H:Hp}{h:Heap}{a C dx:Addr}{fs:List (Str×V)}
theorem p9(hok:HOk P w H h)(e:H a=some (.ins C dx fs)):∃mA,ObjM h a dx C mA/\(∀f,RelO (fs.lookup f) (mA f))/\PySem.Within mA (fs.map (·.1))/\fs.length<=1000/\H dx=some (.own a):=by
 obtain⟨d,z,ne,ob,mA,n,r,q⟩:=(show ObjOk P w H h a (.ins C dx fs)from hok a _ e);exact⟨mA,⟨ob,n,ne⟩,r,q,z,d⟩
end
structure Cls(K:PySem.W.Frag)(C:Addr):Prop where
 pg:PySem.W.plainGet K C Str.empty=true
 hd:PySem.W.hasDictIn K C=true
 po:PySem.W.plainOver K C=true
 sa:PySem.W.findIn K (.ref C) "__setattr__" =some (some (.builtin "object.__setattr__"))
theorem Cls.get{K:PySem.W.Frag}{C:Addr}(c:Cls K C)(f:Str):PySem.W.plainGet K C f=true:=c.pg
def NoAttr(K:PySem.W.Frag)(C:Addr)(f:Str):Prop:=PySem.W.findIn K (.ref C) f=some none
theorem NoAttr.taker{K:PySem.W.Frag}{C:Addr}{f:Str}(n:NoAttr K C f):PySem.W.takerIn K C f=some none:=by
 unfold PySem.W.takerIn;rw[show PySem.W.findIn K (.ref C) f=some none from n];rfl
structure xV(K:PySem.W.Frag)(C:Addr)(m:Str)(f:Addr):Prop where
 at_:PySem.W.findIn K (.ref C) m=some (some (.ref f))
 fn:PySem.W.isFn K (.ref f)=true
 kp:PySem.W.keepIn K (.ref f)=true
section
variable{X:Cx}{pins:List (Addr×Obj)}{σ:St}{H:Hp}{s:ag}{a C dx:Addr}{fs:List (Str×V)}{f:Str}{v:V}{A:Around}{E:ae->ag->Prop}
theorem rh{b:Bool}{Q:ae->ag->Prop}(I:Inv X pins σ H s)(e:H a=some (.ins C dx fs))(c:Cls X.K C)(n:NoAttr X.K C f)(l:fs.lookup f=some v)
  (h:∀u s',Inv X pins σ H s'->RelV v u->Q u s'):wpAny (aK X.prog X.w) A (getAttr (.ref a) f b) Q E s:=by
 obtain⟨mA,O,r,_,_,_⟩:=p9 I.hok e;obtain⟨u,hu,ru⟩:=RelO.some_of (v:=v) (o:=mA f) (by rw[<-l];exact r f);exact GI I.kIn O (c.get f) c.hd n hu (Av ru) (h u _ (I.tok _) ru)
theorem rg{m:Str}{g:Addr}{pl:Sem Bool}{Q:ae×List ae->ag->Prop}(I:Inv X pins σ H s)(e:H a=some (.ins C dx fs))(c:Cls X.K C)(k:xV X.K C m g)(l:fs.lookup m=none)
  (h:Q (.ref g,[.ref a]) s):wpAny (aK X.prog X.w) A (mZ (.ref a) m pl) Q E s:=by
 obtain⟨mA,O,r,_,_,_⟩:=p9 I.hok e;have hn:mA m=none:=RelO.none_of (by rw[<-l];exact r m);exact DT I.kIn O (c.get m) k.at_ k.fn hn h
theorem qH{y:V}{u:ae}{Q:Unit->ag->Prop}(I:Inv X pins σ H s)(e:H a=some (.ins C dx fs))(c:Cls X.K C)(n:NoAttr X.K C f)(hl:fs.length<1000)(ry:RelV y u)
  (h:∀s',Inv X pins σ (upd H a (.ins C dx (jP f y fs))) s'->Q () s'):wpAny (aK X.prog X.w) A (setAttr (.ref a) f u) Q E s:=by
 obtain⟨mA,O,r,wi,_,ho⟩:=p9 I.hok e;have hz:(fs.map (·.1)).length<=ba:=by rw[av,i6];ac_nf
 refine E3 I.kIn O c.sa c.po n.taker c.hd wi hz λh' O' sb=>h _ ?_;have hd:∃o,h'.get? dx=some o:=let⟨o,_,_,e',_⟩:=O'.ns;⟨o,e'⟩
 refine I.write (x:=a) (e:=dx) (by rw[e];exact fV) (.inr ho) (λb q hb z=>(sb.2 b hb).trans z) hd ?_;refine⟨by rw[bJ O.ne];exact ho,?_,O.ne,O'.obj,_,O'.ns,λg=> ?_,λg hg=> ?_⟩
 ·have:=pq f y fs;ac_nf
 ·show RelO ((jP f y fs).lookup g) (if g=f then some u else mA g);rw[pp];by_cases q:g=f
  ·rw[if_pos q,if_pos q];exact ry
  ·rw[if_neg q,if_neg q];exact r g
 ·by_cases q:g=f
  ·rw[q];exact(oS f y fs).1
  ·refine(oS f y fs).2 g (wi g λz=>hg ?_);show(if g=f then some u else mA g)=none;rw[if_neg q];exact z
theorem Inv.made(I:Inv X pins σ H s):Inv X pins σ (upd (upd H s.heap.objs.size (.own (s.heap.objs.size+1))) (s.heap.objs.size+1) (.ins C s.heap.objs.size []))
  {s with heap:=(s.heap.push PySem.W.emptyDict).push (PySem.W.instObj C s.heap.objs.size)}:=by
 have e1:(s.heap.push PySem.W.emptyDict).get? s.heap.objs.size=some PySem.W.emptyDict:=aF s.heap rfl;have e2:((s.heap.push PySem.W.emptyDict).push (PySem.W.instObj C s.heap.objs.size)).get? (s.heap.objs.size+1)=some (PySem.W.instObj C s.heap.objs.size):=by
  have:=aF (s.heap.push PySem.W.emptyDict) (o:=PySem.W.instObj C s.heap.objs.size) rfl;rwa [cb]at this
 have e3:(s.heap.push PySem.W.emptyDict).Ns s.heap.objs.size (λ_=>none):=⟨PySem.W.emptyDict,#[],_,e1,rfl,(λe he=>absurd he (by simp)),λ_=>rfl⟩;have I1:=I.laid (a:=s.heap.objs.size) (o:= .own (s.heap.objs.size+1)) (h':=s.heap.push PySem.W.emptyDict) (t':=s.toks) (λb u q=>ai _ q) (ap _) ⟨_,e1⟩;refine I1.laid (a:=s.heap.objs.size+1) (o:= .ins C s.heap.objs.size []) (t':=s.toks) (λb u q=>ai _ q) (Nat.le_of_eq (cb _ _)) ?_;have ne:s.heap.objs.size≠s.heap.objs.size+1:=aN (dG _);refine⟨by rw[bJ ne,eA],c8 _,ne,e2,λ_=>none,(Heap.Ns1.of_empty e3).at λo q=>ai _ q,λ_=>fV,λy hy=>absurd rfl hy⟩
theorem G9{prog:aG}{w:aX}{env:Env}{e:Expr}{f:Str}{pos:Pos}{s:ag}{Q:ae->ag->Prop}(hb:cU e f env (eval e env)=eval e env)
  (h:wpAny (aK prog w) A (eval e env) (λo s₁=>wpAny (aK prog w) A (getAttr o f true) Q E s₁) E s):wpAny (aK prog w) A (eval (.Attribute e f pos) env) Q E s:=
 Attribute_any_ h (by rw[arm_eval_Attribute,hb])
end
def OX(K:PySem.W.Frag)(ta:TE)(f:Str):TE:=λσ H Q=>ta σ H λx H1=>∃a C dx fs v,x= .ref a/\H1 a=some (.ins C dx fs)/\Cls K C/\NoAttr K C f/\fs.lookup f=some v/\Q v H1
def O6(K:PySem.W.Frag)(ta tv:TE)(f:Str):TS:=λD σ H=>tv σ H λy H1=>ta σ H1 λx H2=>∃a C dx fs,x= .ref a/\H2 a=some (.ins C dx fs)/\Cls K C/\NoAttr K C f/\fs.length<1000/\
 D.nx σ (upd H2 a (.ins C dx (jP f y fs)))
def Ol(X:Cx)(op:Operator)(rd:V->V->Hp->VK->Prop):Prop:=
 ∀(pins:List (Addr×Obj)) (s:ag) (σ:St) (H:Hp) (x y:V) (u v:ae) (Q:VK),Inv X pins σ H s->RelV x u->RelV y v->rd x y H Q->wpAny (aK X.prog X.w) X.A (inplaceOp op u v) (EP X pins σ Q) X.xe s
def E5(K:PySem.W.Frag)(ta tv:TE)(rd:V->V->Hp->VK->Prop)(f:Str):TS:=λD σ H=>ta σ H λx H1=>∃a C dx fs v,x= .ref a/\H1 a=some (.ins C dx fs)/\Cls K C/\NoAttr K C f/\fs.lookup f=some v/\
 tv σ H1 λy H2=>rd v y H2 λz H3=>∃dx' fs',H3 a=some (.ins C dx' fs')/\fs'.length<1000/\D.nx σ (upd H3 a (.ins C dx' (jP f z fs')))
section
variable{X:Cx}{o e value:Expr}{f:Str}{pos pos' tpos:Pos}{ta tv:TE}
theorem Jj(he:PE X e ta)(hb:cU e f X.env (eval e X.env)=eval e X.env):PE X (.Attribute e f pos) (OX X.K ta f):=by
 intro pins s σ H Q I h;refine G9 hb (fF (he pins s σ H _ I h) λu s1 hPl=> ?_);obtain⟨x,H1,I1,rx,a,C,dx,fs,v,ex,ea,c,n,l,q⟩:=hPl;subst ex;obtain rfl:u=aM a:=rx;exact rh I1 ea c n l λu' s2 I2 ru=>⟨v,H1,I2,ru,q⟩
theorem IX(ha:PE X o ta)(hv:PE X value tv)(hs:ir value (some (.Attribute o f pos')) pos.line X.env=pure false):PS X (.Assign [.Attribute o f pos'] value pos) (O6 X.K ta tv f):=by
 intro pins s σ H D I h;refine plainObj_wpAny_Assign_Attribute (fF (hv pins s σ H _ I h) λu s1 ⟨y,H1,I1,ry,q⟩=>fF (ha pins s1 σ H1 _ I1 q) λov s2 ⟨x,H2,I2,rx,a,C,dx,fs,ex,ea,c,n,l,q2⟩=> ?_) hs;subst ex;obtain rfl:ov=aM a:=rx;exact qH I2 ea c n l ry λs3 I3=>⟨σ,_,I3,q2⟩
theorem zT{op:Operator}{rd:V->V->Hp->VK->Prop}(ha:PE X o ta)(hv:PE X value tv)(hop:Ol X op rd):PS X (.AugAssign (.Attribute o f tpos) op value pos) (E5 X.K ta tv rd f):=by
 intro pins s σ H D I h;refine wpAny_AugAssign_AttributeAny (fF (ha pins s σ H _ I h) λov s1 hPl=> ?_);obtain⟨x,H1,I1,rx,a,C,dx,fs,v,ex,ea,c,n,l,q⟩:=hPl;subst ex;obtain rfl:ov=aM a:=rx;refine rh I1 ea c n l λu s2 I2 ru=>fF (hv pins s2 σ H1 _ I2 q) λw3 s3 ⟨y,H2,I3,ry,q3⟩=>fF (hop pins s3 σ H2 v y u w3 _ I3 ru ry q3) λw4 s4 ⟨z,H3,I4,rz,dx',fs',ea',l',q4⟩=> ?_;exact qH I4 ea' c n l' rz λs5 I5=>⟨σ,_,I5,q4⟩
def Pi:V->V->Hp->VK->Prop:=λx y H Q=>∃i j,x= .int i/\y= .int j/\Q (.int (i+j)) H
theorem K8:Ol X .Add Pi:=by
 rintro pins s σ H x y u v Q I rx ry ⟨i,j,rfl,rfl,q⟩;obtain⟨t,rfl⟩:=(show∃t,u=cZ i t from rx);obtain⟨t',rfl⟩:=(show∃t',v=cZ j t' from ry);exact PyProof.Rows.iadd_int ⟨.int (i+j),H,I.tok _,⟨_,rfl⟩,q⟩
end
section
variable{X:Cx}{pins:List (Addr×Obj)}{σ:St}{H:Hp}{s:ag}{A:Around}{E:ae->ag->Prop}{Q:ae->ag->Prop}{c:ae}{b:Bool}
inductive pN (K:PySem.W.Frag) (H:Hp):V->ae->Prop where
 |non:pN K H .non (.type "NoneType")
 |bl (x:Bool):pN K H (.bl x) (.type "bool")
 |int (i:Int):pN K H (.int i) (.type "int")
 |str (x:Str):pN K H (.str x) (.type "str")
 |flt (x:UInt64):pN K H (.flt x) (.type "float")
 |lst {a:Addr} {xs:List V} (e:H a=some (.lst xs)):pN K H (.ref a) (.type "list")
 |frz {a:Addr} {o:Obj} {xs:List V} (e:H a=some (.frz o (.lst xs))):pN K H (.ref a) (.type "list")
 |tup {a:Addr} {xs:List V} (e:H a=some (.tup xs)):pN K H (.ref a) (.type "tuple")
 |dK {a:Addr} {kvs:List (qi×V)} (e:H a=some (.dK kvs)):pN K H (.ref a) (.type "dict")
 |dT {a:Addr} {kvs:List (List qi×V)} (e:H a=some (.dT kvs)):pN K H (.ref a) (.type "dict")
 |ins {a C dx:Addr} {fs:List (Str×V)} (e:H a=some (.ins C dx fs)) (cl:Cls K C) (ha:PySem.W.findIn K (.ref C) "__class__" =some (some (.builtin "object.__class__")))
   (hn:PySem.W.specialIn K (.builtin "object.__class__") "__get__" =some (some (.builtin "getset_descriptor.__get__"))) (htk:PySem.W.takesIn K (.builtin "object.__class__")=some true)
   (hm:PySem.W.mroIn K C (.type "object")=some true):pN K H (.ref a) (.ref C)
theorem Ar{x:V}{u t:ae}(I:Inv X pins σ H s)(rx:RelV x u)(ty:pN X.K H x t)(e:PySem.W.kitOne X.K t c=some b)(h:∀tk,Q (.bool b) {s with toks:=tk}):
  wpAny (aK X.prog X.w) A (call (.builtin "isinstance") [u,c]) Q E s:=by
 cases ty with
 |non=>cases (show u=bF from rx);exact PySem.W.kia_one PySem.W.kitx_none I.kIn fV e (λz=>nomatch z) h
 |bl y=>cases (show u=fB y from rx);exact PySem.W.kia_one PySem.W.kitx_bool I.kIn fV e (λz=>nomatch z) h
 |int i=>obtain⟨t,q⟩:=(show∃t,u=cZ i t from rx);cases q;exact PySem.W.kia_one PySem.W.kitx_int I.kIn fV e (λz=>nomatch z) h
 |str y=>obtain⟨t,q⟩:=(show∃t,u=fh y t from rx);cases q;exact PySem.W.kia_one PySem.W.kitx_str I.kIn fV e (λz=>nomatch z) h
 |flt y=>obtain⟨t,q⟩:=(show∃t,u=ae.float y t from rx);cases q;exact PySem.W.kia_one PySem.W.kitx_float I.kIn fV e (λz=>nomatch z) h
 | @lst a xs ea=>
  cases (show u=aM a from rx)
  obtain⟨_,_,n,_,h1⟩:=(show ObjOk X.prog X.w H s.heap a (.lst xs)from I.hok a _ ea)
  exact PySem.W.kia_one PySem.W.kitx_list I.kIn ⟨_,h1,rfl⟩ e (λz=>nomatch z) h
 | @frz a ob xs ea=>
  cases (show u=aM a from rx)
  obtain⟨_,_,_,n,_,h1⟩:=(show ObjOk X.prog X.w H s.heap a (.frz ob (.lst xs))from I.hok a _ ea)
  exact PySem.W.kia_one PySem.W.kitx_list I.kIn ⟨_,h1,rfl⟩ e (λz=>nomatch z) h
 | @tup a xs ea=>
  cases (show u=aM a from rx)
  obtain⟨_,_,_,p⟩:=(show ObjOk X.prog X.w H s.heap a (.tup xs)from I.hok a _ ea)
  obtain⟨o,h1,h2,_⟩:=p
  exact PySem.W.kia_one PySem.W.kitx_tuple I.kIn ⟨o,h1,h2⟩ e (λz=>nomatch z) h
 | @dK a kvs ea=>
  cases (show u=aM a from rx)
  obtain⟨_,_,vs,_,p⟩:=(show ObjOk X.prog X.w H s.heap a (.dK kvs)from I.hok a _ ea)
  obtain⟨o,es,ep,h1,h2,_⟩:=p
  exact PySem.W.kia_one PySem.W.kitx_dict I.kIn ⟨o,h1,h2.1⟩ e (λz=>nomatch z) h
 | @dT a kvs ea=>
  cases (show u=aM a from rx)
  obtain⟨_,_,xs,_,o,es,ep,h1,h2,_⟩:=(show ObjOk X.prog X.w H s.heap a (.dT kvs)from I.hok a _ ea)
  exact PySem.W.kia_one PySem.W.kitx_dict I.kIn ⟨o,h1,h2.1⟩ e (λz=>nomatch z) h
 | @ins a C dx fs ea cl ha hn htk hm=>
  cases (show u=aM a from rx)
  obtain⟨mA,O,_⟩:=p9 I.hok ea
  obtain⟨od,J,_⟩:=O.look
  exact PySem.W.kia_one (PySem.W.kitx_own (cl.get _) cl.hd ha hn htk hm) I.kIn J e (λz=>nomatch z) h
end
structure Room(k:Nat)(A:Around):Prop where
 hd:A.handled=none
 dp:A.depth+3*k+5<recursionLimit
 un:A.units+16*k+200<cLine
theorem Room.mono{j k:Nat}{A:Around}(r:Room k A)(h:j<=k):Room j A:=⟨r.hd,by have:=r.dp;ac_nf,by have:=r.un;ac_nf⟩
theorem Room.deeper{k:Nat}{A:Around}(r:Room (k+1) A)(env:Env):Room k (A.deeper env):=
 ⟨r.hd,by have:=r.dp;show A.depth+1+3*k+5<_;ac_nf,by have:=r.un;show A.units+3+16*k+200<_;ac_nf⟩
theorem xz{A:Around}{C:Addr}{us:List ae}{kw:List (Str×ae)}:(A.under (.builtin "type.__call__" ⟨.ref C::us,kw⟩)).depth=A.depth+1:=by
 first|rfl|simp[Around.under,Code.weight,Code.isCreation,Code.isGuard,Code.isCaller,Code.frames,Code.isFrame,guardIds]
theorem xy{A:Around}{C:Addr}{us:List ae}{kw:List (Str×ae)}:(A.under (.builtin "type.__call__" ⟨.ref C::us,kw⟩)).units=A.units+1:=by
 first|rfl|simp[Around.under,Code.cUnits,Code.frames,Code.isFrame]
theorem Room.make{k:Nat}{A:Around}(r:Room (k+1) A)(C:Addr)(us:List ae)(kw:List (Str×ae)):Room k (A.under (.builtin "type.__call__" ⟨.ref C::us,kw⟩)):=
 ⟨r.hd,by have:=r.dp;rw[xz];ac_nf,by have:=r.un;rw[xy];ac_nf⟩
theorem Room.depth{k:Nat}{A:Around}(r:Room k A):A.depth<recursionLimit:=by have:=r.dp;ac_nf
def Ir:TA:=λ_ H Q=>Q [] H
def L6(ta:TE)(tr:TA):TA:=λσ H Q=>ta σ H λx H1=>tr σ H1 λxs H2=>Q (x::xs) H2
section
variable{X:Cx}{e:Expr}{es:List Expr}{te:TE}{t:TA}{pos:Pos}
theorem Jm:PA X [] Ir:=λ_ _ _ _ H Q I h=>ki ⟨[],H,I,.nil,h⟩
theorem Fu(ha:PE X e te)(hr:PA X es t)(hs:autoParam (ao (e::es) X.env=(false,eval e X.env)::ao es X.env) Qa):PA X (e::es) (L6 te t):=by
 intro pos pins s σ H Q I h;rw[hs];show wpAny _ _ (spliced ((false,eval e X.env)::bZ pos (ao es X.env))) _ _ s;refine o5 (fF (ha pins s σ H _ I h) λu s1 hPl=> ?_);obtain⟨x,H1,I1,r1,q1⟩:=hPl;exact fF (hr pos pins s1 σ H1 _ I1 q1) λus s2 hPl=>by obtain⟨xs,H2,I2,r2,q2⟩:=hPl;exact⟨x::xs,H2,I2,.cons r1 r2,q2⟩
def OO(t:TA):TE:=λσ H Q=>t σ H λxs H1=>xs.length<=ba/\∀p,H1 p=none->Q (.ref p) (upd H1 p (.tup xs))
def OU(t:TA):TE:=λσ H Q=>t σ H λxs H1=>xs.length<=ba/\∀p,H1 p=none->Q (.ref p) (upd H1 p (.lst xs))
theorem Jd{x1}(h:PA X es t):PE X (.Tuple es x1 pos) (OO t):=by
 intro pins s σ H Q I hq;refine wpAny_Tuple_spliced (fF (h pos pins s σ H _ I hq) λus s1 ⟨xs,H1,I1,r,z,q⟩=>⟨by rw[<-r.length];exact z,?_⟩);have hf:H1 s1.heap.objs.size=none:=I1.hok.fresh (ap _);refine⟨.ref s1.heap.objs.size,upd H1 s1.heap.objs.size (.tup xs),I1.laid (t':=s1.toks) (λb u e=>ai _ e) (ap _) ?_,rfl,q _ hf⟩;exact⟨z,us,r,⟨_,aF _ rfl,rfl,_,rfl⟩⟩
theorem Ji(h:PA X es t):PE X (.List es pos) (OU t):=by
 intro pins s σ H Q I hq;refine wpAny_List_spliced (fF (h pos pins s σ H _ I hq) λus s1 ⟨xs,H1,I1,r,z,q⟩=>⟨by rw[<-r.length];exact z,?_⟩);have hf:H1 s1.heap.objs.size=none:=I1.hok.fresh (ap _);refine⟨.ref s1.heap.objs.size,upd H1 s1.heap.objs.size (.lst xs),I1.laid (t':=s1.toks) (λb u e=>ai _ e) (ap _) ?_,rfl,q _ hf⟩;exact⟨z,us,0,r,aF _ rfl⟩
end
abbrev Sp:=List V->Hp->VK->XK->Prop
abbrev AY:=List Env->Hp->ag->XK->ae->ag->Prop
structure Env0(P:aG)(w:aX)(K:PySem.W.Frag)(mg:Str->Option ae)(base:Heap)(A:Around)(outer:List Env)(s:ag)(H:Hp):Prop where
 frames:A.frames=some outer
 mod:Mod K mg base
 bs:∀b o,base.get? b=some o->s.heap.get? b=some o/\H b=none
 bsz:base.objs.size<=s.heap.objs.size
 funs:s.heap.FunFrames base outer
 frf:∀b∈lW outer,H b=none
 hok:HOk P w H s.heap
 bare:l9 s.gens
def CE(outer:List Env)(P:aG)(w:aX)(H:Hp)(s:ag)(Q:VK)(u:ae)(s':ag):Prop:=
 ∃v H',s'.os=s.os/\l9 s'.gens/\Un (lW outer) [] H H' s.heap s'.heap/\HOk P w H' s'.heap/\RelV v u/\Q v H'
def CR(CX:AY)(outer:List Env)(P:aG)(w:aX)(H:Hp)(s:ag)(Q:VK)(E:XK)(r:Result)(s':ag):Prop:=
 match r with
 | .ok (.ret u)=>CE outer P w H s Q u s'
 | .ok _=>False
 | .error e=>CX outer H s E e s'
structure FnOk(P:aG)(w:aX)(K:PySem.W.Frag)(mg:Str->Option ae)(base:Heap)(CX:AY)(k:Nat)(f:Addr)(fd:bb)(ps:List Str)(sp:Sp):Prop where
 len:∀vs H Q E,sp vs H Q E->vs.length=ps.length
 run:∀(A:Around) (outer:List Env) (s:ag) (H:Hp) (args:Args) (us:List ae) (vs:List V) (Q:VK) (E:XK),Room k A->Env0 P w K mg base A outer s H->BindsTo s fd args (ps.zip us)->Vals vs us->sp vs H Q E->
  codeAny (aK P w) A (.call (.ref f) args) (CR CX outer P w H s Q E) s
theorem FnOk.mono{P:aG}{w:aX}{K:PySem.W.Frag}{mg:Str->Option ae}{base:Heap}{CX:AY}{j k:Nat}{f:Addr}{fd:bb}{ps:List Str}{sp:Sp}(F:FnOk P w K mg base CX j f fd ps sp)(h:j<=k):
  FnOk P w K mg base CX k f fd ps sp:=⟨F.len,λA outer s H args us vs Q E hr=>F.run A outer s H args us vs Q E (hr.mono h)⟩
theorem Env0.make{P:aG}{w:aX}{K:PySem.W.Frag}{mg:Str->Option ae}{base:Heap}{A:Around}{outer:List Env}{s:ag}{H:Hp}(e:Env0 P w K mg base A outer s H)(C:Addr)(us:List ae)(kw:List (Str×ae)):
  Env0 P w K mg base (A.under (.builtin "type.__call__" ⟨.ref C::us,kw⟩)) outer s H:=⟨by first|exact e.frames|(simpa [Around.under,Code.envs,Code.isFrame,pushEnvs]using e.frames),e.mod,e.bs,e.bsz,e.funs,e.frf,e.hok,e.bare⟩
section
variable{X:Cx}{pins:List (Addr×Obj)}{σ:St}{H:Hp}{s s':ag}
theorem Inv.env0(I:Inv X pins σ H s):Env0 X.prog X.w X.K X.mg X.base X.A X.stack s H:=
 ⟨I.ok.frames,I.ok.mod,I.bs,bj I.ok.bsz I.sz,I.stack,I.stkFree,I.hok,I.bare⟩
theorem Inv.after{Q:VK}{u:ae}(I:Inv X pins σ H s)(h:CE X.stack X.prog X.w H s Q u s'):EP X pins σ Q u s':=by
 obtain⟨v,H',os,bare,un,hok,r,q⟩:=h;obtain⟨hh,g,d,t,os'⟩:=s';obtain rfl:os'=s.os:=os;exact⟨v,H',I.call (h':=hh) (g':=g) (d':=d) (t':=t) (ch:=[]) un hok bare (λb z=>absurd z (by simp)),r,q⟩
end
def Bn(sp:Sp)(dvs:List V)(E:XK)(t:TA):TE:=λσ H Q=>t σ H λvs H1=>sp (vs++dvs) H1 Q E
def Bk(C:Addr)(m:Str)(sp:Sp)(dvs:List V)(E:XK)(ta:TE)(t:TA):TE:=λσ H Q=>ta σ H λx H1=>∃a dx fs,x= .ref a/\H1 a=some (.ins C dx fs)/\fs.lookup m=none/\
 t σ H1 λvs H2=>sp (x::(vs++dvs)) H2 Q E
def LZ(C:Addr)(sp:Sp)(dvs:List V)(E:XK)(t:TA):TE:=λσ H Q=>t σ H λvs H1=>∀x dx,H1 x=none->H1 dx=none->dx≠x->
 sp (.ref x::(vs++dvs)) (upd (upd H1 dx (.own x)) x (.ins C dx [])) (λv H2=>v= .non/\Q (.ref x) H2) E
def Binds(K:PySem.W.Frag)(fd:bb)(ps:List Str)(ds:List ae):Prop:=
 ∀(s:ag) (us:List ae),K.In s.heap->(us++ds).length=ps.length->BindsTo s fd ⟨us,[]⟩ (ps.zip (us++ds))
theorem Binds.all{K:PySem.W.Frag}{fd:bb}{ps:List Str}(h:∀us:List ae,us.length=ps.length->bindArgs fd ⟨us,[]⟩=pure (ps.zip us)):Binds K fd ps []:=λs us _ hl=>by
 rw[dz]at hl⊢;exact .of_eq (h us hl)
def jA(CX:AY)(X:Cx)(E:XK):Prop:=∀(pins:List (Addr×Obj)) (σ:St) (H:Hp) (s:ag) (e:ae) (s':ag),Inv X pins σ H s->CX X.stack H s E e s'->X.xe e s'
section
variable{X:Cx}{CX:AY}{k:Nat}{f C:Addr}{fd:bb}{ps:List Str}{sp:Sp}{dvs:List V}{ds:List ae}{E:XK}{x m:Str}{p pos apos:Pos}{e o:Expr}{es:List Expr}{ta:TE}{t:TA}
theorem ug{pins:List (Addr×Obj)}{σ:St}{H:Hp}{s:ag}{Q:VK}{us:List ae}{vs:List V}(F:FnOk X.prog X.w X.K X.mg X.base CX k f fd ps sp)(hr:Room k X.A)(hb:Binds X.K fd ps ds)(hd:Vals dvs ds)(hx:jA CX X E)
  (I:Inv X pins σ H s) (r:Vals vs us) (h:sp (vs++dvs) H Q E):wpAny (aK X.prog X.w) X.A (call (.ref f) us) (EP X pins σ Q) X.xe s:=by
 have r2:Vals (vs++dvs) (us++ds):=r.append hd;have hl:(us++ds).length=ps.length:=by rw[<-r2.length];exact F.len _ _ _ _ h
 refine nD (jl (F.run X.A X.stack s H ⟨us,[]⟩ (us++ds) (vs++dvs) Q E hr I.env0 (hb s us I.kIn hl) r2 h) λr s' hq=> ?_);cases r with
 |error e=>exact hx pins σ H s e s' I hq
 |ok fl=>
  cases fl with
  |ret u=>exact I.after hq
  |next=>exact bV hq
  |brk=>exact bV hq
  |cont=>exact bV hq
theorem Fq(F:FnOk X.prog X.w X.K X.mg X.base CX k f fd ps sp)(hr:Room k X.A)(hg:Gl X x)(hm:X.mg x=some (.ref f))(hk:PySem.W.keepIn X.K (.ref f)=true)(hb:Binds X.K fd ps ds)(hd:Vals dvs ds)(hx:jA CX X E)
  (ha:PA X (e::es) t) (hdb:autoParam ((x==("__debug__" :Str))=false) Qc) (he:autoParam (ao (e::es) X.env=(false,eval e X.env)::ao es X.env) Qa) (hpl:autoParam ((bZ pos (ao es X.env)).any (·.1)=false) Qa):
  PE X (.Call (.Name x p) (e::es) [] pos) (Bn sp dvs E t):=by
 intro pins s σ H Q I h;refine dH (kx I hg hm ?_ hdb);refine PySem.W.callWith_K (h₀:=X.base) I.ok.mod.kin hk (fF (ha pos pins s σ H _ I h) λus s1 ⟨vs,H1,I1,r,q⟩=>⟨I1.kIn,?_⟩) he hpl;exact ug F hr hb hd hx I1 r q
theorem Cn(F:FnOk X.prog X.w X.K X.mg X.base CX k f fd ps sp)(hr:Room k X.A)(hg:Gl X x)(hm:X.mg x=some (.ref f))(hk:PySem.W.keepIn X.K (.ref f)=true)(hb:Binds X.K fd ps ds)(hd:Vals dvs ds)(hx:jA CX X E)
  (hdb:autoParam ((x==("__debug__" :Str))=false) Qc):PE X (.Call (.Name x p) [] [] pos) (Bn sp dvs E Ir):=by
 intro pins s σ H Q I h;refine dH (kx I hg hm ?_ hdb);exact PySem.W.callWith_K0 I.kIn hk (ug (us:=[]) F hr hb hd hx I .nil h)
theorem yS{pl:Sem Bool}(he:PE X o ta)(c:Cls X.K C)(hm:xV X.K C m f)(F:FnOk X.prog X.w X.K X.mg X.base CX k f fd ps sp)(hr:Room k X.A)(hb:Binds X.K fd ps ds)(hd:Vals dvs ds)(hx:jA CX X E)(ha:PA X (e::es) t)
  (hst:autoParam (ao (e::es) X.env=(false,eval e X.env)::ao es X.env) Qa) (hpl:autoParam ((bZ pos (ao es X.env)).any (·.1)=false) Qa)
  (ht:autoParam (eval (.Call (.Attribute o m apos) (e::es) [] pos) X.env=(do
   let ov <-eval o X.env
   standAt apos.atName
   let(f,first) <-holding [ov] (mZ ov m pl)
   callWith pos f first (bZ pos (ao (e::es) X.env)) (im pos (eI [] X.env)))) Qa):
  PE X (.Call (.Attribute o m apos) (e::es) [] pos) (Bk C m sp dvs E ta t):=by
 intro pins s σ H Q I h;refine PySem.W.methodCall_KW (pl:=pl) (fF (he pins s σ H _ I h) λu s1 hPl=> ?_) ht;obtain⟨x,H1,I1,rx,a,dx,fs,ex,ea,l,q⟩:=hPl;subst ex;obtain rfl:u=aM a:=rx;refine rg I1 ea c hm l ?_;refine PySem.W.callWith_K (first:=[.ref a]) (h₀:=X.base) I.ok.mod.kin hm.kp (fF (ha pos pins s1 σ H1 _ I1 q) λus s2 ⟨vs,H2,I2,r,q2⟩=>⟨I2.kIn,?_⟩) hst hpl;exact ug (us:= .ref a::us) (vs:= .ref a::vs) F hr hb hd hx I2 (.cons rfl r) q2
theorem Cf{pl:Sem Bool}(he:PE X o ta)(c:Cls X.K C)(hm:xV X.K C m f)(F:FnOk X.prog X.w X.K X.mg X.base CX k f fd ps sp)(hr:Room k X.A)(hb:Binds X.K fd ps ds)(hd:Vals dvs ds)(hx:jA CX X E)
  (ht:autoParam (eval (.Call (.Attribute o m apos) [] [] pos) X.env=(do
   let ov <-eval o X.env
   standAt apos.atName
   let(f,first) <-holding [ov] (mZ ov m pl)
   callWith pos f first (bZ pos (ao [] X.env)) (im pos (eI [] X.env)))) Qa):
  PE X (.Call (.Attribute o m apos) [] [] pos) (Bk C m sp dvs E ta Ir):=by
 intro pins s σ H Q I h;refine PySem.W.methodCall_KW (pl:=pl) (fF (he pins s σ H _ I h) λu s1 hPl=> ?_) ht;obtain⟨x,H1,I1,rx,a,dx,fs,ex,ea,l,q⟩:=hPl;subst ex;obtain rfl:u=aM a:=rx;refine rg I1 ea c hm l ?_;exact PySem.W.callWith_K0 (first:=[.ref a]) I1.kIn hm.kp (ug (us:=[.ref a]) (vs:=[.ref a]) F hr hb hd hx I1 (.cons rfl .nil) q)
structure Mk(K:PySem.W.Frag)(C f:Addr):Prop where
 makes:PySem.W.makesIn K C=true
 init:PySem.W.findIn K (.ref C) "__init__" =some (some (.ref f))
 fn:PySem.W.isFn K (.ref f)=true
 kp:PySem.W.keepIn K (.ref C)=true
theorem BU{pins:List (Addr×Obj)}{σ:St}{H:Hp}{s:ag}{Q:VK}{us:List ae}{vs:List V}(M:Mk X.K C f)(F:FnOk X.prog X.w X.K X.mg X.base CX k f fd ps sp)(hr:Room (k+1) X.A)(hb:Binds X.K fd ps ds)(hd:Vals dvs ds)
  (hx:jA CX X E) (I:Inv X pins σ H s) (r:Vals vs us)
  (h:∀x dx,H x=none->H dx=none->dx≠x->sp (.ref x::(vs++dvs)) (upd (upd H dx (.own x)) x (.ins C dx [])) (λv H2=>v= .non/\Q (.ref x) H2) E):
  wpAny (aK X.prog X.w) X.A (call (.ref C) us) (EP X pins σ Q) X.xe s:=by
 have hq:=h (s.heap.objs.size+1) s.heap.objs.size (I.hok.fresh (eR _)) (I.hok.fresh (ap _)) (aN (dG _));have I2:=Inv.made (C:=C) I;have r2:Vals (V.ref (s.heap.objs.size+1)::(vs++dvs)) (aM (s.heap.objs.size+1)::(us++ds)):= .cons rfl (r.append hd);have hl:(aM (s.heap.objs.size+1)::us++ds).length=ps.length:=by
  have e:=r2.length;rw[F.len _ _ _ _ hq]at e;exact e.symm
 refine nD (Dc (f:=f) I.kIn M.makes M.init (beq_iff_eq.mp M.fn) (jl (F.run _ X.stack _ _ ⟨aM (s.heap.objs.size+1)::us,[]⟩ (aM (s.heap.objs.size+1)::(us++ds)) _ _ E (hr.make C us [])
  (I2.env0.make C us []) (hb _ (aM (s.heap.objs.size+1)::us) I2.kIn hl) r2 hq) λr s' hq'=> ?_))
 cases r with
 |error e=>exact hx pins σ _ _ e s' I2 hq'
 |ok fl=>
  cases fl with
  |ret u=>
   obtain⟨v,H',I3,rv,ev,q3⟩:=I2.after hq'
   subst ev
   exact⟨rv,⟨V.ref (s.heap.objs.size+1),H',I3,rfl,q3⟩⟩
  |next=>exact bV hq'
  |brk=>exact bV hq'
  |cont=>exact bV hq'
theorem Fm(M:Mk X.K C f)(F:FnOk X.prog X.w X.K X.mg X.base CX k f fd ps sp)(hr:Room (k+1) X.A)(hg:Gl X x)(hm:X.mg x=some (.ref C))(hb:Binds X.K fd ps ds)(hd:Vals dvs ds)(hx:jA CX X E)
  (ha:PA X (e::es) t) (hdb:autoParam ((x==("__debug__" :Str))=false) Qc) (he:autoParam (ao (e::es) X.env=(false,eval e X.env)::ao es X.env) Qa) (hpl:autoParam ((bZ pos (ao es X.env)).any (·.1)=false) Qa):
  PE X (.Call (.Name x p) (e::es) [] pos) (LZ C sp dvs E t):=by
 intro pins s σ H Q I h;refine dH (kx I hg hm ?_ hdb);refine PySem.W.callWith_K (h₀:=X.base) I.ok.mod.kin M.kp (fF (ha pos pins s σ H _ I h) λus s1 ⟨vs,H1,I1,r,q⟩=>⟨I1.kIn,?_⟩) he hpl;exact BU M F hr hb hd hx I1 r q
end
section
end
structure bp(N P:List Str)(sc:gu):Prop where
 kind:sc.kind= .function
 co:sc.isCoroutine=false
 gen:sc.isGenerator=false
 nd:N.Nodup
 pre:N.take P.length=P
 par:∀x∈P,sc.names.lookup x=some .local\/sc.names.lookup x=some .cell
 nofree:∀y∈sc.names,y.2≠ .free
theorem tH{kindOf:Str->Option eW}{x:Str}:∀{binds:List (Str×ae)} {m:Str->Option ae},(∀v,(x,v)∉binds)->bindL kindOf binds m x=m x
 |[],_,_=>rfl
 |(n,v)::r,m,h=>by
  unfold bindL;rw[tH λw hw=>h w (bC _ hw)];split
  ·have:x≠n:=by rintro rfl;exact h v dB
   simp[this]
  ·rfl
theorem tJ{kindOf:Str->Option eW}{x:Str}:∀{binds:List (Str×ae)} {m:Str->Option ae},(∀v,(x,v)∉binds)->bindC kindOf binds m x=m x
 |[],_,_=>rfl
 |(n,v)::r,m,h=>by
  unfold bindC;rw[tJ λw hw=>h w (bC _ hw)];split
  ·rfl
  ·have:x≠n:=by rintro rfl;exact h v dB
   simp[this]
theorem tI{kindOf:Str->Option eW}{x:Str}{v:ae}:∀{P:List Str} {vs:List ae} {i:Nat} {m:Str->Option ae},P.Nodup->P[i]? =some x->vs[i]? =some v->kindOf x=some .local->
  bindL kindOf (P.zip vs) m x=some v
 |[],_,_,_,_,h,_,_=>by simp at h
 |_::_,[],_,_,_,_,h,_=>by simp at h
 |p::P,w::vs,0,m,nd,h1,h2,hk=>by
  simp at h1 h2;subst h1;subst h2;show bindL kindOf ((p,w)::P.zip vs) m p=_;unfold bindL;rw[tH λv hv=>(dR.mp nd).1 (List.of_mem_zip hv).1,if_pos hk];simp
 |p::P,w::vs,i+1,m,nd,h1,h2,hk=>by
  show bindL kindOf ((p,w)::P.zip vs) m x=_;unfold bindL;exact tI (i:=i) (dR.mp nd).2 (by simpa using h1) (by simpa using h2) hk
theorem tK{kindOf:Str->Option eW}{x:Str}{v:ae}:∀{P:List Str} {vs:List ae} {i:Nat} {m:Str->Option ae},P.Nodup->P[i]? =some x->vs[i]? =some v->kindOf x≠some .local->
  bindC kindOf (P.zip vs) m x=some v
 |[],_,_,_,_,h,_,_=>by simp at h
 |_::_,[],_,_,_,_,h,_=>by simp at h
 |p::P,w::vs,0,m,nd,h1,h2,hk=>by
  simp at h1 h2;subst h1;subst h2;show bindC kindOf ((p,w)::P.zip vs) m p=_;unfold bindC;rw[tJ λv hv=>(dR.mp nd).1 (List.of_mem_zip hv).1,if_neg hk];simp
 |p::P,w::vs,i+1,m,nd,h1,h2,hk=>by
  show bindC kindOf ((p,w)::P.zip vs) m x=_;unfold bindC;exact tK (i:=i) (dR.mp nd).2 (by simpa using h1) (by simpa using h2) hk
def start(N:List Str)(vs:List V):St:=vs.map some++bz (N.length-vs.length) none
def iM(CX:AY)(P:aG)(w:aX)(K:PySem.W.Frag)(mg:Str->Option ae)(base:Heap)(N:List Str)(qual:Str)(scope:gu)(f:Addr)(cd:ae)(A:Around)(outer:List Env)(s:ag)(H:Hp)(E:XK):Cx where
 prog:=P
 w:=w
 K:=K
 mg:=mg
 base:=base
 A:=A.deeper (envOfC qual scope s.heap.objs.size f cd)
 N:=N
 s₀:=s
 H₀:=H
 env:=envOfC qual scope s.heap.objs.size f cd
 outer:=outer
 stack:=envOfC qual scope s.heap.objs.size f cd::outer
 ex:=[]
 calm:=true
 fn:=λ_=>true
 pn:=[]
 xe:=λe s'=>wpAny (aK P w) (A.deeper (envOfC qual scope s.heap.objs.size f cd)) (leaving (envOfC qual scope s.heap.objs.size f cd) e) (λ_ s''=>CX outer H s E e s'') (λe' s''=>CX outer H s E e' s'') s'
theorem we{sc:gu}{n:Nat}{x:Str}(h:sc.names.lookup x=some .cell):∃c,(cellsFrom n sc.names []).lookup x=some c:=by
 have q:=PySem.W.cellsFrom_some sc.names n [] (.inl h);exact kh.mp q
theorem As{CX:AY}{P:aG}{w:aX}{K:PySem.W.Frag}{mg:Str->Option ae}{base:Heap}{N ps:List Str}{qual:Str}{scope:gu}{f:Addr}{cd:ae}{A:Around}{outer:List Env}{s s1:ag}{H:Hp}{E:XK}{us:List ae}{vs:List V}
  (S:bp N ps scope) (hd:A.handled=none) (e0:Env0 P w K mg base A outer s H) (hl:vs.length=ps.length) (r:Vals vs us)
  (x:InCallC s s.heap.objs.size (bindL (envOfC qual scope s.heap.objs.size f cd).kindOf (ps.zip us) λ_=>none) (cellsFrom (s.heap.objs.size+1) scope.names []) (bindC (envOfC qual scope s.heap.objs.size f cd).kindOf (ps.zip us) λ_=>none) s1):
  Inv (iM CX P w K mg base N qual scope f cd A outer s H E) [] (start N vs) H s1:=by
 have hpl:ps.length<=N.length:=by have:=congrArg cX S.pre;rw[aO]at this;ac_nf
 obtain⟨h1,tk,rfl,hk⟩:=x.done;have noA:∀b:Addr,b∉(iM CX P w K mg base N qual scope f cd A outer s H E).ex:=λb z=>absurd (show b∈([]:List Addr)from z) (by simp);refine⟨⟨e0.mod,S.kind,rfl,rfl,ap _,λy z c h1 h2=> ?_,λy hy=> ?_,λy c _ h=> ?_,λ_=>hd,Around.frames_deeper e0.frames,.inr ⟨rfl,rfl⟩,λb z=>absurd z (noA b),e0.bs,e0.bsz,λb _ _=>noA b,λb z=>absurd z (noA b),e0.funs,e0.frf⟩,
  rfl,e0.bare,Un.kept hk,⟨_,x.toInCall.ns,λi y v h1 h2 h3=> ?_⟩,λy c h=>⟨_,x.cell y c h⟩,e0.hok.fresh (ap _),λy c h=> ?_,λp hp=>absurd (show p∈([]:List (Addr×Obj))from hp) (by simp),e0.hok.kept hk,?_⟩
 ·exact name_of_addr x.apart (PySem.mem_of_lookup h1) (PySem.mem_of_lookup h2)
 ·have hy:scope.names.lookup y=some .cell\/scope.names.lookup y=some .free:=hy;rcases hy with hy|hy
  ·exact we hy
  ·exact absurd rfl (S.nofree _ (PySem.mem_of_lookup hy))
 ·exact i5 (x.above y c (PySem.mem_of_lookup h))
 ·have hi:i<vs.length:=by
   unfold start at h2;by_cases hi:i<vs.length
   ·exact hi
   ·rw[cn (by simpa using hi)]at h2;rw[xY]at h2;split at h2<;>cases h2
  have ha:vs[i]? =some v:=by
   unfold start at h2;rw[dW (by simpa using hi),br]at h2;cases e:vs[i]? with
   |none=>rw[e]at h2;cases h2
   |some a=>rw[e]at h2;cases h2;rfl
  obtain⟨u,hu,rv⟩:=r.get ha
  have hp:ps[i]? =some y:=by
   rw[<-S.pre,List.getElem?_take_of_lt (by ac_nf)];exact h1
  have ndP:ps.Nodup:=by rw[<-S.pre];exact S.nd.sublist (List.take_sublist _ _)
  refine⟨u,rv,?_⟩
  rcases S.par y (cy hp)with k|k
  ·exact .inl ⟨k,tI ndP hp hu k⟩
  ·obtain⟨c,e⟩:=we (n:=s.heap.objs.size+1) k
   refine .inr ⟨.inl k,c,e,?_⟩
   have q:=x.cell y c e
   rw[tK ndP hp hu (by show scope.names.lookup y≠_;rw[k];decide)]at q
   exact q
 ·exact e0.hok.fresh (i5 (x.above y c (PySem.mem_of_lookup h)))
 ·unfold start;show _=N.length;rw[af,av,List.length_replicate];ac_nf
theorem HP{CX:AY}{P:aG}{w:aX}{K:PySem.W.Frag}{mg:Str->Option ae}{base:Heap}{k:Nat}{f:Addr}{name qual:Str}{params:Arguments}{body:List Stmt}{scope:gu}{dV kV doc pm cdv ct oc:ae}{an od:Option Addr}
  {osl:Array (Option ae)} {N ps:List Str} {sp:Sp} (lk:K.lookup f=some ⟨oc,od,.func (PySem.W.fnOf name qual params body scope dV kV doc pm an cdv ct),osl⟩) (hcd:PySem.W.codeIn K cdv qual=true) (S:bp N ps scope)
  (len:∀vs H Q E,sp vs H Q E->vs.length=ps.length)
  (hbody:∀(A:Around) (outer:List Env) (s:ag) (H:Hp) (vs:List V) (Q:VK) (E:XK),Room k (A.deeper (envOfC qual scope s.heap.objs.size f cdv))->sp vs H Q E->
   ∃t,PSs (iM CX P w K mg base N qual scope f cdv A outer s H E) body t/\t {nx:=λ_ H'=>Q .non H',rt:=Q} (start N vs) H):
  FnOk P w K mg base CX (k+1) f (PySem.W.fnOf name qual params body scope dV kV doc pm an cdv ct) ps sp:=by
 refine⟨len,λA outer s H args us vs Q E hr e0 hb r hsp=> ?_⟩;have hl:=len _ _ _ _ hsp;have KX:K.In s.heap:=e0.mod.kin.keeps λb o e=>(e0.bs b o e).1;have lim:s.heap.NoLimit:=e0.mod.nolimit.keeps λb o e=>(e0.bs b o e).1;have hkind:∀y∈ps.zip us,scope.names.lookup y.1=some .local\/(scope.names.lookup y.1=some .cell/\((cellsFrom (s.heap.objs.size+1) scope.names []).lookup y.1).isSome=true):=λ⟨n,v⟩ hy=>by
  rcases S.par n (List.of_mem_zip hy).1 with q|q
  ·exact .inl q
  ·exact .inr ⟨q,PySem.W.cellsFrom_some _ _ _ (.inl q)⟩
 refine codeAny_call_function hr.depth (KX _ _ lk) rfl S.co S.gen rfl (PySem.W.codeRec_of KX hcd) (hb _ _ _ _ ?_);refine wpAny_newFunctionEnv_cells S.kind hkind λenv he s1 x=> ?_;subst he;refine⟨lim.keeps x.toInCall.keep,codeAny_func ?_⟩;obtain⟨t,ht,hq⟩:=hbody A outer s H vs Q E (hr.deeper _) hsp;have I:Inv (iM CX P w K mg base N qual scope f cdv A outer s H E) [] (start N vs) H s1:=As S hr.hd e0 hl r x;refine bh (ht [] s1 (start N vs) H _ I hq) (λfl s' hs=> ?_) λe s' hs=>hs;have fin:∀{σ':St} {H':Hp} {v:V} {u:ae},Inv (iM CX P w K mg base N qual scope f cdv A outer s H E) [] σ' H' s'->RelV v u->Q v H'->CE outer P w H s Q u s':=
  fun{σ' H' v u} J rv q=>⟨v,H',J.os,J.bare,J.base,J.hok,rv,q⟩
 cases fl with
 |ret u=>
  obtain⟨v,σ',H',J,rv,q⟩:=hs
  exact fin J rv q
 |next=>
  obtain⟨σ',H',J,q⟩:=hs
  exact fin (v:=V.non) (u:=bF) J rfl q
 |brk=>
  obtain⟨_,_,_,q⟩:=hs
  exact bV q
 |cont=>
  obtain⟨_,_,_,q⟩:=hs
  exact bV q
section
variable{X:Cx}{x:Str}{p pos:Pos}{e:Expr}{es:List Expr}{t:TA}{id T:String}{r:List V->Hp->VK->Prop}
def OY(r:List V->Hp->VK->Prop)(t:TA):TE:=λσ H Q=>t σ H λvs H1=>r vs H1 Q
theorem Cm(hc:eT X (.builtin id) r)(hg:Gl X x)(hm:X.mg x=none)(hv:bN x=some (.builtin id))(ha:PA X (e::es) t)(hn:autoParam (x≠ "__name__") Qc)(hdb:autoParam ((x==("__debug__" :Str))=false) Qc)
  (he:autoParam (ao (e::es) X.env=(false,eval e X.env)::ao es X.env) Qa) (hpl:autoParam ((bZ pos (ao es X.env)).any (·.1)=false) Qa):PE X (.Call (.Name x p) (e::es) [] pos) (OY r t):=by
 intro pins s σ H Q I h;refine dH (mS I hg hm hv ?_ hn hdb);exact nt (fF (ha pos pins s σ H _ I h) λus s1 ⟨vs,H1,I1,r1,q1⟩=>hc pins s1 σ H1 vs us Q I1 r1 q1) he hpl
theorem zX(hc:eT X (.type T) r)(hg:Gl X x)(hm:X.mg x=none)(hv:bN x=some (.type T))(ha:PA X (e::es) t)(hn:autoParam (x≠ "__name__") Qc)(hdb:autoParam ((x==("__debug__" :Str))=false) Qc)
  (he:autoParam (ao (e::es) X.env=(false,eval e X.env)::ao es X.env) Qa) (hpl:autoParam ((bZ pos (ao es X.env)).any (·.1)=false) Qa):PE X (.Call (.Name x p) (e::es) [] pos) (OY r t):=by
 intro pins s σ H Q I h;refine dH (mS I hg hm hv ?_ hn hdb);exact fM (fF (ha pos pins s σ H _ I h) λus s1 ⟨vs,H1,I1,r1,q1⟩=>hc pins s1 σ H1 vs us Q I1 r1 q1) he hpl
end
end L2
namespace HT
open PySem PyProof.Rows
section
open PySem.SeqAt
open PySem.AutoSeq1 (wpAny_loadPart')
open PySem.MeetsSeq PySem.MeetsSeq2 PySem.MeetsSeq3
end
section
variable{prog:aG}{w:aX}{A:Around}{E:ae->ag->Prop}{s:ag}
theorem cat_tup{t b:Addr}{vs ws:List ae}{Q:ae->ag->Prop}(ht:IsTup s.heap t vs.toArray)(hb:IsTup s.heap b ws.toArray)(hv:vs≠[])
  (h1:ws=[]->Q (.ref t) s) (h2:ws≠[]->Q (.ref s.heap.objs.size) {s with heap:=s.heap.push {cls:= .type "tuple",data:= .seq (vs++ws).toArray}})
  (hsz:vs.length+ws.length<=ba):wpAny (aK prog w) A (dC .Add (.ref t) (.ref b)) Q E s:=by
 obtain⟨⟨cls,dd,data,sl⟩,ho,hc,n,hd⟩:=id ht;obtain⟨⟨cls2,dd2,data2,EW⟩,ho2,hc2,n2,hd2⟩:=id hb;simp only at hc hd hc2 hd2;subst hc hd hc2 hd2;have e:vs.toArray++ws.toArray=(vs++ws).toArray:=by simp
 by_cases hw:ws=[]
 ·exact concat_meets ⟨_,ho,rfl⟩ ⟨_,ho2,rfl⟩ noFill_tuple_add seq_tuple_add PySem.F.slot_tuple_add PySem.F.entry_tuple_add (PySem.F.args_tuple_add_2 _ _)
   (tuple_addW1 t b vs.toArray ws.toArray n n2 dd dd2 sl EW (by simpa using hv) (by simp[hw])) ⟨ho,ho2,h1 hw⟩
 ·refine concat_meets ⟨_,ho,rfl⟩ ⟨_,ho2,rfl⟩ noFill_tuple_add seq_tuple_add PySem.F.slot_tuple_add PySem.F.entry_tuple_add (PySem.F.args_tuple_add_2 _ _)
   (tuple_addW2 t b vs.toArray ws.toArray n n2 dd dd2 sl EW (by simpa using hv) (by simpa using hw) (by rw[aq,aq];exact hsz)) ⟨ho,ho2,?_⟩
  rw[e];exact h2 hw
def sIx(n d:Nat):Option Int->Nat
 |none=>d
 |some v=>if v<0 then(v+(n:Int)).toNat else min v.toNat n
theorem IJ(n d:Nat)(hd:d<=n)(o:Option Int):sIx n d o<=n:=by
 cases o with
 |none=>exact hd
 |some v=>
  show(if v<0 then(v+(n:Int)).toNat else min v.toNat n)<=n
  by_cases hv:v<0
  ·rw[if_pos hv];ac_nf
  ·rw[if_neg hv];exact Nat.min_le_right _ _
theorem zu(v:Int)(n d:Nat):(if v<0 then max (v+(n:Int)) 0 else min v (n:Int))=((sIx n d (some v):Nat):Int):=by
 show(if v<0 then max (v+(n:Int)) 0 else min v (n:Int))=(((if v<0 then(v+(n:Int)).toNat else min v.toNat n):Nat):Int);by_cases hv:v<0
 ·simp only[if_pos hv];ac_nf
 ·simp only[if_neg hv];ac_nf
theorem xU(lo hi:Option Int)(n:Nat):eM lo hi 1 (n:Int)=(((sIx n 0 lo:Nat):Int),((sIx n n hi:Nat):Int)):=by
 have h1:¬((1:Int)<0):=by ac_nf
 unfold eM;simp only[h1,if_false];refine Prod.ext ?_ ?_
 ·cases lo with
  |none=>rfl
  |some v=>exact zu v n 0
 ·cases hi with
  |none=>rfl
  |some v=>exact zu v n n
theorem xh(i j:Nat):ck (i:Int) (j:Int) 1=j-i:=by
 unfold ck;have h1:(1:Int)>0:=by ac_nf
 simp only[h1,if_true,Int.ediv_one];split<;>ac_nf
theorem js{v:ae}{o:Option Int}{Q:Option Int->ag->Prop}(p:IsPart v o)(h:Q o s):wpAny (aK prog w) A (Builtin.Slice.slicePartIndex v) Q E s:=by
 cases p with
 |none=>exact slicePart_none h
 |int i t=>exact slicePart_int h
theorem sliceApplied_gen{sl:Addr}{vl vu:ae}{lo hi:Option Int}{n:Nat}{Q:Int×Int×Nat->ag->Prop}(hs:s.heap.IsSliceOf sl vl vu .none)(pl:IsPart vl lo)(pu:IsPart vu hi)
  (h:Q (((sIx n 0 lo:Nat):Int),1,sIx n n hi-sIx n 0 lo) s):wpAny (aK prog w) A (fR (.ref sl) (pure (n:Int))) Q E s:=by
 obtain⟨os,hos,hcs,hds⟩:=id hs;unfold fR pF;refine aa (aa (cT hos hds (x:=vl) rfl (aa (cT hos hds (x:=vu) rfl (aa (cT hos hds (x:= .none) rfl (ah ?_)))))));refine aa (slicePart_none ?_);show wpAny _ _ (if((1:Int)==0)=true then _ else _) _ _ s;rw[if_neg (by decide)];refine aa (js pl (aa (js pu (aa (ah ?_)))));show wpAny _ _ (match eM lo hi 1 (n:Int)with|(lo,hi)=>pure (lo,(1:Int),ck lo hi 1)) _ _ s;rw[xU lo hi n];show wpAny _ _ (pure (((sIx n 0 lo:Nat):Int),(1:Int),ck ((sIx n 0 lo:Nat):Int) ((sIx n n hi:Nat):Int) 1)) _ _ s;rw[xh];exact ah h
theorem Cb(xs:Array ae)(i k:Nat):((bQ k).filterMap fun(m:Nat)=>xs[((i:Int)+(m:Int)*1).toNat]?).toArray=((xs.toList.drop i).take k).toArray:=by
 have e:(fun(m:Nat)=>xs[((i:Int)+(m:Int)*1).toNat]?)=λm=>xs[i+m]? :=by
  funext m;have:((i:Int)+(m:Int)*1).toNat=i+m:=by ac_nf
  rw[this]
 rw[e];have:=pick_run xs i k;rw[List.filterMap_map]at this;have e2:((λx=>xs[x]?)∘λx=>i+x)=λm=>xs[i+m]? :=rfl;rw[e2]at this;rw[this]
theorem getItem_tuple_cut{t sl:Addr}{items:Array ae}{vl vu:ae}{lo hi:Option Int}{Q:ae->ag->Prop}(ht:IsTup s.heap t items)(hs:s.heap.IsSliceOf sl vl vu .none)(pl:IsPart vl lo)(pu:IsPart vu hi)
  (hw:¬(sIx items.size 0 lo=0/\sIx items.size items.size hi=items.size))
  (h:Q (.ref s.heap.objs.size) {s with heap:=s.heap.push {cls:= .type "tuple",data:= .seq ((items.toList.drop (sIx items.size 0 lo)).take (sIx items.size items.size hi-sIx items.size 0 lo)).toArray}})
  (hsz:items.size<=ba):wpAny (aK prog w) A (getItem (.ref t) (.ref sl)) Q E s:=by
 have htake:sizeOk (.seq ((items.toList.drop (sIx items.size 0 lo)).take (sIx items.size items.size hi-sIx items.size 0 lo)).toArray):=by
  show((items.toList.drop (sIx items.size 0 lo)).take (sIx items.size items.size hi-sIx items.size 0 lo)).toArray.size<=ba;rw[aq,aO,aW,aE];ac_nf
 have hj:sIx items.size items.size hi<=items.size:=IJ _ _ (ap _) hi;obtain⟨os,hos,hcs,hds⟩:=id hs;have hTs:s.TypeIs (.ref sl) "slice" :=⟨os,hos,hcs⟩;unfold getItem;try with_reducible refine b6 ?_
 first|refine aa (ah ?_)|skip
 refine aa (tU ht.typeIs (by decide) ?_);refine aa (cu (name:=al "__getitem__") ht.typeIs bx
  (cr bx ht.typeIs rA ?_ (sv _ _)))
 show wpAny _ _ (ja (.ref t)>>=_) _ _ s;refine aa (tupleItemsOf_ ht ?_);refine aa (kj hTs ?_);rw[if_pos (by decide)];refine aa (sliceApplied_gen hs pl pu ?_);have hno:¬((((sIx items.size 0 lo:Nat):Int)==0&&(1:Int)==1&&(sIx items.size items.size hi-sIx items.size 0 lo)==items.size)=true):=by
  intro q;rw[aB,aB]at q;have q1:((sIx items.size 0 lo:Nat):Int)=0:=eq_of_beq q.1.1;have q2:sIx items.size items.size hi-sIx items.size 0 lo=items.size:=eq_of_beq q.2;exact hw ⟨by ac_nf,by ac_nf⟩
 show wpAny _ _ (if(((sIx items.size 0 lo:Nat):Int)==0&&(1:Int)==1&&(sIx items.size items.size hi-sIx items.size 0 lo)==items.size)=true then _ else _) _ _ s;rw[if_neg hno,Cb];first
  |exact aa (m:=cw _) (bI (ah ⟨_,rfl,ah h⟩) htake)
  |exact aa (m:=cw _) (bI (aa (ah (ah ⟨_,rfl,ah h⟩))) htake)
  |exact aa (aa (m:=cw _) (bI (ah (ah ⟨_,rfl,ah h⟩)) htake))
  |exact aa (aa (m:=cw _) (bI (ah ⟨_,rfl,ah h⟩) htake))
end
end HT
namespace L2
open PySem PySem.Spec PyProof.Rows
abbrev TO:=St->Hp->(Option Int->Hp->Prop)->Prop
def PO(X:Cx)(e:Option Expr)(t:TO):Prop:=
 ∀(pins:List (Addr×Obj)) (s:ag) (σ:St) (H:Hp) (Q:Option Int->Hp->Prop),Inv X pins σ H s->t σ H Q->
  wpAny (aK X.prog X.w) X.A (evalPart e X.env) (λu s'=>∃o H',Inv X pins σ H' s'/\IsPart u o/\Q o H') X.xe s
def ET:TO:=λ_ H Q=>Q none H
def LW(t:TE):TO:=λσ H Q=>t σ H λx H1=>∃i,x= .int i/\Q (some i) H1
theorem rf{ns:List Int}:∀{us:List ae},Vals (ns.map V.int) us->IntsAre us ns:=by
 induction ns with
 |nil=>intro us r;rw[fW]at r;cases r;exact .nil
 |cons n ns ih=>
  intro us r
  rw[aU]at r
  cases r with
  |cons r1 r2=>
   obtain⟨t,e⟩:=r1
   subst e
   exact .cons n t (ih r2)
section
variable{X:Cx}{e:Expr}{te:TE}{lo hi:Option Expr}{tl th:TO}{pos p2:Pos}
theorem Fk:PO X none ET:=by
 intro pins s σ H Q I h;rw[evalPart_none];exact ah ⟨none,H,I,.none,h⟩
theorem Fj(h:PE X e te):PO X (some e) (LW te):=by
 intro pins s σ H Q I hw;rw[evalPart_some];refine fF (h pins s σ H _ I hw) λu s1 hPl=> ?_;obtain⟨x,H1,I1,r1,q1⟩:=hPl;obtain⟨i,rfl,q⟩:=q1;obtain⟨t,rfl⟩:=r1;exact⟨some i,H1,I1,.int i t,q⟩
def LD(X:Cx)(r:V->Option Int->Option Int->Hp->VK->Prop):Prop:=
 ∀(pins:List (Addr×Obj)) (s:ag) (σ:St) (H:Hp) (x:V) (v vl vu:ae) (lo hi:Option Int) (sl:Addr) (Q:VK),Inv X pins σ H s->RelV x v->s.heap.IsSliceOf sl vl vu .none->IsPart vl lo->IsPart vu hi->r x lo hi H Q->
  ∃T id,typeLookup (.type T) "__getitem__" =pure (some (.builtin id))/\s.TypeIs v T/\wpAny (aK X.prog X.w) X.A (getItem v (.ref sl)) (EP X pins σ Q) X.xe s
def tSl(r:V->Option Int->Option Int->Hp->VK->Prop)(te:TE)(tl th:TO):TE:=λσ H Q=>te σ H λx H1=>tl σ H1 λl H2=>th σ H2 λu H3=>r x l u H3 Q
theorem Ce{r:V->Option Int->Option Int->Hp->VK->Prop}(hr:LD X r)(he:PE X e te)(hl:PO X lo tl)(hu:PO X hi th):PE X (.Subscript e (.Slice lo hi none p2) pos) (tSl r te tl th):=by
 intro pins s σ H Q I h;refine Subscript_ (fF (he pins s σ H _ I h) λv s1 hPl=> ?_);obtain⟨x,H1,I1,r1,q1⟩:=hPl;refine wpAny_Slice (fF (hl pins s1 σ H1 _ I1 q1) λvl s2 ⟨l,H2,I2,pl,q2⟩=>fF (hu pins s2 σ H2 _ I2 q2) λvu s3 ⟨u,H3,I3,pu,q3⟩=> ?_);rw[evalPart_none];refine ah ?_;have I4:Inv X pins σ H3 {s3 with heap:=s3.heap.push {cls:= .type "slice",data:= .fields #[vl,vu,.none]}}:=I3.kept (t':=s3.toks) λb ob q=>ai _ q;obtain⟨T,id,hT,ht,hg⟩:=hr pins {s3 with heap:=s3.heap.push {cls:= .type "slice",data:= .fields #[vl,vu,.none]}} σ H3 x v vl vu l u s3.heap.objs.size Q I4 r1 (lf ..) pl pu q3;show wpAny (aK X.prog X.w) X.A (subscriptTail e (.Slice lo hi none p2) v (.ref s3.heap.objs.size)) (EP X pins σ Q) X.xe {s3 with heap:=s3.heap.push {cls:= .type "slice",data:= .fields #[vl,vu,.none]}};exact tail_any (ops:=[.ref s3.heap.objs.size,v]) ht hT hg (by with_unfolding_all rfl)
def uG(xs:List V)(lo hi:Option Int):List V:=(xs.drop (HT.sIx xs.length 0 lo)).take (HT.sIx xs.length xs.length hi-HT.sIx xs.length 0 lo)
theorem pA(xs:List V)(lo hi:Option Int):(uG xs lo hi).length<=xs.length:=by
 unfold uG;rw[aO,aW];ac_nf
def O9(K:PySem.W.Frag):V->Option Int->Option Int->Hp->VK->Prop:=λx lo hi H Q=>∃a xs,x= .ref a/\SqT K H a xs/\
 ¬(HT.sIx xs.length 0 lo=0/\HT.sIx xs.length xs.length hi=xs.length)/\∀p,H p=none->Q (.ref p) (upd H p (.tup (uG xs lo hi)))
theorem IB:LD X (O9 X.K):=by
 intro pins s σ H x v vl vu lo hi sl Q I rx hs pl pu h;obtain⟨a,xs,rfl,hx,hw,q⟩:=h;cases rx;obtain⟨its,r,ht,hz⟩:=I.tuple hx;have hlen:its.toArray.size=xs.length:=by rw[aq];exact r.length.symm
 refine⟨"tuple",_,bx.lookup,ht.typeIs,?_⟩;refine HT.getItem_tuple_cut ht hs pl pu (by rw[hlen];exact hw) ?_ (by rw[hlen];exact hz);rw[hlen];refine⟨.ref s.heap.objs.size,_,I.laid (t':=s.toks) (o:= .tup (uG xs lo hi)) (λb ob q=>ai _ q) (ap _) ?_,rfl,q _ (I.hok.fresh (ap _))⟩;exact⟨bj (pA xs lo hi) hz,_,(r.drop (HT.sIx xs.length 0 lo)).take (HT.sIx xs.length xs.length hi-HT.sIx xs.length 0 lo),IsTup.new _ _⟩
def Mr(K:PySem.W.Frag):R2:=λx y H Q=>∃a b xs ys,x= .ref a/\y= .ref b/\SqT K H a xs/\SqT K H b ys/\xs≠[]/\xs.length+ys.length<=ba/\
 (ys=[]->Q (.ref a) H)/\(ys≠[]->∀p,H p=none->Q (.ref p) (upd H p (.tup (xs++ys))))
theorem Vals.nil_iff{xs:List V}{us:List ae}(r:Vals xs us):us=[]↔xs=[]:=by
 cases r with
 |nil=>simp
 |cons _ _=>simp
theorem Fw:ik X (dC .Add) (Mr X.K):=by
 intro pins s σ H x y v u Q I rx ry h;obtain⟨a,b,xs,ys,rfl,rfl,ha,hb,hx,hz,q1,q2⟩:=h;cases rx;cases ry;obtain⟨its,r1,p1,_⟩:=I.tuple ha;obtain⟨its2,r2,p2,_⟩:=I.tuple hb;refine HT.cat_tup p1 p2 (λz=>hx (r1.nil_iff.mp z)) (λz=>⟨.ref a,H,I,rfl,q1 (r2.nil_iff.mp z)⟩) (λz=> ?_) (by rw[<-r1.length,<-r2.length];exact hz);refine⟨.ref s.heap.objs.size,_,I.laid (t':=s.toks) (o:= .tup (xs++ys)) (λb ob q=>ai _ q) (ap _) ?_,rfl,q2 (λw=>z (r2.nil_iff.mpr w)) _ (I.hok.fresh (ap _))⟩;exact⟨by rw[af];exact hz,_,r1.append r2,IsTup.new _ _⟩
end
def DK(n:Nat)(i:Int):Option Nat:=if 0<=i then(if i<n then some i.toNat else none)else if-(n:Int)<=i then some (i+n).toNat else none
def tL{α:Type}(xs:List α)(i:Int):Option α:=(DK xs.length i).bind λj=>xs[j]?
theorem za{n:Nat}{i:Int}{j:Nat}(h:DK n i=some j):seqIndex? i n=some j/\j<n/\-(n:Int)<=i/\i<n:=by
 unfold DK at h;by_cases h0:0<=i
 ·rw[if_pos h0]at h;by_cases h1:i<n
  ·rw[if_pos h1]at h;have e:i.toNat=j:=bt h;exact⟨by rw[seqIndex_of h0 h1,e],by ac_nf,by ac_nf,h1⟩
  ·rw[if_neg h1]at h;cases h
 ·rw[if_neg h0]at h;by_cases h1: -(n:Int)<=i
  ·rw[if_pos h1]at h;have e:(i+n).toNat=j:=bt h;exact⟨by rw[seqIndex_neg (by ac_nf) h1,e],by ac_nf,h1,by ac_nf⟩
  ·rw[if_neg h1]at h;cases h
theorem uM{α:Type}{xs:List α}{i:Int}{v:α}(h:tL xs i=some v):∃j,seqIndex? i xs.length=some j/\xs[j]? =some v/\j<xs.length/\-(xs.length:Int)<=i/\i<xs.length:=by
 unfold tL at h;cases e:DK xs.length i with
 |none=>rw[e]at h;cases h
 |some j=>
  rw[e]at h
  obtain⟨h1,h2,h3,h4⟩:=za e
  exact⟨j,h1,h,h2,h3,h4⟩
theorem kF{α:Type}{xs:List α}{j:Nat}{v:α}(h:xs[j]? =some v):tL xs (j:Int)=some v:=by
 have hj:j<xs.length:=(ak.mp h).1;have e:DK xs.length (j:Int)=some j:=by
  unfold DK;rw[if_pos (by ac_nf),if_pos (by ac_nf)];simp
 unfold tL;rw[e];exact h
def uO(b:Expr):Prop:=∀o i,subscripted b false o i=operate [o,i] (getItem o i)
def LO(X:Cx)(r:R2):Prop:=
 ∀(value slice:Expr) (pins:List (Addr×Obj)) (s:ag) (σ:St) (H:Hp) (x y:V) (v u:ae) (Q:VK),Inv X pins σ H s->RelV x v->RelV y u->r x y H Q->
  subscripted slice false v u=operate [v,u] (getItem v u)->wpAny (aK X.prog X.w) X.A (subscriptTail value slice v u) (EP X pins σ Q) X.xe s
def AX(X:Cx)(id:String)(r:V->List V->Hp->VK->Prop):Prop:=
 ∀(pins:List (Addr×Obj)) (s:ag) (σ:St) (H:Hp) (x:V) (xs:List V) (v:ae) (us:List ae) (Q:VK),Inv X pins σ H s->RelV x v->Vals xs us->r x xs H Q->
  wpAny (aK X.prog X.w) X.A (call (.builtin id) (v::us)) (EP X pins σ Q) X.xe s
section
variable{X:Cx}{a b:Expr}{ta tb:TE}{pos:Pos}
theorem MC{r:R2}(hr:LO X r)(ha:PE X a ta)(hb:PE X b tb)(hs:uO b):PE X (.Subscript a b pos) (LX r ta tb):=by
 intro pins s σ H Q I h;exact Subscript_ (Lz ha hb I h λv u s2 x y H2 I2 rx ry q=>hr a b pins s2 σ H2 x y v u Q I2 rx ry q (hs _ _))
def Ph(K:PySem.W.Frag):R2:=λx y H Q=>∃p xs i v,x= .ref p/\y= .int i/\SqL K H p xs/\tL xs i=some v/\Q v H
def Pf(K:PySem.W.Frag):R2:=λx y H Q=>∃p xs i v,x= .ref p/\y= .int i/\SqT K H p xs/\tL xs i=some v/\Q v H
def Pg:R2:=λx y H Q=>∃z i c,x= .str z/\y= .int i/\z.length<=ba/\tL z.cps.toList i=some c/\Q (.str ⟨#[c]⟩) H
theorem GD:LO X (Ph X.K):=by
 intro value slice pins s σ H x y v u Q I rx ry h hs;obtain⟨p,xs,i,z,rfl,rfl,hq,he,q⟩:=h;cases rx;obtain⟨t,rfl⟩:=ry;obtain⟨its,r,pl,hz⟩:=I.list hq;obtain⟨j,h1,h2,h3,h4,h5⟩:=uM he;obtain⟨w,ew,rw'⟩:=r.get h2;have hl:=r.length;have hn:=oQ;have fin:EP X pins σ Q w s:=⟨z,H,I,rw',q⟩;by_cases h0:0<=i
 ·have hj:i.toNat=j:=by
   rw[seqIndex_of h0 h5]at h1;exact bt h1
  exact item_listR pl.isList h0 (by ac_nf) (by rw[hj];simpa using ew) fin hs
 ·have hj:(i+(its.toArray.size:Int)).toNat=j:=by
   rw[seqIndex_neg (by ac_nf) h4]at h1;rw[aq,<-hl];exact bt h1
  exact subscriptTail_builtinR (x:=w) pl.isList.typeIs ue.lookup
   (wpAny_getItem_list_neg (Q:=λr s'=>r=w/\EP X pins σ Q r s') pl.isList (by ac_nf) (by rw[aq]<;>ac_nf) (by ac_nf) (by rw[hj];simpa using ew) ⟨rfl,fin⟩) hs
theorem KY:LO X (Pf X.K):=by
 intro value slice pins s σ H x y v u Q I rx ry h hs;obtain⟨p,xs,i,z,rfl,rfl,hq,he,q⟩:=h;cases rx;obtain⟨t,rfl⟩:=ry;obtain⟨its,r,pl,hz⟩:=I.tuple hq;obtain⟨j,h1,h2,h3,h4,h5⟩:=uM he;obtain⟨w,ew,rw'⟩:=r.get h2;have hl:=r.length;have hn:=oQ;have fin:EP X pins σ Q w s:=⟨z,H,I,rw',q⟩;exact subscriptTail_builtinR (x:=w) pl.typeIs slot_tuple_getitem.lookup
  (getItem_tuple (j:=j) (Q:=λr s'=>r=w/\EP X pins σ Q r s') pl (by ac_nf) (by ac_nf) (by rw[aq,<-hl];exact h1) (by simpa using ew) ⟨rfl,fin⟩) hs
theorem KZ:LO X Pg:=by
 intro value slice pins s σ H x y v u Q I rx ry h hs;obtain⟨z,i,c,rfl,rfl,hz,he,q⟩:=h;obtain⟨t,rfl⟩:=rx;obtain⟨t',rfl⟩:=ry;obtain⟨j,h1,h2,h3,h4,h5⟩:=uM he;have hl:z.cps.toList.length=z.length:=by simp[mi]
 rw[hl]at h1 h4 h5;have hn:=oQ;exact tail_any (typeIs_str s z t) slot_str_getitem.lookup (getItem_str (c:=c) (by
  have e1:decide (i< -(2^63:Int))=false:=decide_eq_false (by ac_nf);have e2:decide (i≥2^63)=false:=decide_eq_false (by ac_nf);rw[e1,e2,Bool.or_false]) (by rw[h1];simpa using h2) ⟨.str ⟨#[c]⟩,H,I.tok _,⟨_,rfl⟩,q⟩) hs
theorem xt(its:List ae)(n j:Nat)(u:ae):cI (·.setIfInBounds j u) {cls:= .type "list",data:= .seq its.toArray n}={cls:= .type "list",data:= .seq (its.set j u).toArray n}:=by
 simp[cI]
theorem Inv.lst{pins:List (Addr×Obj)}{σ:St}{H:Hp}{s:ag}{p:Addr}{xs:List V}(I:Inv X pins σ H s)(h:H p=some (.lst xs)):
  ∃(its:List ae) (n:Nat),Vals xs its/\s.heap.get? p=some {cls:= .type "list",data:= .seq its.toArray n}/\xs.length<=ba:=by
 obtain⟨z,its,n,r,e⟩:=I.hok p _ h;exact⟨its,n,r,e,z⟩
theorem Inv.lstUpd{pins:List (Addr×Obj)}{σ:St}{H:Hp}{s:ag}{p:Addr}{xs ys:List V}{its its':List ae}{n n':Nat}{f:Obj->Obj}(I:Inv X pins σ H s)(h:H p=some (.lst xs))
  (ho:s.heap.get? p=some {cls:= .type "list",data:= .seq its.toArray n}) (hf:f {cls:= .type "list",data:= .seq its.toArray n}={cls:= .type "list",data:= .seq its'.toArray n'}) (r:Vals ys its') (hz:ys.length<=ba) (t:Nat):
  Inv X pins σ (upd H p (.lst ys)) {s with heap:=s.heap.update p f,toks:=t}:=by
 have e:(s.heap.update p f).get? p=some {cls:= .type "list",data:= .seq its'.toArray n'}:=by
  rw[de f ho (by rw[hf]<;>rfl),hf]
 refine I.write (x:=p) (e:=p) (by rw[h];trivial) (.inl rfl) (λb u hb q=>(bW _ _ (aY hb)).trans q) ⟨_,e⟩ ?_;exact⟨hz,its',n',r,e⟩
def Mp:V->V->V->Hp->(Hp->Prop)->Prop:=λo i v H Q=>∃p xs k j,o= .ref p/\i= .int k/\H p=some (.lst xs)/\DK xs.length k=some j/\Q (upd H p (.lst (xs.set j v)))
theorem BC:PSet X Mp:=by
 intro pins s σ H o i v ov iv u Q I ro ri rv h;obtain⟨p,xs,k,j,rfl,rfl,hp,hj,q⟩:=h;cases ro;obtain⟨t,rfl⟩:=ri;obtain⟨its,n,r,ho,hz⟩:=I.lst hp;obtain⟨h1,h2,h3,h4⟩:=za hj;have hl:=r.length;have hn:=oQ;have I':Inv X pins σ (upd H p (.lst (xs.set j v))) {s with heap:=s.heap.update p (cI (·.setIfInBounds j u))}:=
  I.lstUpd hp ho (xt its n j u) (r.set rv j) (by rw[List.length_set];exact hz) s.toks
 by_cases h0:0<=k
 ·have hk:k.toNat=j:=by
   rw[seqIndex_of h0 h4]at h1;exact bt h1
  exact PySem.W.ki_setAt ho h0 (by ac_nf) (by rw[aq,<-hl];exact h4) (by rw[hk];exact⟨_,I',q⟩)
 ·have hk:(k+(its.toArray.size:Int)).toNat=j:=by
   rw[seqIndex_neg (by ac_nf) h3]at h1;rw[aq,<-hl];exact bt h1
  exact PySem.W.ki_setBack ho (by ac_nf) (by rw[aq,<-hl];exact h3) (by ac_nf) (by rw[hk];exact⟨_,I',q⟩)
theorem uf(lo hi:Option Int)(n:Nat):(jO lo hi none n).1=((HT.sIx n 0 lo:Nat):Int)/\(jO lo hi none n).2.1=((HT.sIx n n hi:Nat):Int)/\(jO lo hi none n).2.2=1:=by
 refine⟨?_,?_,rfl⟩
 ·cases lo with
  |none=>simp[jO,HT.sIx]
  |some i=>
   simp only[jO,HT.sIx,Option.getD_none,show(1:Int)>0 by decide,if_true]
   by_cases h:i<0
   ·simp only[h,if_true]<;>ac_nf
   ·simp only[h,if_false]<;>ac_nf
 ·cases hi with
  |none=>simp[jO,HT.sIx]
  |some i=>
   simp only[jO,HT.sIx,Option.getD_none,show(1:Int)>0 by decide,if_true]
   by_cases h:i<0
   ·simp only[h,if_true]<;>ac_nf
   ·simp only[h,if_false]<;>ac_nf
theorem sf(its:List ae)(lo hi:Option Int):slicePick its.toArray lo hi none=((its.drop (HT.sIx its.length 0 lo)).take (HT.sIx its.length its.length hi-HT.sIx its.length 0 lo)).toArray:=by
 obtain⟨h1,h2,h3⟩:=uf lo hi its.toArray.size;unfold slicePick;rw[h1,h2,h3];simp only[sliceRange_one,pick_run,aq]<;>rfl
def Pb(K:PySem.W.Frag):V->Option Int->Option Int->Hp->VK->Prop:=λx lo hi H Q=>∃a xs,x= .ref a/\SqL K H a xs/\∀p,H p=none->Q (.ref p) (upd H p (.lst (uG xs lo hi)))
theorem EV:LD X (Pb X.K):=by
 intro pins s σ H x v vl vu lo hi sl Q I rx hs pl pu h;obtain⟨a,xs,rfl,hx,q⟩:=h;cases rx;obtain⟨its,r,ht,hz⟩:=I.list hx;have hlen:=r.length;refine⟨"list",_,ue.lookup,ht.isList.typeIs,?_⟩;refine Be ht.isList hs pl pu .none (by simp) ?_ (by rw[aq]<;>ac_nf);rw[sf,<-hlen];refine⟨.ref s.heap.objs.size,_,I.laid (t':=s.toks) (o:= .lst (uG xs lo hi)) (λb ob q=>ai _ q) (ap _) ?_,rfl,q _ (I.hok.fresh (ap _))⟩;exact⟨bj (pA xs lo hi) hz,_,0,(r.drop (HT.sIx xs.length 0 lo)).take (HT.sIx xs.length xs.length hi-HT.sIx xs.length 0 lo),aF _ rfl⟩
def mw:V->Bool
 | .non=>true
 | .bl _=>true
 | .int _=>true
 | .str _=>true
 |_=>false
def GN:V->V->Bool
 | .non,.non=>true
 | .bl a,.bl b=>a==b
 | .bl a,.int b=>(if a then 1 else 0)==b
 | .int a,.bl b=>a==(if b then 1 else 0)
 | .int a,.int b=>a==b
 | .str a,.str b=>a==b
 |_,_=>false
theorem Lh{A:Around}{s:ag}{y x:V}{u v:ae}(ry:RelV y u)(rx:RelV x v)(fy:mw y=true)(fx:mw x=true):SeqAt.EqAt A s u v (GN y x):=by
 cases y with
 |non=>
  cases ry
  cases x with
  |non=>cases rx;exact SeqAt.EqAt.same _
  |bl b=>cases rx;exact SeqAt.EqAt.none_bool b
  |int b=>obtain⟨t,rfl⟩:=rx;exact SeqAt.EqAt.none_int b t
  |str b=>obtain⟨t,rfl⟩:=rx;exact SeqAt.EqAt.none_str b t
  |_=>exact absurd (show false=true from fx) bR
 |bl a=>
  cases ry
  cases x with
  |non=>cases rx;exact SeqAt.EqAt.bool_none a
  |bl b=>cases rx;exact SeqAt.EqAt.bool_bool a b
  |int b=>obtain⟨t,rfl⟩:=rx;exact SeqAt.EqAt.bool_int a b t
  |str b=>obtain⟨t,rfl⟩:=rx;exact SeqAt.EqAt.bool_str a b t
  |_=>exact absurd (show false=true from fx) bR
 |int a=>
  obtain⟨t',rfl⟩:=ry
  cases x with
  |non=>cases rx;exact SeqAt.EqAt.int_none a t'
  |bl b=>cases rx;exact SeqAt.EqAt.int_bool a t' b
  |int b=>obtain⟨t,rfl⟩:=rx;exact SeqAt.EqAt.int_int a t' b t
  |str b=>obtain⟨t,rfl⟩:=rx;exact mF a t' b t
  |_=>exact absurd (show false=true from fx) bR
 |str a=>
  obtain⟨t',rfl⟩:=ry
  cases x with
  |non=>cases rx;exact SeqAt.EqAt.str_none a t'
  |bl b=>cases rx;exact SeqAt.EqAt.str_bool a t' b
  |int b=>obtain⟨t,rfl⟩:=rx;exact mE a t' b t
  |str b=>obtain⟨t,rfl⟩:=rx;exact SeqAt.EqAt.str_str a t' b t
  |_=>exact absurd (show false=true from fx) bR
 |_=>exact absurd (show false=true from fy) bR
def xM(x:V)(u:ae):Bool:=match u with
 | .none=>GN .non x
 | .bool b=>GN (.bl b) x
 | .int i _=>GN (.int i) x
 | .str z _=>GN (.str z) x
 |_=>false
theorem D3{x y:V}{u:ae}(r:RelV y u)(f:mw y=true):xM x u=GN y x:=by
 cases y with
 |non=>cases r;rfl
 |bl b=>cases r;rfl
 |int i=>obtain⟨t,rfl⟩:=r;rfl
 |str z=>obtain⟨t,rfl⟩:=r;rfl
 |_=>exact absurd (show false=true from f) bR
theorem oz{x:V}:∀{xs:List V} {us:List ae},Vals xs us->xs.all mw=true->us.any (xM x)=xs.any λy=>GN y x
 |_,_,.nil,_=>rfl
 |y::xs,u::us,.cons r t,f=>by
  rw[ip,aB]at f;rw[kQ,kQ,D3 r f.1,oz t f.2]
theorem lu{A:Around}{s:ag}{x:V}{v:ae}(rx:RelV x v)(fx:mw x=true):∀{xs:List V} {us:List ae},Vals xs us->xs.all mw=true->∀u∈us,SeqAt.EqAt A s u v (xM x u)
 |_,_,.nil,_=>λu hu=>by cases hu
 |y::xs,u::us,.cons r t,f=>λu' hu=>by
  rw[ip,aB]at f;rcases aw.mp hu with rfl|hu
  ·rw[D3 r f.1];exact Lh r rx f.1 fx
  ·exact lu rx fx t f.2 u' hu
def Ox(x:V)(xs:List V):Bool:=xs.any λy=>GN y x
def rIn(K:PySem.W.Frag)(neg:Bool):R2:=λx y H Q=>∃p xs,y= .ref p/\(SqL K H p xs\/SqT K H p xs)/\mw x=true/\xs.all mw=true/\Q (.bl (if neg then !Ox x xs else Ox x xs)) H
theorem sS:ik X (bD .In) (rIn X.K false):=by
 intro pins s σ H x y v u Q I rx ry h;obtain⟨p,xs,rfl,hq,fx,fs,q⟩:=h;cases ry;rcases hq with hq|hq
 ·obtain⟨its,r,pl,hz⟩:=I.list hq;refine SeqAt.in_listAt (xM x) pl.isList (λw hw=>lu rx fx r fs w (by simpa using hw)) ⟨.bl _,H,I,rfl,?_⟩;rw[show its.toArray.any (xM x)=its.any (xM x)by simp,oz r fs];exact q
 ·obtain⟨its,r,pl,hz⟩:=I.tuple hq;refine SeqAt.in_tupleAt (xM x) pl (λw hw=>lu rx fx r fs w (by simpa using hw)) ⟨.bl _,H,I,rfl,?_⟩;rw[show its.toArray.any (xM x)=its.any (xM x)by simp,oz r fs];exact q
theorem nO:ik X (bD .NotIn) (rIn X.K true):=by
 intro pins s σ H x y v u Q I rx ry h;obtain⟨p,xs,rfl,hq,fx,fs,q⟩:=h;cases ry;rcases hq with hq|hq
 ·obtain⟨its,r,pl,hz⟩:=I.list hq;refine SeqAt.notIn_listAt (xM x) pl.isList (λw hw=>lu rx fx r fs w (by simpa using hw)) ⟨.bl _,H,I,rfl,?_⟩;rw[show its.toArray.any (xM x)=its.any (xM x)by simp,oz r fs];exact q
 ·obtain⟨its,r,pl,hz⟩:=I.tuple hq;refine SeqAt.notIn_tupleAt (xM x) pl (λw hw=>lu rx fx r fs w (by simpa using hw)) ⟨.bl _,H,I,rfl,?_⟩;rw[show its.toArray.any (xM x)=its.any (xM x)by simp,oz r fs];exact q
theorem ow:eT X (.builtin "len") (λxs H Q=>∃p ys,xs=[.ref p]/\(SqL X.K H p ys\/SqT X.K H p ys)/\Q (.int ys.length) H):=by
 intro pins s σ H xs us Q I r h;obtain⟨p,ys,rfl,hq,q⟩:=h;obtain⟨u,rfl,rx⟩:=nE r;cases rx;have hn:=oQ;rcases hq with hq|hq
 ·obtain⟨its,r',pl,hz⟩:=I.list hq;have hlen:=r'.length;exact Calls.call_len_list pl.isList (by simp only[aq]<;>ac_nf) ⟨.int ys.length,H,I.tok _,⟨s.toks+1,by rw[aq,hlen]⟩,q⟩
 ·obtain⟨its,r',pl,hz⟩:=I.tuple hq;have hlen:=r'.length;exact len_tuple pl (by simp only[aq]<;>ac_nf) ⟨.int ys.length,H,I.tok _,⟨s.toks+1,by rw[aq,hlen]⟩,q⟩
theorem uK:eT X (.builtin "len") (λxs H Q=>∃z,xs=[.str z]/\z.length<=ba/\Q (.int z.length) H):=by
 intro pins s σ H xs us Q I r h;obtain⟨z,rfl,hz,q⟩:=h;obtain⟨u,rfl,t,rfl⟩:=nE r;have hn:=oQ;exact len_str (by ac_nf) ⟨.int z.length,H,I.tok _,⟨_,rfl⟩,q⟩
theorem kC:eT X (.type "list") (λxs H Q=>∃p ys,xs=[.ref p]/\(SqL X.K H p ys\/SqT X.K H p ys)/\∀l,H l=none->Q (.ref l) (upd H l (.lst ys))):=by
 intro pins s σ H xs us Q I r h;obtain⟨p,ys,rfl,hq,q⟩:=h;obtain⟨u,rfl,rx⟩:=nE r;cases rx;have fin:∀(its:List ae),Vals ys its->ys.length<=ba->∀(h':Heap) (c':Nat),(∀b o',s.heap.get? b=some o'->h'.get? b=some o')->
   h'.get? s.heap.objs.size=some {cls:= .type "list",dict:=none,data:= .seq its.toArray c',slots:= #[]}->EP X pins σ Q (.ref s.heap.objs.size) {s with heap:=h'}:=λits r' hz h' c' kp e=>
  ⟨.ref s.heap.objs.size,_,I.laid (t':=s.toks) kp (ap _) (show ObjOk X.prog X.w _ h' _ (.lst ys)from⟨hz,its,c',r',e⟩),rfl,q _ (I.hok.fresh (ap _))⟩
 rcases hq with hq|hq
 ·obtain⟨its,r',pl,hz⟩:=I.list hq;have hlen:=r'.length;obtain⟨o,ho,hc,n,hd⟩:=pl.isList;exact call_list_seq p (.inl rfl) ho hc hd (λh' c' kp e=>fin its r' hz h' c' kp e) (by simp only[aq]<;>ac_nf)
 ·obtain⟨its,r',pl,hz⟩:=I.tuple hq;have hlen:=r'.length;obtain⟨o,ho,hc,n,hd⟩:=pl;exact call_list_seq p (.inr rfl) ho hc hd (λh' c' kp e=>fin its r' hz h' c' kp e) (by simp only[aq]<;>ac_nf)
theorem mC:eT X (.type "tuple") (λxs H Q=>∃p ys,xs=[.ref p]/\((SqL X.K H p ys/\∀l,H l=none->Q (.ref l) (upd H l (.tup ys)))\/(SqT X.K H p ys/\Q (.ref p) H))):=by
 intro pins s σ H xs us Q I r h;obtain⟨p,ys,rfl,h⟩:=h;obtain⟨u,rfl,rx⟩:=nE r;cases rx;rcases h with⟨hq,q⟩|⟨hq,q⟩
 ·obtain⟨its,r',pl,hz⟩:=I.list hq;have hlen:=r'.length;refine call_tuple_list pl.isList (λh' kp=> ?_) (by simp only[aq]<;>ac_nf);have I1:Inv X pins σ H {s with heap:=h'}:=I.kept (t':=s.toks) kp;have I2:Inv X pins σ (upd H h'.objs.size (.tup ys)) {s with heap:=h'.push {cls:= .type "tuple",data:= .seq its.toArray}}:=
   I1.laid (t':=s.toks) (λb o e=>ai _ e) (ap _) (show ObjOk X.prog X.w _ _ _ (.tup ys)from⟨hz,its,r',IsTup.new _ _⟩)
  exact⟨.ref h'.objs.size,_,I2,rfl,q _ (I1.hok.fresh (ap _))⟩
 ·obtain⟨its,r',pl,hz⟩:=I.tuple hq;exact call_tuple_same pl ⟨.ref p,H,I,rfl,q⟩
def Op(K:PySem.W.Frag)(T:String)(x:V)(H:Hp):Prop:=match x with
 | .str _=>T= "str"
 | .int _=>T= "int"
 | .ref p=>(T= "list" /\∃xs,SqL K H p xs)\/(T= "tuple" /\∃o,K.lookup p=some o/\o.cls= .type "tuple" /\o.dict=none)\/
   (T= "dict" /\((∃kvs,H p=some (.dK kvs))\/∃kvs,H p=some (.dT kvs)))\/(T= "set" /\∃S n,H p=some (.set S n))
 |_=>False
theorem Bg{pins:List (Addr×Obj)}{σ:St}{H:Hp}{s:ag}{T:String}{x:V}{v:ae}(I:Inv X pins σ H s)(r:RelV x v)(ty:Op X.K T x H):
  s.TypeIs v T/\∀a,v= .ref a->∃ob,s.heap.get? a=some ob/\ob.dict=none:=by
 cases x with
 |str z=>
  obtain⟨t,rfl⟩:=r
  cases (show T= "str" from ty)
  exact⟨typeIs_str s z t,λ_ e=>nomatch e⟩
 |int i=>
  obtain⟨t,rfl⟩:=r
  cases (show T= "int" from ty)
  exact⟨typeIs_int s i t,λ_ e=>nomatch e⟩
 |ref p=>
  cases r
  rcases ty with⟨rfl,xs,hq⟩|⟨rfl,o,hk,hc,hd⟩|⟨rfl,hk⟩|⟨rfl,S,n,hk⟩
  ·obtain⟨its,_,pl,_⟩:=I.list hq
   refine⟨pl.isList.typeIs,λa e=> ?_⟩
   cases e
   obtain⟨o,n,e,c,hd,_⟩:=pl
   exact⟨o,e,hd⟩
  ·refine⟨⟨o,I.kIn p o hk,hc⟩,λa e=> ?_⟩
   cases e
   exact⟨o,I.kIn _ o hk,hd⟩
  ·have z:∃o,s.heap.get? p=some o/\o.ExactDict:=by
    rcases hk with⟨kvs,hk⟩|⟨kvs,hk⟩
    ·obtain⟨_,_,_,_,o,_,_,e,ex,_⟩:=I.hok p _ hk;exact⟨o,e,ex⟩
    ·obtain⟨_,_,_,_,o,_,_,e,ex,_⟩:=I.hok p _ hk;exact⟨o,e,ex⟩
   obtain⟨o,e,ex⟩:=z
   refine⟨⟨o,e,ex.1⟩,λa e2=> ?_⟩
   cases e2
   exact⟨o,e,ex.2.1⟩
  ·obtain⟨o,_,_,_,e,ex,_⟩:=I.hok p _ hk
   refine⟨⟨o,e,ex.1⟩,λa e2=> ?_⟩
   cases e2
   exact⟨o,e,ex.2.1⟩
 |_=>exact bV ty
def OZ(K:PySem.W.Frag)(T:String)(r:V->List V->Hp->VK->Prop)(to:TE):TE:=λσ H Q=>to σ H λx H1=>Op K T x H1/\r x [] H1 Q
def tBM(K:PySem.W.Frag)(T:String)(r:V->List V->Hp->VK->Prop)(to:TE)(t:TA):TE:=λσ H Q=>to σ H λx H1=>Op K T x H1/\t σ H1 λxs H2=>r x xs H2 Q
variable{o e:Expr}{es:List Expr}{to:TE}{t:TA}{name:Str}{apos cpos:Pos}{T id:String}{r:V->List V->Hp->VK->Prop}
theorem Jk(pa:PlainAttrs T)(slot:Slot T name id)(hty:typeOf (.builtin id)=pure (.type "method_descriptor"))(hm:AX X id r)(ho:PE X o to)
  (hbase:autoParam (cU o name X.env (eval o X.env)=eval o X.env) Qa) (hline:autoParam ((apos.endLine==cpos.line)=true) Qa):PE X (.Call (.Attribute o name apos) [] [] cpos) (OZ X.K T r to):=by
 intro pins s σ H Q I h;refine wpAny_Call_method0_late hbase hline (fF (ho pins s σ H _ I h) λv s1 hPl=> ?_);obtain⟨x,H1,I1,r1,ty,q1⟩:=hPl;obtain⟨h1,h2⟩:=Bg I1 r1 ty;exact⟨T,id,pa,slot,hty,h1,h2,Calls.callWith_builtin rfl (PySem.evalArgs_none (hm pins s1 σ H1 x [] v [] Q I1 r1 .nil q1))⟩
theorem HF(pa:PlainAttrs T)(slot:Slot T name id)(hty:typeOf (.builtin id)=pure (.type "method_descriptor"))(hm:AX X id r)(ho:PE X o to)(ha:PA X (e::es) t)
  (hbase:autoParam (cU o name X.env (eval o X.env)=eval o X.env) Qa)
  (hfew:autoParam (((bZ cpos (ao (e::es) X.env)).all (λx=> !x.1)&&(im cpos (eI [] X.env)).all (λx=>x.1.isSome)
   &&decide ((e::es).length+([]:List gZ).length+(if([]:List gZ).isEmpty then 0 else 1)<30))=true) Qa)
  (hline:autoParam ((apos.endLine==cpos.line)=true) Qa) (hs:autoParam (ao (e::es) X.env=(false,eval e X.env)::ao es X.env) Qa) (hplain:autoParam ((bZ cpos (ao es X.env)).any (·.1)=false) Qa):
  PE X (.Call (.Attribute o name apos) (e::es) [] cpos) (tBM X.K T r to t):=by
 intro pins s σ H Q I h;refine wpAny_Call_method_late hbase hfew hline rfl (fF (ho pins s σ H _ I h) λv s1 hPl=> ?_);obtain⟨x,H1,I1,r1,ty,q1⟩:=hPl;obtain⟨h1,h2⟩:=Bg I1 r1 ty;refine⟨T,id,pa,slot,hty,h1,h2,?_⟩;have hA:=ha cpos pins s1 σ H1 _ I1 q1;rw[hs]at hA⊢;refine Calls.callWith_builtin (by show(false||(bZ cpos (ao es X.env)).any (·.1))=false;rw[hplain]<;>rfl) (Calls.evalArgs_plain ?_);exact fF hA λus s2 hPl=>by obtain⟨vs,H2,I2,r2,q2⟩:=hPl;exact hm pins s2 σ H2 x vs v us Q I2 r1 r2 q2
/-xs.append(e),list.index on a module's tuple .. are AX facts of 06m-/
end
def OF(X:Cx)(id:String)(r:V->List V->Hp->VK->Prop):Prop:=
 ∀(pins:List (Addr×Obj)) (s:ag) (σ:St) (H:Hp) (x:V) (xs:List V) (v:ae) (us:List ae) (Q:VK),Inv X pins σ H s->RelV x v->Vals xs us->r x xs H Q->
  wpAny (aK X.prog X.w) X.A (call (.builtin id) (v::us)) (EP X pins σ Q) X.xe s
theorem Vals.one{x:V}{us:List ae}(h:Vals [x] us):∃u,us=[u]/\RelV x u:=by
 cases h with
 |cons r t=>cases t;exact⟨_,rfl,r⟩
theorem Vals.two{x y:V}{us:List ae}(h:Vals [x,y] us):∃u v,us=[u,v]/\RelV x u/\RelV y v:=by
 cases h with
 |cons r t=>cases t with
  |cons q t=>cases t;exact⟨_,_,rfl,r,q⟩
theorem Vals.zero:∀{us:List ae},Vals [] us->us=[]
 |_,.nil=>rfl
theorem Vals.dropLast{xs:List V}{us:List ae}(h:Vals xs us):Vals xs.dropLast us.dropLast:=by
 induction h with
 |nil=>exact .nil
 |cons r t ih=>
  cases t with
  |nil=>exact .nil
  |cons q t'=>exact .cons r ih
theorem Vals.reverse{xs:List V}{us:List ae}(h:Vals xs us):Vals xs.reverse us.reverse:=by
 induction h with
 |nil=>exact .nil
 |cons r t ih=>rw[iW,iW];exact Vals.append ih (.cons r .nil)
theorem Vals.rep{xs:List V}{us:List ae}(h:Vals xs us):∀k:Nat,Vals (bz k xs).flatten (bz k us).flatten
 |0=> .nil
 |k+1=>by
  rw[cW,cW,cL,cL];exact Vals.append h (Vals.rep h k)
theorem xK{α:Type}(l:List α):l.eraseIdx (l.length-1)=l.dropLast:=by
 induction l with
 |nil=>rfl
 |cons a r ih=>
  cases r with
  |nil=>rfl
  |cons b r=>
   have e:(a::b::r).length-1=((b::r).length-1)+1:=by
    have h1:(a::b::r).length=r.length+2:=rfl;have h2:(b::r).length=r.length+1:=rfl;ac_nf
   rw[e,List.eraseIdx_cons_succ,ih]
   all_goals rfl
theorem sZ(its:List ae):∀(k:Nat) (acc:List ae),
  List.foldl (λx1 x2=>x1++x2) acc.toArray (bz k its.toArray)=(acc++(bz k its).flatten).toArray
 |0,acc=>by simp
 |k+1,acc=>by
  have e:acc.toArray++its.toArray=(acc++its).toArray:=by simp
  have e2:(acc++its)++(bz k its).flatten=acc++(bz (k+1) its).flatten:=by
   rw[cW,cL,aI]
  rw[<-e2,<-sZ its k (acc++its),<-e,cW,mj]
section
variable{X:Cx}{pins:List (Addr×Obj)}{σ:St}{H:Hp}{s:ag}{l:Addr}{xs ys:List V}
theorem Inv.lset{its its':List ae}{n:Nat}{f:Array ae->Array ae}{t':Nat}(I:Inv X pins σ H s)(hH:H l=some (.lst xs))
  (e:s.heap.get? l=some {cls:= .type "list",data:= .seq its.toArray n}) (hf:f its.toArray=its'.toArray) (hv:Vals ys its') (hz:ys.length<=ba):
  Inv X pins σ (upd H l (.lst ys)) {s with heap:=s.heap.update l (cI f),toks:=t'}:=by
 have q:=PySem.IsL.update e f;rw[hf]at q;refine I.write (x:=l) (e:=l) (by rw[hH];exact trivial) (.inl rfl) (λb' u hb hu=>(bW s.heap (cI f) (aY hb)).trans hu) ⟨_,q⟩ ?_;exact⟨hz,its',_,hv,q⟩
theorem Inv.lnew{its:List ae}{t':Nat}(I:Inv X pins σ H s)(hv:Vals ys its)(hz:ys.length<=ba):
  Inv X pins σ (upd H s.heap.objs.size (.lst ys)) {s with heap:=s.heap.push {cls:= .type "list",data:= .seq its.toArray},toks:=t'}:=
 I.laid (λ_ _ q=>ai _ q) (ap _) ⟨hz,its,0,hv,aF _ rfl⟩
theorem Inv.fresh(I:Inv X pins σ H s):H s.heap.objs.size=none:=I.hok.fresh (ap _)
theorem Inv.lstM(I:Inv X pins σ H s)(hH:H l=some (.lst xs)):xs.length<=ba/\∃(its:List ae) (n:Nat),Vals xs its/\xs.length=its.length/\s.heap.get? l=some {cls:= .type "list",data:= .seq its.toArray n}:=by
 obtain⟨z,its,n,r,e⟩:=I.hok l _ hH;exact⟨z,its,n,r,r.length,e⟩
theorem qN{n:Nat}(h:n<=ba):dQ n=false:=by
 unfold dQ;exact decide_eq_false (by ac_nf)
end
section
variable{X:Cx}
def Fb:V->List V->Hp->VK->Prop:=λx vs H Q=>∃l xs y,x= .ref l/\vs=[y]/\H l=some (.lst xs)/\xs.length<ba/\Q .non (upd H l (.lst (xs++[y])))
theorem oP:OF X "list.append" Fb:=by
 intro pins s σ H x vs v us Q I rx rv h;obtain⟨l,xs,y,rfl,rfl,hH,hz,q⟩:=h;cases rx;obtain⟨u,rfl,ru⟩:=rv.one;obtain⟨z,its,n,r,hl,e⟩:=I.lstM hH;refine ou F.slot_list_append ⟨_,e,rfl⟩ F.entry_list_append (F.args_list_append_2 _ _) (PySem.list_append l its.toArray n u (by rw[aq];ac_nf)) ⟨e,?_⟩;refine⟨.non,_,I.lset (its':=its++[u]) hH e (by simp) (r.append (.cons ru .nil)) ?_,rfl,q⟩;rw[af,List.length_singleton];ac_nf
def Fa:V->List V->Hp->VK->Prop:=λx vs H Q=>∃l b xs zs,x= .ref l/\vs=[.ref b]/\H l=some (.lst xs)/\H b=some (.lst zs)/\xs.length+zs.length<=ba/\Q .non (upd H l (.lst (xs++zs)))
theorem Ai:OF X "list.extend" Fa:=by
 intro pins s σ H x vs v us Q I rx rv h;obtain⟨l,b,xs,zs,rfl,rfl,hH,hB,hz,q⟩:=h;cases rx;obtain⟨u,rfl,ru⟩:=rv.one;cases ru;obtain⟨z,its,n,r,hl,e⟩:=I.lstM hH;obtain⟨z2,its2,n2,r2,hl2,e2⟩:=I.lstM hB;have hsz:its.toArray.size+its2.toArray.size<=ba:=by rw[aq,aq];ac_nf
 have hlong:¬(!its.toArray.isEmpty&&dQ (its.toArray.size+its2.toArray.size))=true:=by
  rw[qN hsz,e8];exact bR
 refine ou F.slot_list_extend ⟨_,e,rfl⟩ F.entry_list_extend (F.args_list_extend_2 _ _)
  (AutoSeq1.list_extend_list_list_0 l its.toArray n b its2.toArray n2 hlong (by rw[aq];ac_nf) (by ac_nf)) ⟨e,e2,?_⟩
 refine⟨.non,_,I.lset (its':=its++its2) hH e (by simp) (r.append r2) ?_,rfl,q⟩;rw[af];ac_nf
def Pe:V->List V->Hp->VK->Prop:=λx vs H Q=>∃l xs y,x= .ref l/\vs=[]/\H l=some (.lst xs)/\xs[xs.length-1]? =some y/\Q y (upd H l (.lst xs.dropLast))
theorem JX:OF X "list.pop" Pe:=by
 intro pins s σ H x vs v us Q I rx rv h;obtain⟨l,xs,y,rfl,rfl,hH,hy,q⟩:=h;cases rx;have hus:=rv.zero;subst hus;obtain⟨z,its,n,r,hl,e⟩:=I.lstM hH;obtain⟨u,hu,ru⟩:=r.get hy;have hy':its.toArray[its.toArray.size-1]? =some u:=by
  show its.toArray[its.length-1]? =some u;rw[<-aZ,<-hl];exact hu
 refine ou F.slot_list_pop ⟨_,e,rfl⟩ F.entry_list_pop (F.args_list_pop_1 _) (MeetsSeq.list_pop_last l its.toArray n u hy' (by rw[aq];ac_nf)) ⟨e,?_⟩;refine⟨y,_,I.lset (its':=its.dropLast) hH e ?_ r.dropLast ?_,ru,q⟩
 ·show its.toArray.eraseIdxIfInBounds (its.toArray.size-1)=its.dropLast.toArray;rw[aq,List.eraseIdxIfInBounds_toArray,xK]
 ·rw[List.length_dropLast];ac_nf
def Pc:R2:=λx y H Q=>∃l k xs,x= .ref l/\y= .int k/\H l=some (.lst xs)/\-(2^63)<=k/\k<2^63/\xs.length*k.toNat<=ba/\
 ∀p,H p=none->Q (.ref p) (upd H p (.lst (bz k.toNat xs).flatten))
theorem FY{α:Type}(xs:List α)(k:Nat):(bz k xs).flatten.length=k*xs.length:=by
 induction k with
 |zero=>simp
 |succ k ih=>rw[cW,cL,af,ih,Nat.succ_mul,Nat.add_comm]
theorem Jo:ik X (dC .Mult) Pc:=by
 intro pins s σ H x y v u Q I rx ry h;obtain⟨l,k,xs,rfl,rfl,hH,h1,h2,hz,q⟩:=h;cases rx;obtain⟨t,rfl⟩:=ry;obtain⟨z,its,n,r,hl,e⟩:=I.lstM hH;have hlen:its.toArray.size*k.toNat<=ba:=by rw[aq,<-hl];exact hz
 have hcap:¬its.toArray.size*k.toNat>(2^63-1)/8:=by
  have:(ba:Nat)<=(2^63-1)/8:=by decide
  ac_nf
 have hfit:¬(!Builtin.List.listFitsIndex k)=true:=by
  rw[fitsIndex_both h1 h2];exact bR
 have hlong:¬dQ (its.toArray.size*k.toNat)=true:=by
  rw[qN hlen];exact bR
 have hnew:List.foldl (λx1 x2=>x1++x2) #[] (bz (if its.toArray.isEmpty=true then 0 else k.toNat) its.toArray)=(bz k.toNat its).flatten.toArray:=by
  have f0:∀m:Nat,List.foldl (λx1 x2=>x1++x2) #[] (bz m its.toArray)=(bz m its).flatten.toArray:=λm=>by
   have:=sZ its m [];rw[dS]at this;exact this
  rw[f0];cases its with
  |nil=>simp
  |cons a r'=>rw[if_neg (by simp)]
 refine wpAny_binaryOp_repeat_ref (T:= "list") (U:= "int") (by decide) ⟨_,e,rfl⟩ (λs'=>typeIs_int s' k t) noFill_list_mul F.fills_int_mul F.slot_int_rmul repeat_list F.slot_int_index.lookup
  (ou F.slot_int_rmul (typeIs_int s k t) F.entry_int_rmul (F.args_int_rmul_2 _ _) (int___rmul___int_list k t l its.toArray n)
   ⟨e,rfl,⟨_,e,rfl⟩,ou F.slot_list_mul ⟨_,e,rfl⟩ F.entry_list_mul (F.args_list_mul_2 _ _) (AutoListH.list___mul___list_int_3 l its.toArray n k t hfit hcap hlong) ⟨e,?_⟩⟩)
 rw[hnew];exact⟨.ref _,_,I.lnew (t':=s.toks) (r.rep k.toNat) (by rw[FY,Nat.mul_comm];exact hz),rfl,q _ I.fresh⟩
end
section
end
section
end
end L2
namespace Att
open PySem PySem.W PySem.Calls PyProof.Rows
theorem pL{P:Params}{h:Heap}:∀(ns:List Int) (vs:List ae),WellAll P h vs (ns.map WData.int)->IntsAre vs ns:=by
 intro ns;induction ns with
 |nil=>
  intro vs w
  rw[fW]at w
  cases w
  exact .nil
 |cons n ns ih=>
  intro vs w
  rw[aU]at w
  cases w with
  |cons a b=>
   cases a
   exact .cons _ _ (ih _ b)
theorem zQ{l:OpenLaw}{n:Nat}(hn:l.most=some n){P:Params}{h:Heap}{args:List WData}{vals:List ae}
  (hpre:l.row.toRowW.claim.pre args=true) (hwl:WellAll P h vals args):
  ∃a vs ns,vals=[aM a]/\args=[WData.list (ns.map WData.int)]/\h.get? a=some {cls:= .type "list",data:= .seq vs.toArray}/\IntsAre vs ns/\ns.length<=n:=by
 have hsh:WShape.hasAll [] args [.list .int]=true:=(pre_splitW hpre).1;have hc:l.pre.holds [] {args:=args}=true:=(pre_splitW hpre).2;obtain⟨d,r,rfl,h1,h2⟩:=hasAllW_cons hsh;obtain rfl:=hasAllW_nil h2;obtain⟨xs,rfl,h3⟩:=hasW_list h1;obtain⟨ns,rfl⟩:=items_int h3;have hlen:ns.length<=n:=by
  unfold OpenLaw.pre at hc;have h4:(WTm.not (.lt (.lit (.int (n:Int))) (.len (.arg 0)))).holds [] {args:=[.list (ns.map .int)]}=true:=by
   have h4:=(holds_andW hc).1;rw[hn]at h4;exact h4
  have h5:=condW_of h4 (w_not (w_lt w_lit (w_len_list (w_arg rfl))));rw[av]at h5;refine Nat.le_of_not_lt λq=> ?_;have q':(n:Int)<((ns.length:Nat):Int):=by ac_nf
  first
   |(rw[decide_eq_true q']at h5;exact absurd h5 (by decide))
   |(simp at h5;ac_nf)
 cases hwl with
 |cons w1 w2=>
  cases w2
  cases w1 with
  |list ho hall=>exact⟨_,_,ns,rfl,rfl,ho,pL ns _ hall,hlen⟩
theorem zU(l:OpenLaw)(args:List WData):l.row.toRowW.claim.post args (.bool true) args=true:=
 postW_of (r:=l.row.toRowW) (X:=(true==true))
  (show WShape.has [] (.bool true) .bool=true by first|rfl|decide|simp[WShape.has,WShape.arms,WShape.armsAll])
  (show(WTm.eq .res (.lit (.bool true))).value [] {args:=args,res:=some (.bool true),after:=args}=some (.bool (true==true))from w_eq_bool (w_res rfl) w_lit) rfl
theorem attach_call{l:OpenLaw}{n:Nat}{q:aG}{loose:List Str}{XP:(Str->Option ae)->Heap->Prop}{YP:aX->Heap->Prop}{d:DefRec}
  (hn:l.most=some n) (hdf:d.params.defaults=[])
  (call:∀(w:aX) (s₀ s₁:ag) (mg mb:Str->Option ae) (fa:Addr) (o:Obj) (pm cd doc:ae) (a:Addr) (vs:List ae) (ns:List Int),
   Ground q loose [] XP w s₀ mg mb s₁.heap->YP w s₁.heap->
   s₁.heap.get? fa=some o->o.data= .func (docDef d.name d.params d.body d.scope pm cd doc)->s₁.heap.CodeRec cd d.name->mg d.name=some (.ref fa)->
   s₁.heap.get? a=some {cls:= .type "list",data:= .seq vs.toArray}->IntsAre vs ns->ns.length<=n->s₁.gens= #[]->
   codeAny (aK l.prog w) callerA (.call (.ref fa) ⟨[.ref a],[]⟩) (λr s'=>r= .ok (.ret (.bool true))/\OldK s₁.heap s'.heap/\s'.os=s₁.os/\l9 s'.gens) s₁):
  WalkO q loose XP YP l.row.toRowW d [] (λf vs=>PySem.call f vs):=by
 intro w s₀ s₁ mg mb G Y fa o pm cd doc dV kV ho hd hcd hD hmg hg args vals as hpre hlay hrd hwl hlo;obtain rfl:dV= .none:=Dflts.none hD hdf;obtain rfl:kV= .none:=Dflts.noKw hD;obtain⟨a,vs,ns,rfl,rfl,hobj,hints,hlen⟩:=zQ hn hpre hwl;refine enter_call (jl (call w s₀ s₁ mg mb fa o pm cd doc a vs ns G Y ho (fd_plain hd) hcd hmg hobj hints hlen hg) λr s' hq=> ?_);obtain⟨rfl,h2,h3,h4⟩:=hq;exact⟨.inl ⟨.bool true,.bool true,[],rfl,λ_=>rfl,.bool true,zU l _,λ_=>⟨List.Pairwise.nil,λ_ hm=>(nomatch hm)⟩⟩,h2,h3,h4⟩
section
end
end Att
namespace L2
open PySem PySem.Spec PyProof.Rows
theorem sA:∀{vs:List ae} {ns:List Int},IntsAre vs ns->Vals (ns.map V.int) vs
 |_,_,.nil=> .nil
 |_,_,.cons n t h=> .cons ⟨t,rfl⟩ (sA h)
def He(H:Hp):Prop:=∀b,H b=none\/∃o xs,H b=some (.frz o (.lst xs))
theorem Dw{P:aG}{w:aX}{K:PySem.W.Frag}{mg mb:Str->Option ae}{CX:AY}{k:Nat}{fa a:Addr}{fd:bb}{x:Str}{sp:Sp}{s₁:ag}{vs:List ae}{ns:List Int}
  (KX:K.In s₁.heap) (hns:s₁.heap.Ns bn mg) (hb:s₁.heap.Ns builtinsNs mb) (hbb:∀x:Str,x≠ "__name__" ->mb x=bN x) (hlim:s₁.heap.NoLimit) (hg:s₁.gens= #[])
  (ha:s₁.heap.get? a=some {cls:= .type "list",data:= .seq vs.toArray}) (hi:IntsAre vs ns) (hl:ns.length<=ba) (hr:Room k callerA)
  (F:∀base:Heap,K.In base->base.Ns bn mg->FnOk P w K mg base CX k fa fd [x] sp) (hbind:∀(s:ag) (u:ae),BindsTo s fd ⟨[u],[]⟩ [(x,u)])
  (hsp:∀H:Hp,He H->SqL K H a (ns.map V.int)->sp [.ref a] H (λv _=>v= .bl true) λ_ _ _=>False)
  (hCX:∀H e s',CX [] H s₁ (λ_ _ _=>False) e s'->False):
  codeAny (aK P w) callerA (.call (.ref fa) ⟨[.ref a],[]⟩) (λr s'=>r= .ok (.ret (.bool true))/\OldK s₁.heap s'.heap/\s'.os=s₁.os/\l9 s'.gens) s₁:=by
 have rv:=sA hi;have lenV:=hi.length
 -- from an abstract heap in which nothing but the script may be tracked
 have core:∀H:Hp,He H->SqL K H a (ns.map V.int)->HOk P w H s₁.heap->(∀b,H b≠none->b=a)->(H a≠none->K.lookup a=none)->
   codeAny (aK P w) callerA (.call (.ref fa) ⟨[.ref a],[]⟩) (λr s'=>r= .ok (.ret (.bool true))/\OldK s₁.heap s'.heap/\s'.os=s₁.os/\l9 s'.gens) s₁:=by
  intro H hO hS hok hA hK;have base_of:∀{b:Addr} {o:Obj},s₁.heap.get? b=some o->H b=none->(uy s₁.heap H).get? b=some o:=λe n=>DQ e n;have noA:∀{b:Addr} {o:Obj} {es:Array DictEntry} {ep:Nat},s₁.heap.get? b=some o->o.data= .dict es ep->H b=none:=fun{b o es ep} e d=>by
   cases q:H b with
   |none=>rfl
   |some u=>
    have e':b=a:=hA b (by rw[q];simp)
    subst e'
    rw[ha]at e;cases e
    have d':fz vs.toArray _=Data.dict es ep:=d
    cases d'
  have nsK:∀{b:Addr} {m:Str->Option ae},s₁.heap.Ns b m->(uy s₁.heap H).Ns b m:=fun{b m} ⟨o,es,ep,e,d,r⟩=>⟨o,es,ep,base_of e (noA e d),d,r⟩;have hKb:K.In (uy s₁.heap H):=λb o e=>base_of (KX b o e) (by
   cases q:H b with
   |none=>rfl
   |some u=>
    have e':b=a:=hA b (by rw[q];simp)
    subst e'
    rw[hK (by rw[q];simp)]at e;cases e)
  have hM:Mod K mg (uy s₁.heap H):=⟨hKb,nsK hns,⟨mb,nsK hb,hbb⟩,let⟨mc,h1,h2⟩:=hlim;⟨mc,nsK h1,h2⟩⟩;have e0:Env0 P w K mg (uy s₁.heap H) callerA [] s₁ H:=⟨rfl,hM,λb o e=>FK e,Nat.le_of_eq (Au _ _),trivial,λb hb=>absurd (show b∈([]:List Addr)from hb) (by simp),hok,.of_eq hg⟩;refine jl ((F _ hKb (nsK hns)).run callerA [] s₁ H ⟨[.ref a],[]⟩ [.ref a] [.ref a] _ _ hr e0 (hbind s₁ (.ref a)) (.cons rfl .nil) (hsp H hO hS)) λr s' h=> ?_;cases r with
  |error e=>exact(hCX H e s' h).elim
  |ok fl=>
   cases fl with
   |next=>exact bV h
   |brk=>exact bV h
   |cont=>exact bV h
   |ret u=>
    obtain⟨v,H',os,bare,un,hok',r',q⟩:=h;have q':v= .bl true:=q;subst q';obtain rfl:u=fB true:=r';refine⟨rfl,OldK.of_keep λb o e=> ?_,os,bare⟩;cases q:H b with
    |none=>exact un.keep b o e q (by intro z;exact absurd (show b∈([]:List Addr)from z) (by simp)) (by simp)
    |some u=>
     rcases hO b with z|⟨ob,xs,z⟩
     ·rw[q]at z;cases z
     ·have z2:=un.frzs b ob _ z
      obtain⟨e1,_⟩:=hok b _ z
      obtain⟨e2,_⟩:=hok' b _ z2
      rw[e]at e1;cases e1
      exact e2
 cases hk:K.lookup a with
 |some o=>
  -- the script is one of the module's own objects
  have e:=KX a o hk
  rw[ha]at e
  cases e
  refine core (λ_=>none) (λ_=> .inl rfl) (.inr ⟨_,vs.toArray,_,hk,rfl,rfl,rfl,by rw[aq,lenV];exact hl,by simpa using rv⟩) (λb u z=>by have z':(none:Option HO)=some u:=z;cases z') (λb z=>absurd rfl z) λz=>absurd rfl z
 |none=>
  refine core (λb=>if b=a then some (.frz {cls:= .type "list",data:= .seq vs.toArray} (.lst (ns.map V.int)))else none) (λb=> ?_) (.inl (.inr ⟨{cls:= .type "list",data:= .seq vs.toArray},if_pos rfl⟩)) (λb u z=> ?_) (λb z=> ?_) λ_=>hk
  ·by_cases hb:b=a
   ·exact .inr ⟨_,_,if_pos hb⟩
   ·exact .inl (if_neg hb)
  ·by_cases hb:b=a
   ·have z':=(if_pos hb).symm.trans z
    cases z'
    subst hb
    exact⟨ha,by rw[av];exact hl,vs,_,rv,ha⟩
   ·have z':=(if_neg hb).symm.trans z
    cases z'
  ·by_cases hb:b=a
   ·exact hb
   ·exact absurd (if_neg hb) z
theorem walk_of{l:PySem.W.OpenLaw}{n k:Nat}{q:aG}{loose:List Str}{XP:(Str->Option ae)->Heap->Prop}{YP:aX->Heap->Prop}{d:DefRec}{K:Params->PySem.W.Frag}{CX:aX->AY}{sp:aX->Sp}{x:Str}
  (hn:l.most=some n) (hn2:n<=ba) (hdf:d.params.defaults=[]) (hr:Room k callerA)
  (hY:∀(w:aX) (h:Heap),YP w h->(K w.params).In h)
  (F:∀(w:aX) (mg:Str->Option ae) (fa:Addr) (h:Heap),(K w.params).In h->h.Ns bn mg->mg d.name=some (.ref fa)->
   ∃fd:bb,(∀(s:ag) (u:ae),BindsTo s fd ⟨[u],[]⟩ [(x,u)])/\
    ∀base:Heap,(K w.params).In base->base.Ns bn mg->FnOk l.prog w (K w.params) mg base (CX w) k fa fd [x] (sp w))
  (hsp:∀(w:aX) (H:Hp) (a:Addr) (ns:List Int),ns.length<=n->He H->SqL (K w.params) H a (ns.map V.int)->sp w [.ref a] H (λv _=>v= .bl true) λ_ _ _=>False)
  (hCX:∀(w:aX) (H:Hp) (s:ag) (e:ae) (s':ag),CX w [] H s (λ_ _ _=>False) e s'->False):
  PySem.W.WalkO q loose XP YP l.row.toRowW d [] (λf vs=>PySem.call f vs):=by
 refine Att.attach_call hn hdf λw s₀ s₁ mg mb fa o pm cd doc a vs ns G Y ho hd hcd hmg hobj hints hlen hg=> ?_;have KX:=hY w _ Y;obtain⟨fd,hb,hF⟩:=F w mg fa _ KX G.T.g hmg;exact Dw KX G.T.g G.T.b G.T.builtins G.T.nolimit hg hobj hints (bj hlen hn2) hr hF hb (λH hO hS=>hsp w H a ns hlen hO hS) λH e s'=>hCX w H s₁ e s'
end L2
/-THE LAST THEOREM (shape;LID,My.*are yours):
  My.Adr:a structure of the addresses that your layer names (classes,functions);My.Txt K t:a structure (Prop) of the equations over K;
  My.txt_mk:{K} {implicit addresses ..} (e1:nsIn K bn "law" =some (some (.ref f))) (e2:K.lookup f=some ⟨oc,od,.func (fnOf "law" "law" params body scope dV kV doc pm an cdv ct),sl⟩) (e3:codeIn K cdv "law" =true) .. :∃t,My.Txt K t
set_option maxRecDepth 100000 in
theorem PySem.Challenge.cw_LID_holds : PySem.Challenge.rw_LID.Holds := by
 w_on;o_law;k_head;(case hw=>w_witness2);k_fill;refine L2.walk_of (l:=PySem.Challenge.rw_LID) (n:=63) (k:=40) (x:= "script") (CX:=λw=> ..) (sp:=λ_=>My.sp_law) rfl (by decide) rfl ⟨rfl,by decide,by decide⟩ (λw h Y=>PySem.W.kIn_of Y) ?F ?S ?C;case F=>
  intro w mg fa h KX G hmg
  have T:∃t,My.Txt (L2.KOf KX) t:=by
   dsimp only [L2.KOf]                          -- K must stand as «<heap const> w.params» for k_is
   refine' My.txt_mk ?e1 ?e2 ?e3 ..;(case e1 => PySem.W.k_is)                    -- in the order: a name -> its address -> its object -> its parts
   (case e2=>PySem.W.k_is);..
  obtain⟨t,T⟩:=T
  have e0:=hmg.symm.trans (PySem.W.mg_of KX G T.law)
  cases e0                                       -- fa is the law's own address
  exact ⟨_, λs u => .of_eq rfl, λbase kb nb => My.law_fn T kb nb⟩     -- if «.of_eq rfl» comes too early: refine' ⟨_, ?b, λbase kb nb => My.law_fn T kb nb⟩; exact λs u => .of_eq rfl
 case S=>exact λw H a ns hl hO hS=> ..
 case C=>exact ..
(the tactic k_is has no namespace:write k_is)-/
namespace L2
open PySem PySem.Spec PyProof.Rows
def jk(s:Stmt)(j:Nat):Stmt:=match s with
 | .ClassDef _ _ _ body _ _ _ _ _ _ _=>body.getD j (.Pass ⟨0,0,0,0⟩)
 |_=> .Pass ⟨0,0,0,0⟩
def jM(s:Stmt):Arguments:=match s with
 | .FunctionDef _ a _ _ _ _ _ _ _ _=>a
 |_=>{posonlyargs:=[],args:=[],vararg:=none,kwonlyargs:=[],kw_defaults:=[],kwarg:=none,defaults:=[]}
def iB(s:Stmt):List Stmt:=match s with
 | .FunctionDef _ _ b _ _ _ _ _ _ _=>b
 |_=>[]
def aJ(s:Stmt):gu:=match s with
 | .FunctionDef _ _ _ _ _ _ sc _ _ _=>sc
 |_=>{kind:= .function,names:=[],isGenerator:=false,isCoroutine:=false}
abbrev Ib:AY:=λ_ _ _ _ _ _=>False
abbrev E0:XK:=λ_ _ _=>False
theorem yU{X:Cx}:jA Ib X E0:=λ_ _ _ _ _ _ _ h=>h.elim
structure Fun(K:PySem.W.Frag)(x qual:Str)(st:Stmt)(f:Addr)(fd:bb):Prop where
 ex:∃(oc:ae) (od:Option Addr) (kV doc pm:ae) (an:Option Addr) (cdv ct:ae) (osl:Array (Option ae)),
  fd=PySem.W.fnOf x qual (jM st) (iB st) (aJ st) .none kV doc pm an cdv ct/\K.lookup f=some ⟨oc,od,.func fd,osl⟩/\PySem.W.codeIn K cdv qual=true
 kp:PySem.W.keepIn K (.ref f)=true
section
variable{P:aG}{w:aX}{K:PySem.W.Frag}{mg:Str->Option ae}{base:Heap}
theorem Fun.ok{x qual:Str}{st:Stmt}{f:Addr}{fd:bb}{N ps:List Str}{k:Nat}{sp:Sp}(F:Fun K x qual st f fd)(S:bp N ps (aJ st))(len:∀vs H Q E,sp vs H Q E->vs.length=ps.length)
  (hbody:∀(cdv:ae) (A:Around) (outer:List Env) (s:ag) (H:Hp) (vs:List V) (Q:VK) (E:XK),Room k (A.deeper (envOfC qual (aJ st) s.heap.objs.size f cdv))->sp vs H Q E->
   ∃t,PSs (iM Ib P w K mg base N qual (aJ st) f cdv A outer s H E).nox (iB st) t/\t {nx:=λ_ H'=>Q .non H',rt:=Q} (start N vs) H):FnOk P w K mg base Ib (k+1) f fd ps sp:=by
 obtain⟨oc,od,kV,doc,pm,an,cdv,ct,osl,rfl,lk,hcd⟩:=F.ex;refine HP lk hcd S len λA outer s H vs Q E hr hsp=> ?_;obtain⟨t,h,q⟩:=hbody cdv A outer s H vs Q E hr hsp;exact⟨t,h.nox,q⟩
theorem Fun.binds{x qual:Str}{st:Stmt}{f:Addr}{fd:bb}{ps:List Str}(F:Fun K x qual st f fd)
  (h:∀(kV doc pm:ae) (an:Option Addr) (cdv ct:ae) (us:List ae),us.length=ps.length->bindArgs (PySem.W.fnOf x qual (jM st) (iB st) (aJ st) .none kV doc pm an cdv ct) ⟨us,[]⟩=pure (ps.zip us)):Binds K fd ps []:=by
 obtain⟨oc,od,kV,doc,pm,an,cdv,ct,osl,rfl,lk,hcd⟩:=F.ex;exact .all (h kV doc pm an cdv ct)
theorem DX{x qual:Str}{st:Stmt}{f:Addr}{oc:ae}{od an:Option Addr}{osl:Array (Option ae)}{kV doc pm cdv ct:ae}(l:K.lookup f=some ⟨oc,od,.func (PySem.W.fnOf x qual (jM st) (iB st) (aJ st) .none kV doc pm an cdv ct),osl⟩)
  (c:PySem.W.codeIn K cdv qual=true) (k:PySem.W.keepIn K (.ref f)=true):Fun K x qual st f (PySem.W.fnOf x qual (jM st) (iB st) (aJ st) .none kV doc pm an cdv ct):=⟨⟨oc,od,kV,doc,pm,an,cdv,ct,osl,rfl,l,c⟩,k⟩
end
section
end
theorem pK{A B:Prop}(h:B):if false=true then A else B:=by
 rw[if_neg bR];exact h
theorem q9{A B:Prop}(h:A):if true=true then A else B:=by
 rw[if_pos rfl];exact h
theorem oq{prog:aG}{w:aX}{A:Around}{R:Result->ag->Prop}{s:ag}{elt target iter:Expr}{ifs:List Expr}{scope:gu}{pos:Pos}{it acc:ae}{env:Env}{N:ae->ag->Prop}
  (hN:N=notedBy (aK prog w) A env λe s'=>R (.error e) s') (J:Nat->ag->Prop)
  (turn:∀n s,J n s->wpAny (aK prog w) A (pyNext it) (λr s₁=>match r with
   |none=>R (.ok .next) s₁
   |some v=>wpAny (aK prog w) A (j8 target it v) (λ_ s₀=>wpAny (aK prog w) A (assign target env v) (λ_ s₂=>
     wpAny (aK prog w) A (forIn ifs true λc r=>if r=true then do let ok <-isTrue c env (eval c env);pure (er ok)else pure (er r)) (λok s₃=>
      if ok=true then wpAny (aK prog w) A (eval elt env) (λx s₄=>
       wpAny (aK prog w) A (call (.builtin "list.append") [acc,x]) (λ_ s₅=>∃m,m<n/\J m s₅) N s₄) N s₃
      else∃m,m<n/\J m s₃) N s₂) N s₀) N s₁) N s)
  (n:Nat) (h:J n s):
  codeAny (aK prog w) A (.compLoop (.ListComp elt [⟨target,iter,ifs,0⟩] scope pos) 0 it acc env) R s:=by
 refine codeAny_loop rfl J (λn s hI=> ?_) n h;show wpAny _ A ((compTurn (.ListComp elt [⟨target,iter,ifs,0⟩] scope pos) 0 it acc env).onRaise (λx=>do noteFrame x env;theTreesLotGoes x)) _ _ s;refine wpAny_noted ?_;rw[compTurn_list];subst hN;refine aa (wpAny_standAt (aa (bh (turn n s hI) (λr s₁ h₁=> ?_) λ_ _ h'=>h')));cases r with
 |none=>exact ah h₁
 |some v=>
  refine aa (bh h₁ (λ_ s₀ h₀=> ?_) λ_ _ h'=>h')
  refine aa (bh h₀ (λ_ s₂ h₂=>aa (bh h₂ (λok s₃ h₃=> ?_) λ_ _ h'=>h')) λ_ _ h'=>h')
  cases ok with
  |false=>exact ah ⟨rfl,h₃⟩
  |true=>
   exact aa (aa (bh h₃ (λx s₄ h₄=>aa (bh h₄ (λ_ s₅ h₅=>ah (ah ⟨rfl,h₅⟩)) λ_ _ h'=>h')) λ_ _ h'=>h'))
def mh(cells:List (Str×Addr)):List (Str×eW)->List (Str×Addr)->List (Str×Addr)
 |[],acc=>acc
 |(n,k)::r,acc=>mh cells r (if k= .free then(n,(cells.lookup n).getD 0)::acc else acc)
theorem nq{env:Env}:∀(names:List (Str×eW)) (acc:List (Str×Addr)),(∀y∈names,y.2= .free->∃c,env.cells.lookup y.1=some c)->
  (forIn names acc (fun(y:Str×eW) (cs:List (Str×Addr))=>if(y.2== .free)=true then(do let c <-cellOf env y.1;pure (er ((y.1,c)::cs)))else pure (er cs)):Sem (List (Str×Addr)))=pure (mh env.cells names acc)
 |[],acc,_=>rfl
 |(n,k)::r,acc,h=>by
  rw[List.forIn_cons];have hr:∀y∈r,y.2= .free->∃c,env.cells.lookup y.1=some c:=λy hy=>h y (bC _ hy);by_cases hk:k= .free
  ·subst hk;obtain⟨c,hc⟩:=h (n,.free) dB rfl;have e:cellOf env n=pure c:=by unfold cellOf;rw[hc]
   simp only[beq_self_eq_true,if_true,e,pure_bind];rw[nq r _ hr];show _=pure (mh env.cells r _);rw[if_pos rfl,hc];rfl
  ·have hb:(k==jX)=false:=by simpa using hk
   simp only[hb,fX,if_false,pure_bind];rw[nq r _ hr];show _=pure (mh env.cells r _);rw[if_neg hk]
theorem jU{scope:gu}{env:Env}(h:∀y∈scope.names,y.2= .free->∃c,env.cells.lookup y.1=some c):closureFor scope env=pure (mh env.cells scope.names []):=by
 have q:=nq scope.names [] h;unfold closureFor;simp only[bind_pure];exact q
theorem wc{cells:List (Str×Addr)}:∀(names:List (Str×eW)) (acc:List (Str×Addr)) (y:Str) (c:Addr),(∀z∈names,z.2= .free->∃c,cells.lookup z.1=some c)->(∀c,acc.lookup y=some c->cells.lookup y=some c)->(mh cells names acc).lookup y=some c->cells.lookup y=some c
 |[],acc,y,c,_,ha,h=>ha c h
 |(n,k)::r,acc,y,c,hn,ha,h=>by
  refine wc r _ y c (λz hz=>hn z (bC _ hz)) (λc' hc'=> ?_) h;by_cases hk:k= .free
  ·rw[if_pos hk]at hc';obtain⟨c0,e0⟩:=hn (n,k) dB hk;rw[fJ]at hc';cases hx:y==n with
   |true=>
    have hy:y=n:=by simpa using hx
    subst hy
    rw[hx]at hc'
    have e0':cells.lookup y=some c0:=e0
    simp only[e0',Option.getD_some]at hc'
    rw[e0',hc']
   |false=>rw[hx]at hc';exact ha c' hc'
  ·rw[if_neg hk]at hc';exact ha c' hc'
theorem tF{cells:List (Str×Addr)}:∀(names:List (Str×eW)) (acc:List (Str×Addr)) (y:Str),(∃c,acc.lookup y=some c)->∃c,(mh cells names acc).lookup y=some c
 |[],acc,y,h=>h
 |(n,k)::r,acc,y,h=>by
  refine tF r _ y ?_;by_cases hk:k= .free
  ·rw[if_pos hk,fJ];cases hx:y==n with
   |true=>exact⟨_,rfl⟩
   |false=>exact h
  ·rw[if_neg hk];exact h
theorem rH{cells:List (Str×Addr)}:∀(names:List (Str×eW)) (acc:List (Str×Addr)) (y:Str),(y,jX)∈names->∃c,(mh cells names acc).lookup y=some c
 |[],acc,y,h=>by simp at h
 |(n,k)::r,acc,y,h=>by
  rcases aw.mp h with e|e
  ·have e1:n=y:=(Prod.mk.inj e).1.symm;have e2:k= .free:=(Prod.mk.inj e).2.symm;subst e1;subst e2;refine tF r _ n ?_;rw[if_pos rfl,fJ];simp
  ·exact rH r _ y e
structure iO(sc:gu)(N:List Str)(scope:gu)(M:List Str)(ix:List (Option Nat))(j:Nat)(x:Str):Prop where
 kind:scope.kind= .function
 names:∀y∈scope.names,y.2= .local->scope.names.lookup y.1=some .local
 nocell:∀y∈scope.names,y.2≠ .cell
 nd:M.Nodup
 tgt:M[j]? =some x
 loc:scope.names.lookup x=some .local
 own:ix[j]? =some none
 len:ix.length=M.length
 free:∀y∈scope.names,y.2= .free->sc.names.lookup y.1=some .cell\/sc.names.lookup y.1=some .free
 capt:∀(k:Nat) (y:Str) (i:Nat),M[k]? =some y->ix[k]? =some (some i)->N[i]? =some y/\(sc.names.lookup y=some .cell\/sc.names.lookup y=some .free)/\scope.names.lookup y=some .free
def lF(ix:List (Option Nat))(σ:St):St:=ix.map λo=>match o with
 |some i=>(σ[i]?).getD none
 |none=>none
def cm(X:Cx)(M:List Str)(scope:gu)(C:Addr)(s:ag)(H:Hp)(fp:List Addr):Cx where
 prog:=X.prog
 w:=X.w
 K:=X.K
 mg:=X.mg
 base:=X.base
 A:=X.A
 N:=M
 s₀:=s
 H₀:=H
 env:=compEnvC scope (mh X.env.cells scope.names []) C X.env
 outer:=X.stack
 stack:=X.stack
 ex:=fp
 fn:=λ_=>false
 calm:=X.calm
 pn:=[]
 xe:=λ_ _=>False
def PF(X:Cx)(ifs:List Expr)(t:TT):Prop:=
 ∀(pins:List (Addr×Obj)) (s:ag) (σ:St) (H:Hp) (Q:Bool->Hp->Prop),Inv X pins σ H s->t σ H Q->
  wpAny (aK X.prog X.w) X.A (forIn ifs true λc r=>if r=true then do let ok <-isTrue c X.env (eval c X.env);pure (er ok)else pure (er r)) (TP X pins σ Q) X.xe s
def OM:TT:=λ_ H Q=>Q true H
theorem Jb{X:Cx}:PF X [] OM:=λ_ _ _ H _ I h=>wpAny_tests_nil ⟨H,I,h⟩
def wq(env:Env)(p:Str×eW):Str×eW:=if(p.2==jX&&env.scope.kind== .function&&env.kindOf p.1==some .cell)then(p.1,eW.cell)else(p.1,p.2)
theorem xa(scope:gu)(env:Env):(relabel scope env).names=scope.names.map (wq env):=rfl
theorem E7(env:Env)(p:Str×eW):(wq env p).1=p.1:=by unfold wq;split<;>rfl
theorem mP{env:Env}:∀(names:List (Str×eW)) (x:Str),(names.map (wq env)).lookup x=((names.lookup x).map λk=>(wq env (x,k)).2)
 |[],x=>rfl
 |(n,k)::r,x=>by
  have ih:=mP (env:=env) r x;have e1:=E7 env (n,k);rw[aU];rw[show wq env (n,k)=((wq env (n,k)).1,(wq env (n,k)).2)from rfl,e1,fJ,fJ];cases hx:x==n with
  |true=>
   have:x=n:=by simpa using hx
   subst this
   rfl
  |false=>exact ih
theorem BV{env:Env}{x:Str}{k:eW}(h:(wq env (x,k)).2= .cell\/(wq env (x,k)).2= .free)(hk:k≠ .cell):k= .free:=by
 unfold wq at h;split at h
 ·rename_i hc;have:=(AZ.mp (AZ.mp hc).1).1;simpa using this
 ·rcases h with h|h
  ·exact absurd h hk
  ·exact h
theorem vD{env:Env}{x:Str}:(wq env (x,.free)).2= .cell\/(wq env (x,.free)).2= .free:=by
 unfold wq;split
 ·exact .inl rfl
 ·exact .inr rfl
theorem qT{env:Env}{names:List (Str×eW)}{x:Str}(h:(names.map (wq env)).lookup x=some .cell\/(names.map (wq env)).lookup x=some .free)(hc:∀y∈names,y.2≠ .cell):(x,jX)∈names:=by
 rw[mP]at h;cases q:names.lookup x with
 |none=>rw[q]at h;simp at h
 |some k=>
  rw[q]at h
  have hm:=PySem.mem_of_lookup q
  have hk:k≠ .cell:=hc _ hm
  have e:k= .free:=BV (env:=env) (x:=x) (by rcases h with h|h;exact .inl (bt h);exact .inr (bt h)) hk
  rw[e]at hm
  exact hm
theorem uH{ix:List (Option Nat)}{j:Nat}(h:ix[j]? =some none)(σ:St):(lF ix σ)[j]? =some none:=by
 unfold lF;rw[br,h];rfl
def EC(J:It)(ix:List (Option Nat))(j:Nat)(σ:St)(tf:TT)(te:TE)(Q:VK)(H1:Hp)(acc:Addr):Prop:=∃W:Nat->Nat->Hp->Prop,(∃m,W 0 m (upd H1 acc (.lst [])))/\∀i m H',W i m H'->
 (J.stop i H'/\Q (.ref acc) H')\/(J.go i H'/\∀x H2,J.yld i H' x H2->tf ((lF ix σ).set j (some x)) H2 λb H3=>
  if b=true then te ((lF ix σ).set j (some x)) H3 λy H4=>∃ys,H4 acc=some (.lst ys)/\ys.length<ba/\∃m',m'<m/\W (i+1) m' (upd H4 acc (.lst (ys++[y])))
  else∃m',m'<m/\W (i+1) m' H3)
def Bm(wi:TI)(ix:List (Option Nat))(j:Nat)(tf:TT)(te:TE):TE:=λσ H Q=>wi σ H λJ H1=>∀acc,H1 acc=none->EC J ix j σ tf te Q H1 acc
section
variable{X:Cx}{scope:gu}{M:List Str}{ix:List (Option Nat)}{j:Nat}{x:Str}
theorem nk{pins:List (Addr×Obj)}{σ:St}{H:Hp}{s:ag}{fp:List Addr}{h1:Heap}(S:iO X.env.scope X.N scope M ix j x)(I:Inv X pins σ H s)
  (hf:∀b∈fp,pP X pins H b) (hft:∀b∈fp,b<s.heap.objs.size) (old:∀b o,s.heap.get? b=some o->h1.get? b=some o)
  (hD:h1.get? s.heap.objs.size=some {cls:= .type "list",data:= .seq ([]:List ae).toArray 0}) (hns:h1.Ns (s.heap.objs.size+1) λ_=>none):
  Inv (cm X M scope (s.heap.objs.size+1) s H fp) [] (lF ix σ) (upd H s.heap.objs.size (.lst [])) {s with heap:=h1}:=by
 have frees:∀y∈scope.names,y.2= .free->∃c,X.env.cells.lookup y.1=some c:=λy hy e=>I.ok.has y.1 (S.free y hy e);have clin:∀y c,(mh X.env.cells scope.names []).lookup y=some c->X.env.cells.lookup y=some c:=λy c h=>wc scope.names [] y c frees (λc hc=>by simp at hc) h;have hfr:H s.heap.objs.size=none:=I.hok.fresh (ap _);have hclt:∀y c,(mh X.env.cells scope.names []).lookup y=some c->c<s.heap.objs.size:=λy c h=>by
  obtain⟨v,q⟩:=I.cell y c (clin y c h);exact q.lt
 refine⟨⟨I.ok.mod,S.kind,I.ok.glob,I.ok.blt,eR _,λy z c e1 e2=>I.ok.inj y z c (clin y c e1) (clin z c e2),λy hy=> ?_,λy c e _=>absurd (show false=true from e) (by simp),I.ok.hd,I.ok.frames,.inl rfl,
   λb hb=>⟨aN (cc (hft b hb)),λy c e=>(hf b hb).2.2.2.2.1 y c (clin y c e)⟩,I.bs,bj I.ok.bsz I.sz,λb o e hb=> ?_,λb hb z=> ?_,I.stack,I.stkFree⟩,
  rfl,I.bare,Un.laid old (ap _) hfr,⟨λ_=>none,hns,λk y v e1 e2 e3=> ?_⟩,λy c e=> ?_,?_,λy c e=> ?_,λp hp=>absurd (show p∈([]:List (Addr×Obj))from hp) (by simp),?_,?_⟩
 ·exact rH scope.names [] y (qT (env:=X.env) hy S.nocell)
 ·rcases(hf b hb).2.2.2.1 with z|z
  ·exact I.ok.noex b o e z
  ·exact absurd (aT (aA e) (bj I.ok.bsz z)) (dJ _)
 ·exact(aw.mp (I.stkSub b z)).elim (hf b hb).2.1 (hf b hb).2.2.1
 · -- a captured name
  have hix:∃i,ix[k]? =some (some i)/\σ[i]? =some (some v):=by
   unfold lF at e2;rw[br]at e2;cases q:ix[k]? with
   |none=>rw[q]at e2;cases e2
   |some o=>
    cases o with
    |none=>rw[q]at e2;cases e2
    |some i=>
     rw[q]at e2
     refine⟨i,rfl,?_⟩
     have e2':some ((σ[i]?).getD none)=some (some v):=e2
     have e3':=bt e2'
     cases q2:σ[i]? with
     |none=>rw[q2]at e3';cases e3'
     |some z=>rw[q2]at e3';exact congrArg some e3'
  obtain⟨i,hi,hv⟩:=hix;obtain⟨c1,c2,c3⟩:=S.capt k y i e1 hi;obtain⟨m,hn,hl⟩:=I.loc;obtain⟨u,r,l⟩:=hl i y v c1 hv (.inr c2);refine⟨u,r,?_⟩;rcases l with⟨l,_⟩|⟨_,c,hc,hcell⟩
  ·exfalso;have l':X.env.scope.names.lookup y=some .local:=l;rcases c2 with c2|c2<;>(rw[l']at c2;cases c2)
  ·have hmem:(y,jX)∈scope.names:=PySem.mem_of_lookup c3;obtain⟨c',hc'⟩:=rH (cells:=X.env.cells) scope.names [] y hmem;have ecc:c'=c:=bt ((clin y c' hc').symm.trans hc);subst ecc;have hk:(relabel scope X.env).names.lookup y=some .cell\/(relabel scope X.env).names.lookup y=some .free:=by
    rw[xa,mP,c3];rcases vD (env:=X.env) (x:=y)with z|z
    ·exact .inl (congrArg some z)
    ·exact .inr (congrArg some z)
   obtain⟨oc,ho,hd⟩:=hcell;exact .inr ⟨hk,c',hc',oc,old c' oc ho,hd⟩
 ·obtain⟨v,oc,ho,hd⟩:=I.cell y c (clin y c e);exact⟨v,oc,old c oc ho,hd⟩
 ·show upd H s.heap.objs.size (.lst []) (s.heap.objs.size+1)=none;rw[bJ (Nat.succ_ne_self _)];exact I.hok.fresh (eR _)
 ·show upd H s.heap.objs.size (.lst []) c=none;rw[bJ (aN (hclt y c e))];exact I.freeC y c (clin y c e)
 ·exact I.hok.laid old (ap _) ⟨c8 _,[],0,.nil,hD⟩
 ·show(lF ix σ).length=M.length;unfold lF;rw[av,S.len]
theorem rF{pins:List (Addr×Obj)}{σ σ':St}{H H':Hp}{s s':ag}{fp:List Addr}{C:Addr}(I:Inv X pins σ H s)(hC:s.heap.objs.size<=C)(hf:∀b∈fp,pP X pins H b)
  (I':Inv (cm X M scope C s H fp) [] σ' H' s') {h':Heap} (hb:cM C s'.heap h'):Inv X pins σ H' {s' with heap:=h'}:=by
 have ne:∀b o,s.heap.get? b=some o->b≠C:=λb o e=>aN (aT (aA e) hC);have k:∀b o,b≠C->s'.heap.get? b=some o->h'.get? b=some o:=λb o hn e=>hb.extBut b o hn e;have u:Un (lW X.stack) fp H H' s.heap s'.heap:=I'.base;have hHC:H' C=none:=I'.free;have u2:Un (lW X.stack) fp H H' s.heap h':=by
  refine⟨λb o e n h1 h2=>k b o (ne b o e) (u.keep b o e n h1 h2),λb o e n h1 h2=> ?_,λb o e n h1=>u.free b o e n h1,λb o e h1=> ?_,u.tups,u.frzs,u.tbls⟩
  ·obtain⟨sl,q⟩:=u.slot b o e n h1 h2;exact⟨sl,k b _ (ne b o e) q⟩
  ·obtain⟨o',q⟩:=u.there b o e h1;exact⟨o',k b o' (ne b o e) q⟩
 have hok:HOk X.prog X.w H' h':=λb o e=>(I'.hok b o e).stay (λc v hc q=>k c v (λz=>by
  subst z;rcases hc with z|z
  ·rw[<-z,hHC]at e;cases e
  ·rw[hHC]at z;cases z) q) (λ_ q=>q) λ_ _ q=>q
 exact I.call' (s':={s' with heap:=h'}) I'.os u2 hok I'.bare λb hb=>⟨(hf b hb).2.2.2.1,(hf b hb).2.1,(hf b hb).2.2.2.2.1,(hf b hb).2.2.2.2.2⟩
theorem BB{c:St}{j:Nat}{v:V}(h:c[j]? =some none):∀(i:Nat) (z:V),c[i]? =some (some z)->(c.set j (some v))[i]? =some (some z):=λi z e=>by
 by_cases hij:j=i
 ·subst hij;rw[h]at e;cases e
 ·rw[dD hij];exact e
theorem rG{elt iter:Expr}{px:Pos}{ifs:List Expr}{pos:Pos}{tf:TT}{te:TE}{pins:List (Addr×Obj)}{σ:St}{H:Hp}{s:ag}{fp:List Addr}{it:Addr}{tn:Nat->Heap->Prop}{J:It}{h1:Heap}{tk:Nat}{Q:VK}{R:Result->ag->Prop}
  (S:iO X.env.scope X.N scope M ix j x) (hc:X.calm=true) (I:Inv X pins σ H s)
  (hF:PF (cm X M scope (s.heap.objs.size+1) s H fp) ifs tf) (hE:PE (cm X M scope (s.heap.objs.size+1) s H fp) elt te)
  (T:wj X.prog X.w X.K (.Name x px) J fp it tn) (st:tn 0 s.heap) (hf:∀b∈fp,pP X pins H b)
  (I0:Inv (cm X M scope (s.heap.objs.size+1) s H fp) [] (lF ix σ) (upd H s.heap.objs.size (.lst [])) {s with heap:=h1,toks:=tk}) (old:∀b o,s.heap.get? b=some o->h1.get? b=some o)
  (q:EC J ix j σ tf te Q H s.heap.objs.size)
  (hR:∀H' s',Inv (cm X M scope (s.heap.objs.size+1) s H fp) [] (lF ix σ) H' s'->Q (.ref s.heap.objs.size) H'->R (.ok .next) s'):
  codeAny (aK X.prog X.w) X.A (.compLoop (.ListComp elt [⟨.Name x px,iter,ifs,0⟩] scope pos) 0 (.ref it) (.ref s.heap.objs.size) (compEnvC scope (mh X.env.cells scope.names []) (s.heap.objs.size+1) X.env)) R {s with heap:=h1,toks:=tk}:=by
 obtain⟨W,⟨m0,w0⟩,turn⟩:=q;have hD:s.heap.objs.size∉fp:=λz=>by
  obtain⟨o,e,_⟩:=T.obj 0 s.heap st _ z;exact absurd (aA e) (dJ _)
 have hlt:∀b∈fp,b<s.heap.objs.size:=λb hb=>by
  obtain⟨o,e,_⟩:=T.obj 0 s.heap st b hb;exact aA e
 have stat:∀{H':Hp},(∀b∈fp,H' b=none)->∀b∈fp,pP (cm X M scope (s.heap.objs.size+1) s H fp) [] H' b:=λhn b hb=>
  ⟨hn b hb,aN (cc (hlt b hb)),I0.ok.exfs b hb,.inl hb,(I0.ok.exf b hb).2,λp hp=>absurd (show p∈([]:List (Addr×Obj))from hp) (by simp)⟩
 have own:=uH S.own σ;refine oq rfl (λn s'=>∃i H',Inv (cm X M scope (s.heap.objs.size+1) s H fp) [] (lF ix σ) H' s'/\tn i s'.heap/\(∀b∈fp,H' b=none)/\W i n H') ?_ m0
  ⟨0,_,I0,T.keep 0 _ _ st λb _ o e=>old b o e,λb hb=>by rw[bJ (aN (hlt b hb))];exact(hf b hb).1,w0⟩
 rintro n s3 ⟨i,H3,I3,st3,fr3,w3⟩;rcases turn i n H3 w3 with⟨stop,qn⟩|⟨go,step⟩
 ·refine bh (T.done (cm X M scope (s.heap.objs.size+1) s H fp) rfl rfl rfl hc i [] s3 (lF ix σ) H3 (λ_ _=>False) I3 (stat fr3) st3 stop) (λr s4 hPl=> ?_) (λ_ _ z=>z.elim);obtain⟨hr,I4⟩:=hPl;subst hr;exact hR H3 s4 I4 qn
 ·refine bh (T.item (cm X M scope (s.heap.objs.size+1) s H fp) rfl rfl rfl hc i [] s3 (lF ix σ) H3 (λ_ _=>False) I3 (stat fr3) st3 go) (λr s4 hPl=> ?_) (λ_ _ z=>z.elim);obtain⟨u,hr,h4⟩:=hPl;subst hr;refine bh h4 (λ_ s5 hPl=> ?_) (λ_ _ z=>z.elim);obtain⟨y,H5,I5,r5,y5,st5,fr5⟩:=hPl;have I5':=I5.pinned (stat fr5) (T.obj _ _ st5);have pg:PG (cm X M scope (s.heap.objs.size+1) s H fp) (.Name x px) (rk j):=
   lQ S.nd S.tgt (.inl (by show(relabel scope X.env).names.lookup x=some .local;exact fH S.loc)) (.inr (by show(relabel scope X.env).names.lookup x=some .local;exact fH S.loc))
  refine bh (pg _ s5 (lF ix σ) H5 y u (λσ2 H2=>σ2=(lF ix σ).set j (some y)/\H2=H5) I5' r5 ⟨rfl,rfl⟩) (λ_ s6 hPl=> ?_) (λ_ _ z=>z.elim);obtain⟨σ6,H6,I6,e6,eh6⟩:=hPl;subst e6;subst eh6;have again:∀{H7:Hp} {s7:ag},Inv (cm X M scope (s.heap.objs.size+1) s H fp) ([]++oM fp s5.heap) ((lF ix σ).set j (some y)) H7 s7->(∃m',m'<n/\W (i+1) m' H7)->
    ∃m,m<n/\∃i H',Inv (cm X M scope (s.heap.objs.size+1) s H fp) [] (lF ix σ) H' s7/\tn i s7.heap/\(∀b∈fp,H' b=none)/\W i m H':=fun{H7 s7} I7 ⟨m',hm,w7⟩=>by
   have Iw:Inv (cm X M scope (s.heap.objs.size+1) s H fp) [] (lF ix σ) H7 s7:=(Inv.unpinned (pins:=[]) I7).weak (by simp) (BB own);refine⟨m',hm,i+1,H7,Iw,T.keep _ _ _ st5 λb hb o e=>(I7.pin (b,o) (a8 _ (a8 _ (iJ hb e)))).1,λb hb=> ?_,w7⟩;obtain⟨o,e,d⟩:=T.obj _ _ st5 b hb;exact(I7.pin (b,o) (a8 _ (a8 _ (iJ hb e)))).2.1
  refine bh (hF _ s6 _ _ _ I6 (step y _ y5)) (λb s7 hPl=> ?_) (λ_ _ z=>z.elim);obtain⟨H7,I7,q7⟩:=hPl;cases b with
  |false=>
   simp only[fX,if_false]at q7⊢
   exact again I7 q7
  |true=>
   simp only[if_true]at q7⊢
   refine bh (hE _ s7 _ H7 _ I7 q7) (λv s8 hPl=> ?_) (λ_ _ z=>z.elim)
   obtain⟨z,H8,I8,r8,ys,hy,hz,q8⟩:=hPl
   refine bh (oP (X:=cm X M scope (s.heap.objs.size+1) s H fp) _ s8 _ H8 (.ref s.heap.objs.size) [z] (.ref s.heap.objs.size) [v] (λ_ H'=>H'=upd H8 s.heap.objs.size (.lst (ys++[z]))) I8 rfl (.cons r8 .nil) ⟨s.heap.objs.size,ys,z,rfl,rfl,hy,hz,rfl⟩) (λw s9 hPl=> ?_) (λ_ _ z=>z.elim)
   obtain⟨_,H9,I9,_,e9⟩:=hPl
   subst e9
   exact again I9 q8
theorem Fo{elt iter:Expr}{px:Pos}{ifs:List Expr}{pos:Pos}{wi:TI}{tf:TT}{te:TE}(S:iO X.env.scope X.N scope M ix j x)(hc:X.calm=true)(hi:PI X (.Name x px) iter wi)
  (hb:∀C s H fp,PF (cm X M scope C s H fp) ifs tf/\PE (cm X M scope C s H fp) elt te) (hs:autoParam (∀x,eN iter X.env x=pure x) Qe):
  PE X (.ListComp elt [⟨.Name x px,iter,ifs,0⟩] scope pos) (Bm wi ix j tf te):=by
 intro pins s σ H Q I h;rw[eval_ListComp];refine me (use:=none) rfl hs (jU λy hy e=>I.ok.has y.1 (S.free y hy e)) S.kind S.names (bh (hi pins s σ H _ I h) (λxv s₁ h₁=>bh h₁ (λit s₂ h₂=> ?_) λ_ _ e=>e) λ_ _ e=>e);obtain⟨it,fp,tn,J,H2,rfl,I2,T,st2,f2,q⟩:=h₂;refine bI (pI S.nocell (by intro y hy;simp at hy) (λh₁ hns₁ hsb₁=> ?_) S.kind);dsimp only at hns₁ hsb₁⊢;have hC:(s₂.heap.push {cls:= .type "list",dict:=none,data:= .seq ([]:List ae).toArray}).objs.size=s₂.heap.objs.size+1:=cb ..;rw[hC]at hns₁ hsb₁⊢;have below:∀b,b<s₂.heap.objs.size->b≠s₂.heap.objs.size+1:=λb hb=>aN (cc hb);have old:∀b o,s₂.heap.get? b=some o->h₁.get? b=some o:=λb o e=>hsb₁.extBut b o (below b (aA e)) (ai _ (ai _ e));have hD:h₁.get? s₂.heap.objs.size=some {cls:= .type "list",data:= .seq ([]:List ae).toArray 0}:=hsb₁.extBut _ _ (aN (dG _)) (ai _ (aF _ rfl));have ns:h₁.Ns (s₂.heap.objs.size+1) λ_=>none:=hns₁;have hft:∀b∈fp,b<s₂.heap.objs.size:=λb hb=>by
  obtain⟨o,e,_⟩:=T.obj 0 s₂.heap st2 b hb;exact aA e
 have I0:=(nk (h1:=h₁) S I2 f2 hft old hD ns).tok s₂.toks;have hfr:H2 s₂.heap.objs.size=none:=I2.hok.fresh (ap _);have loop:codeAny (aK X.prog X.w) X.A (.compLoop (.ListComp elt [⟨.Name x px,iter,ifs,0⟩] scope pos) 0 (.ref it) (.ref s₂.heap.objs.size) (compEnvC scope (mh X.env.cells scope.names []) (s₂.heap.objs.size+1) X.env))
   (compPost (aK X.prog X.w) X.A X.xe none (EP X pins σ Q) (.ref s₂.heap.objs.size) (s₂.heap.objs.size+1)) {s₂ with heap:=h₁,toks:=s₂.toks}:=by
  refine rG (Q:=Q) S hc I2 (hb _ _ _ _).1 (hb _ _ _ _).2 T st2 f2 I0 old (q _ hfr) λH' s' I' qq=> ?_;obtain⟨m,hn,_⟩:=I'.loc;exact⟨m,hn,λh' hb'=>⟨.ref s₂.heap.objs.size,H',rF I2 (eR _) f2 I' hb',rfl,qq⟩⟩
 exact ot loop (T.self _ 0 _ _ _ (T.keep 0 _ _ st2 λb _ o e=>old b o e) loop)
end
section
variable{X:Cx}
def OG(z:Str):It:=⟨λi _=>i<z.cps.size,λi H x H'=>H'=H/\∃c,z.cps[i]? =some c/\x= .str ⟨#[c]⟩,λi _=>z.cps.size<=i⟩
theorem vb{P:aG}{w:aX}{K:PySem.W.Frag}{x:Str}{px:Pos}(it:Addr)(z:Str)(t:Tok)(ty:String)(hty:ty= "str_ascii_iterator" \/ty= "str_iterator"):
  wj P w K (.Name x px) (OG z) [it] it (λi h=>h.IsStrIter it ty z t i/\i<=z.cps.size) where
 mem:=by simp
 obj:=λi h st b hb=>by
  have e:b=it:=by simpa using hb
  subst e;obtain⟨⟨o,e,c,d⟩,_⟩:=st;exact⟨o,e,λv z=>by rw[d]at z;cases z⟩
 keep:=λi h h' st k=>by
  obtain⟨⟨o,e,c,d⟩,z⟩:=st;exact⟨⟨o,k it (by simp) o e,c,d⟩,z⟩
 item:=by
  intro X hP hw hK hc i pins s σ H E I hf st hg;subst hP hw hK;obtain⟨f0,f1,f2,f3,f4,f5⟩:=hf it (by simp);have hi:i<z.cps.size:=hg;have fin:∀h':Heap,h'.IsStrIter it ty z t (i+1)->cM it s.heap h'->∃u,some (fh ⟨#[z.cps[i]]⟩ s.toks)=some u/\
    wpAny (aK X.prog X.w) X.A (j8 (.Name x px) (.ref it) u) (λ_ s2=>∃x H',Inv X pins σ H' s2/\RelV x u/\(OG z).yld i H x H'/\(s2.heap.IsStrIter it ty z t (i+1)/\i+1<=z.cps.size)/\∀b∈[it],H' b=none) E {s with heap:=h',toks:=s.toks+1}:=λh' st' sb=>by
   have I1:Inv X pins σ H {s with heap:=h',toks:=s.toks+1}:=I.turned (λb o hb e=>sb.extBut b o hb e) f0 f1 f3 f4 f5;exact⟨_,rfl,ah ⟨.str ⟨#[z.cps[i]]⟩,H,I1,⟨_,rfl⟩,⟨rfl,_,by simp[hi],rfl⟩,⟨st',hi⟩,λb hb=>(hf b hb).1⟩⟩
  rcases hty with rfl|rfl
  ·exact wpAny_pyNext_ascii_item st.1 (c:=z.cps[i]) (by simp[hi]) fin
  ·exact wpAny_pyNext_wide_item st.1 (c:=z.cps[i]) (by simp[hi]) fin
 done:=by
  intro X hP hw hK hc i pins s σ H E I hf st hg;subst hP hw hK;obtain⟨f0,f1,f2,f3,f4,f5⟩:=hf it (by simp);have hi:z.cps.size<=i:=hg;rcases hty with rfl|rfl
  ·exact wpAny_pyNext_ascii_end (I.ok.hd hc) st.1 (by simpa using hi) λh' eb=>⟨rfl,I.turned (t':=s.toks) (λb o hb e=>eb b o hb e) f0 f1 f3 f4 f5⟩
  ·exact wpAny_pyNext_wide_end (I.ok.hd hc) st.1 (by simpa using hi) λh' eb=>⟨rfl,I.turned (t':=s.toks) (λb o hb e=>eb b o hb e) f0 f1 f3 f4 f5⟩
 self:=λ_ _ _ _ _ st h=>by
  rcases hty with rfl|rfl
  ·exact wpAny_pyIter_striter_ascii st.1 h
  ·exact wpAny_pyIter_striter_wide st.1 h
def Pa:V->Option Int->Option Int->Hp->VK->Prop:=λx lo hi H Q=>∃z,x= .str z/\z.length<=ba/\Q (.str (bO z lo hi)) H
theorem IC:LD X Pa:=by
 intro pins s σ H x v vl vu lo hi sl Q I rx hs pl pu h;obtain⟨z,rfl,hz,q⟩:=h;obtain⟨t,rfl⟩:=rx;obtain⟨l,el1,el2⟩:∃l:Option (Int×Tok),vl=partValue l/\l.map (·.1)=lo:=by
  cases pl with
  |none=>exact⟨none,rfl,rfl⟩
  |int i u=>exact⟨some (i,u),rfl,rfl⟩
 obtain⟨u,eu1,eu2⟩:∃u:Option (Int×Tok),vu=partValue u/\u.map (·.1)=hi:=by
  cases pu with
  |none=>exact⟨none,rfl,rfl⟩
  |int i u=>exact⟨some (i,u),rfl,rfl⟩
 subst el1 eu1 el2 eu2;refine⟨"str",_,F.slot_str_getitem.lookup,typeIs_str _ _ _,?_⟩;refine wpAny_getItem_str_slice (l:=l) (u:=u) (st:=none) hs rfl ?_;exact post_val_or_str ⟨bj (Txt.slice_le z _ _) hz,λt' k=>⟨.str (bO z (l.map (·.1)) (u.map (·.1))),H,I.tok k,⟨_,rfl⟩,q⟩⟩
def qy(z:Str)(n:Nat):Str:=⟨(bz n z.cps).foldl (· ++·) #[]⟩
theorem tj(a:Array Nat):∀(n:Nat) (acc:Array Nat),((bz n a).foldl (· ++·) acc).size=acc.size+n*a.size
 |0,acc=>by simp
 |n+1,acc=>by
  rw[cW,mj,tj a n,pQ,Nat.add_mul];ac_nf
theorem se(z:Str)(n:Nat):(qy z n).length=z.length*n:=by
 show((bz n z.cps).foldl (· ++·) #[]).size=z.cps.size*n;rw[tj,Nat.mul_comm];simp
theorem xj:ik X (dC .Mult) (λx y H Q=>∃z i,x= .str z/\y= .int i/\1<=i/\i<=1000/\z.length<=10000/\Q (.str (if(i==1||z.length==0)=true then z else qy z i.toNat)) H):=by
 intro pins s σ H x y v u Q I rx ry h;obtain⟨z,i,rfl,rfl,h1,h2,h3,q⟩:=h;obtain⟨t,rfl⟩:=rx;obtain⟨t',rfl⟩:=ry;have hn:¬i<1:=by ac_nf
 have hsl:ba=16777216:=by rw[i6]
 have hmul:z.length*i.toNat<=10000*1000:=Nat.mul_le_mul h3 (by ac_nf);refine P.mul_str (by rw[decide_eq_false (by ac_nf),decide_eq_false (by ac_nf)];rfl) (λ_ _=> ?_) (λ_ _=> ?_) ?_
 ·have hdiv:(10000:Int)<=(2^63-1)/i:=by
   have:=Int.le_ediv_of_mul_le (a:=10000) (b:=2^63-1) (c:=i) (by ac_nf) (by ac_nf);exact this
  ac_nf
 ·unfold Builtin.Str.tooLong;rw[decide_eq_false (by ac_nf)]
 ·rw[if_neg hn];refine post_val_or_str ⟨?_,λt'' k=>⟨.str (if(i==1||z.length==0)=true then z else qy z i.toNat),H,I.tok k,⟨_,rfl⟩,q⟩⟩;split
  ·ac_nf
  ·show(qy z i.toNat).length<=ba;rw[se];ac_nf
theorem mK:∀{ys:List Str} {us:List ae},Vals (ys.map V.str) us->l7 us ys
 |[],us,h=>by
  cases us with
  |nil=>exact .nil
  |cons _ _=>cases h
 |y::ys,us,h=>by
  cases us with
  |nil=>cases h
  |cons u us=>
   cases h with
   |cons r t=>
    obtain⟨k,rfl⟩:=(show∃k,u=fh y k from r)
    exact .cons y k (mK t)
def Mq(K:PySem.W.Frag):V->List V->Hp->VK->Prop:=λx vs H Q=>∃z p ys,x= .str z/\vs=[.ref p]/\SqL K H p (ys.map V.str)/\(ys.map (·.length)).sum+ys.length*z.length<=16777216/\Q (.str (gs z ys)) H
theorem FR:AX X "str.join" (Mq X.K):=by
 intro pins s σ H x xs v us Q I rx rs h;obtain⟨z,p,ys,rfl,rfl,hq,hz,q⟩:=h;obtain⟨t,rfl⟩:=rx;obtain⟨u,rfl,ru⟩:=rs.one;cases ru;obtain⟨its,r,pl,_⟩:=I.list hq;exact join_list pl.isList (by simpa using mK r) hz λt' k=>⟨.str (gs z ys),H,I.tok k,⟨_,rfl⟩,q⟩
theorem vc{prog:aG}{w:aX}{A:Around}{bs:List Bool}{us:List ae}(h:Vals (bs.map V.bl) us):TruthOf prog w A (λi v=>us.toArray[i]? =some v) (λi=>(bs[i]?).getD true):=λi v s Q E hv hq=>by
 have hv':us[i]? =some v:=by simpa using hv
 have hi:i<us.length:=(ak.mp hv').1;have hl:=h.length;rw[av]at hl;have hb:bs[i]? =some bs[i]:=by simp
 obtain⟨u,hu,ru⟩:=h.get (i:=i) (x:= .bl bs[i]) (by rw[br,hb];rfl);rw[hv']at hu;cases hu;cases ru;refine dU ?_;have hq':Q ((bs[i]?).getD true) s:=hq;rw[hb]at hq';exact hq'
theorem AR(bs:List Bool):(bQ bs.length).all (λi=>(bs[i]?).getD true)=bs.all id:=by
 rw[cR,bv,bv];constructor
 ·intro h b hb;obtain⟨i,hi,rfl⟩:=bK.mp hb;have q:=h i (by simpa using hi);simpa [hi]using q
 ·intro h i hi;have hi':i<bs.length:=by simpa using hi
  have q:=h bs[i] (lc hi');simpa [hi']using q
theorem AQ(bs:List Bool):(bQ bs.length).any (λi=>(bs[i]?).getD true)=bs.any id:=by
 rw[cR,List.any_eq_true,List.any_eq_true];constructor
 ·rintro⟨i,hi,h⟩;have hi':i<bs.length:=by simpa using hi
  exact⟨bs[i],lc hi',by simpa [hi']using h⟩
 ·rintro⟨b,hb,h⟩;obtain⟨i,hi,rfl⟩:=bK.mp hb;exact⟨i,by simpa using hi,by simpa [hi]using h⟩
theorem qU{A:Around}{p:Addr}{its:List ae}{pins:List (Addr×Obj)}{σ:St}{H:Hp}{s:ag}(I:Inv X pins σ H s)(pl:PlainL s.heap p its.toArray)(hh:A.handled=none)(Q:ae->ag->Prop)(E:ae->ag->Prop)
  (h:∀J:Addr,H J=none->Walks X.prog X.w A J [J,p] [J] its.length (λi v=>its.toArray[i]? =some v) (λi h=>h.IsListIter J p i/\h.IsList p its.toArray)->∀s2:ag,s2.heap.IsListIter J p 0/\s2.heap.IsList p its.toArray->
   (∀h' tk,(∀b o,b∉[J]->s2.heap.get? b=some o->h'.get? b=some o)->Inv X pins σ H {s2 with heap:=h',toks:=tk})->Q (.ref J) s2):wpAny (aK X.prog X.w) A (pyIter (.ref p)) Q E s:=by
 refine tV pl.isList ?_;have hne:p≠s.heap.objs.size:=aN (by obtain⟨o,e,_⟩:=pl.isList;exact aA e);have hn:H s.heap.objs.size=none:=I.hok.fresh (ap _);have W:=Walks.list (prog:=X.prog) (w:=X.w) hh s.heap.objs.size p hne its.toArray;rw[aq]at W;refine h s.heap.objs.size hn W _ ⟨⟨_,aF _ rfl,rfl,rfl⟩,?_⟩ λh' tk hk=> ?_
 ·obtain⟨o,e,r⟩:=pl.isList;exact⟨o,ai _ e,r⟩
 ·exact I.kept (t':=tk) λb o e=>hk b o (by
   intro z;have:b=s.heap.objs.size:=by simpa using z
   subst this;exact absurd (aA e) (dJ _)) (ai _ e)
theorem Ed(hc:X.calm=true):eT X (.builtin "all") (λxs H Q=>∃(p:Addr) (bs:List Bool),xs=[.ref p]/\SqL X.K H p (bs.map V.bl)/\Q (.bl (bs.all id)) H):=by
 intro pins s σ H xs us Q I rs h;obtain⟨p,bs,rfl,hq,q⟩:=h;obtain⟨u,rfl,ru⟩:=rs.one;cases ru;obtain⟨its,r,pl,_⟩:=I.list hq;have hl:bs.length=its.length:=by have:=r.length;rwa [av]at this
 refine call_all_walk (qU I pl (show X.A.in1.handled=none from I.ok.hd hc) _ _ λJ hJ W s2 st k=>⟨J,_,_,_,_,_,_,rfl,W,st,vc r,λh' tk hk=>⟨.bl (bs.all id),H,k h' tk hk,?_,q⟩⟩);rw[<-hl,AR];rfl
theorem Ec(hc:X.calm=true):eT X (.builtin "any") (λxs H Q=>∃(p:Addr) (bs:List Bool),xs=[.ref p]/\SqL X.K H p (bs.map V.bl)/\Q (.bl (bs.any id)) H):=by
 intro pins s σ H xs us Q I rs h;obtain⟨p,bs,rfl,hq,q⟩:=h;obtain⟨u,rfl,ru⟩:=rs.one;cases ru;obtain⟨its,r,pl,_⟩:=I.list hq;have hl:bs.length=its.length:=by have:=r.length;rwa [av]at this
 refine call_any_walk (qU I pl (show X.A.in1.handled=none from I.ok.hd hc) _ _ λJ hJ W s2 st k=>⟨J,_,_,_,_,_,_,rfl,W,st,vc r,λh' tk hk=>⟨.bl (bs.any id),H,k h' tk hk,?_,q⟩⟩);rw[<-hl,AQ];rfl
def Ms(K:PySem.W.Frag):R2:=λx y H Q=>∃l b xs zs,x= .ref l/\y= .ref b/\SqL K H l xs/\SqL K H b zs/\xs.length+zs.length<=ba/\∀p,H p=none->Q (.ref p) (upd H p (.lst (xs++zs)))
theorem uo:ik X (dC .Add) (Ms X.K):=by
 intro pins s σ H x y v u Q I rx ry h;obtain⟨l,b,xs,zs,rfl,rfl,hH,hB,hz,q⟩:=h;cases rx;cases ry;obtain⟨its,r,pl,_⟩:=I.list hH;obtain⟨its2,r2,pl2,_⟩:=I.list hB;have l1:=r.length;have l2:=r2.length;obtain⟨⟨cls,dd,data,sl⟩,n,ho,hc,hd0,hd⟩:=pl;obtain⟨⟨cls2,dd2,data2,EW⟩,n2,ho2,hc2,hd02,hd2⟩:=pl2;simp only at hc hd hc2 hd2;subst hc hd hc2 hd2;refine concat_meets ⟨_,ho,rfl⟩ ⟨_,ho2,rfl⟩ noFill_list_add seq_list_add PySem.F.slot_list_add PySem.F.entry_list_add (PySem.F.args_list_add_2 _ _)
  (list_addW l b its.toArray its2.toArray n n2 dd dd2 sl EW (by rw[aq,aq];ac_nf)) ⟨ho,ho2,?_⟩
 have ea:its.toArray++its2.toArray=(its++its2).toArray:=by simp
 rw[ea];exact⟨.ref _,_,I.lnew (t':=s.toks) (r.append r2) (by rw[af];ac_nf),rfl,q _ I.fresh⟩
theorem z0:ik X (bD .LtE) (λx y H Q=>∃i j,x= .str i/\y= .str j/\Q (.bl (!(decide (j.cps.toList<i.cps.toList)))) H):=by
 intro pins s σ H x y v u Q I rx ry h;obtain⟨i,j,rfl,rfl,q⟩:=h;obtain⟨t,rfl⟩:=rx;obtain⟨t',rfl⟩:=ry;exact P.le_str (oW I q rfl)
def Ic(i j:Int):Prop:=0<j/\j<=10^30
theorem Cp:ik X (dC .FloorDiv) (rI Ic λi j=> .int (i/j)):=Ov λi j _ _ _ _ _ hc q=>by
 have h0:j≠0:=by have:=hc.1;ac_nf
 refine floordiv_int h0 ?_ (.inl (PyProof.noPylong_of_log2 ?_))
 ·rw[Int.fdiv_eq_ediv_of_nonneg _ (Int.le_of_lt hc.1)];exact q
 ·have h1:j.natAbs≠0:=by ac_nf
  have h2:j.natAbs<2^100:=by
   have h3:=hc.2;have h4:=hc.1;have e:(10:Int)^30<2^100:=by decide
   have h5:((j.natAbs:Nat):Int)=j:=by ac_nf
   ac_nf
  have:=(Nat.log2_lt h1).mpr h2;ac_nf
end
section
variable{P:aG}{w:aX}{H:Hp}{h h':Heap}{a:Addr}{o:HO}
theorem ObjOk.stands(x:ObjOk P w H h a o):∃u,h.get? a=some u:=by
 cases o with
 |lst xs=>obtain⟨_,_,_,_,e⟩:=x;exact⟨_,e⟩
 |tup xs=>obtain⟨_,_,_,p⟩:=x;obtain⟨u,e,_⟩:=p;exact⟨u,e⟩
 |dK kvs=>obtain⟨_,_,_,_,u,_,_,e,_⟩:=x;exact⟨u,e⟩
 |dT kvs=>obtain⟨_,_,_,_,u,_,_,e,_⟩:=x;exact⟨u,e⟩
 |set S n=>obtain⟨u,_,_,_,e,_⟩:=x;exact⟨u,e⟩
 |ins C dx fs=>obtain⟨_,_,_,e,_⟩:=x;exact⟨_,e⟩
 |own y=>exact x
 |xd fs=>obtain⟨_,⟨u,_,_,e,_⟩,_⟩:=x;exact⟨u,e⟩
 |rng lo hi=>obtain⟨_,_,_,e⟩:=x;exact⟨_,e⟩
 |frz ob u=>obtain⟨e,_⟩:=x;exact⟨ob,e⟩
 |tbl ps=>exact⟨_,x⟩
 |met f y=>exact⟨_,x⟩
 |ext φ=>exact x.2.1
theorem HOk.none_of(x:HOk P w H h)(e:h.get? a=none):H a=none:=by
 cases q:H a with
 |none=>rfl
 |some u=>
  obtain⟨o,z⟩:=(x a u q).stands
  rw[e]at z;cases z
theorem HOk.laidN(x:HOk P w H h)(k:∀b u,h.get? b=some u->h'.get? b=some u)(hn:H a=none)(new:ObjOk P w (upd H a o) h' a o):HOk P w (upd H a o) h':=λb u e=>by
 by_cases hb:b=a
 ·subst hb;rw[eA]at e;cases e;exact new
 ·rw[bJ hb]at e;exact(x b u e).stay (λc v _ q=>k c v q) (λc q=>by rw[bJ (cH q hn)];exact q) λc xs q=>by rw[bJ (cH q hn)];exact q
theorem Un.laidN{fs ex:List Addr}(k:∀b u,h.get? b=some u->h'.get? b=some u)(hp:h.get? a=none)(hn:H a=none):Un fs ex H (upd H a o) h h' where
 keep:=λb u q _ _ _=>k b u q
 slot:=λb u q _ _ _=>⟨u.slots,k b u q⟩
 free:=λb u q n _=>by rw[bJ (λz=>by subst z;rw[hp]at q;cases q)];exact n
 there:=λb u q _=>⟨u,k b u q⟩
 tups:=λb xs q=>by rw[bJ (cH q hn)];exact q
 frzs:=λb u xs q=>by rw[bJ (cH q hn)];exact q
 tbls:=λb ps q=>⟨#[],by rw[bJ (cH q hn),q];simp⟩
end
section
variable{X:Cx}
def XAt(e C:Addr)(h:Heap):Prop:=∃ob,h.get? e=some ob/\ob.cls= .ref C
def v5(e C:Addr):HO:= .ext (XAt e C)
theorem XAt.stay{e C:Addr}:∀h1 h2:Heap,XAt e C h1->(∀o,h1.get? e=some o->h2.get? e=some o)->XAt e C h2:=λ_ _ ⟨ob,h1,h2⟩ k=>⟨ob,k ob h1,h2⟩
abbrev su:List ae:=[.type "ValueError",.type "Exception",.type "BaseException",.type "object"]
theorem oX{K:PySem.W.Frag}{h:Heap}{C:Addr}{bmB:List ae}{newId:String}(XK:K.In h)(q:PySem.W.excIn K C bmB newId=true):
  ∃bm ns nm qn bs hd sn sub ab col dd k0 k1 k2 k3 k5,∃mN:Str->Option ae,h.get? C=some (excClassObj nm qn C ns bs bm hd sn sub ab col dd k0 k1 k2 k3 k5 newId)/\h.Ns ns mN/\mN "__init__" =none/\OwnTail h bmB bm:=by
 unfold PySem.W.excIn at q;split at q
 ·rename_i dd cd sl ho;split at q
  ·rename_i C' bm k0 k1 k2 k3 n k5 hm hs;simp only[aB,beq_iff_eq,Bool.not_eq_true']at q;obtain⟨⟨⟨⟨⟨e1,e2⟩,hdel⟩,ht⟩,hok⟩,hni⟩:=q;subst e1 e2;obtain⟨nm,bs,mro,ns,qn,hd,sn,sub,ab,col,del⟩:=cd;dsimp only at hm hdel hok hni;subst hm hdel;have hsl:sl= #[k0,k1,k2,k3,some (.builtin n),k5]:=by
    obtain⟨l⟩:=sl;have hs':l=[k0,k1,k2,k3,some (.builtin n),k5]:=hs;rw[hs']
   subst hsl;exact⟨bm,ns,nm,qn,bs,hd,sn,sub,ab,col,dd,k0,k1,k2,k3,k5,_,XK _ _ ho,.of_isNs (PySem.W.isNs_of_in XK hok),PySem.W.nsMap_none_of_in XK hok hni,PySem.W.tail_of_in XK ht⟩
  ·cases q
 ·cases q
theorem qm{M:Model}{e C:Addr}{h:Heap}(p:XAt e C h):PySem.W.Looks M h (typeOf (.ref e)) (.ref C):=by
 obtain⟨ob,h1,h2⟩:=p;exact h2▸(PySem.W.Looks.ld h1).andThen .now
open Builtin Builtin.ObjectAttr Builtin.Getset_descriptor in
theorem GV{K:PySem.W.Frag}{prog:aG}{w:aX}{A:Around}{R:Result->ag->Prop}{s:ag}{e C:Addr}{tp:ae}(XK:K.In s.heap)(p:XAt e C s.heap)(hm:PySem.W.mroIn K C (.type "object")=some true)
  (z:R (.ok (.ret (.ref C))) s):codeAny (aK prog w) A (.call (.builtin "getset_descriptor.__get__") ⟨[.builtin "object.__class__",.ref e,tp],[]⟩) R s:=by
 obtain⟨h0,g0,d0,t0,o0⟩:=s;have T0:=qm (M:=aK prog w) p;have T1:=PySem.W.looks_mroIn (M:=aK prog w) XK hm;refine pM PySem.W.KF.slot_gs.plain PySem.W.KF.entry_gs (PySem.W.KF.slot_gs.check _ _ _ _ _ _ _ _ PySem.W.KF.type_class (PySem.W.KF.args_gs _ _ _) ?_);unfold Builtin.«getset_descriptor.__get__»;unfold descrGet;rw[PySem.W.dga_obj];refine aa (ah ?_);unfold descrGetter;unfold descrCheckInstance;unfold descrNameAndClass;unfold isInstance;simp only[PySem.W.KF.owner_class];repeat lk
 refine⟨Code.quiet_builtin _ (by decide+kernel),gM PySem.W.KF.entry_class ?_⟩;unfold Builtin.«object.__class__»;unfold shownTypeOf;repeat lk
 exact z
theorem Az{K:PySem.W.Frag}{prog:aG}{w:aX}{A:Around}{E:ae->ag->Prop}{Q:Option ae->ag->Prop}{s:ag}{e C:Addr}
  (pg:PySem.W.findIn K (.ref C) "__getattribute__" =some (some (.builtin "BaseException.__getattribute__"))) (pt:PySem.W.findIn K (.ref C) "__getattr__" =some none)
  (hf:∀M:Model,PySem.W.Looks M s.heap (Builtin.ObjectAttr.find (.ref e) (.ref C) "__class__") (.bind (.builtin "getset_descriptor.__get__") (.builtin "object.__class__")))
  (hm:PySem.W.mroIn K C (.type "object")=some true) (hb:PySem.W.mroIn K C (.type "BaseException")=some true)
  (XK:K.In s.heap) (p:XAt e C s.heap) (k:Q (some (.ref C)) {s with toks:=s.toks+1}):wpAny (aK prog w) A (getAttr? (.ref e) "__class__") Q E s:=by
 obtain⟨h,g,d,t,os⟩:=s;have L0:=qm (M:=aK prog w) p;have L1:=PySem.W.looks_findIn (M:=aK prog w) XK pg;have L2:=PySem.W.looks_findIn (M:=aK prog w) XK pt;have L3:=hf (aK prog w);have L4:=PySem.W.looks_mroIn (M:=aK prog w) XK hb;have hx2:(kI "BaseException.__getattribute__" ==kI "object.__getattribute__")=false:=by decide+kernel
 have f3:=F.excAttr_ValueError.ga.bind (.ref e);unfold getAttr? getAttrBy? getAttrBy;refine aa (wpAny_mkText (aa (fL (b6 (aa (L0.at (aa (L1.at ?_))))))));show wpAny _ _ (if(onTheHeap (.ref C)&&kI "BaseException.__getattribute__" ==kI "object.__getattribute__")=true then _ else _) _ _ _;rw[hx2,e8,if_neg bR];unfold getAttrByItsOwn;refine aa ?_;show wpAny _ _ (typeLookup (.ref C) "__getattr__") _ _ _;refine L2.at ?_;refine aa (fL (b6 ?_));show wpAny _ _ (boundAndCalled _ _ _) _ _ _;unfold boundAndCalled;rw[f3];refine aa (ah ?_);refine nD (pM F.excAttr_ValueError.ga.plain F.entry_bexc_ga ?_);have hk:builtinKind "BaseException.__getattribute__" =some .slot:=by decide+kernel
 have hsplit:splitId "BaseException.__getattribute__" =some ("BaseException", "__getattribute__"):=by decide+kernel
 have ha:=F.args_bexc_ga (.ref e) (.str "__class__" t);simp only[checkBuiltinCall,hk,hsplit];refine aa ?_;unfold isInstance;refine aa (L0.at (L4.at ?_));rw[if_neg (by decide)];refine pH ha ?_;show wpAny _ _ (Builtin.«object.__getattribute__» ⟨[.ref e,.str "__class__" t],[]⟩) _ _ _;unfold Builtin.«object.__getattribute__»;refine aa (pH (a:=(aM e,[fh "__class__" t])) rfl ?_);refine aa (ah ?_);refine aa (L0.at (aa (L3.at ?_)));show wpAny _ _ (holding [kI "object.__class__"] (call (.builtin "getset_descriptor.__get__") [.builtin "object.__class__",.ref e,.ref C])>>=ret) _ _ _;refine aa (b6 (nD (GV XK p hm ?_)));exact ah (PySem.W.handed_on rfl (ah k))
structure uQ(K:PySem.W.Frag)(C:Addr):Prop where
 pg:PySem.W.findIn K (.ref C) "__getattribute__" =some (some (.builtin "BaseException.__getattribute__"))
 pt:PySem.W.findIn K (.ref C) "__getattr__" =some none
 hb:PySem.W.mroIn K C (.type "BaseException")=some true
 ci:(PySem.W.clsIn K C).isSome=true
 ha:PySem.W.findIn K (.ref C) "__class__" =some (some (.builtin "object.__class__"))
 hn:PySem.W.specialIn K (.builtin "object.__class__") "__get__" =some (some (.builtin "getset_descriptor.__get__"))
 htk:PySem.W.takesIn K (.builtin "object.__class__")=some true
 hm:PySem.W.mroIn K C (.type "object")=some true
theorem vQ{K:PySem.W.Frag}{e C:Addr}(Z:uQ K C):PySem.W.KitX K (.ref e) (.ref C) (XAt e C) where
 ty:=λ_ _ _ p=>qm p
 it:=λ_ _ XK _=>by
  obtain⟨cd,hc⟩:=kh.mp Z.ci;unfold PySem.W.clsIn at hc;split at hc
  ·rename_i ho;intro A' Q' E' s' k q;unfold isType loadHead;exact aa (wpAny_loadPart (k _ _ (XK _ _ ho)) (ah q))
  ·cases hc
 ne:=λh tp dd its n sl XK htp=>by
  obtain⟨cd,hc⟩:=kh.mp Z.ci;refine Bool.eq_false_iff.mpr λq=> ?_;have ee:C=tp:=aM.inj (beq_iff_eq.mp q);subst ee;unfold PySem.W.clsIn at hc;split at hc
  ·rename_i ho;have z:=(XK _ _ ho).symm.trans htp;cases z
  ·cases hc
 ca:=fun{prog w A E Q s} XK p k=>Az Z.pg Z.pt (λM=>(PySem.W.looks_findIn XK Z.ha).andThen ((PySem.W.looks_specialIn XK Z.hn).andThen ((show PySem.W.Looks M s.heap (Builtin.ObjectAttr.dataDescriptor? (some (.builtin "object.__class__")) (some (.builtin "getset_descriptor.__get__"))) (some (_,_))from(PySem.W.looks_takesIn XK Z.htk).andThen .now).andThen (PySem.W.Looks.tag .now)))) Z.hm Z.hb XK p k
def LS:V->Option ae
 | .ref a=>some (.ref a)
 | .ty n=>some (.type n)
 |_=>none
theorem ox:eT X (.builtin "isinstance") (λxs H Q=>∃e C c cv b,xs=[.ref e,c]/\H e=some (v5 e C)/\uQ X.K C/\LS c=some cv/\PySem.W.kitOne X.K (.ref C) cv=some b/\Q (.bl b) H):=by
 intro pins s σ H xs us Q I rs h;obtain⟨e,C,c,cv,b,rfl,he,Z,hv,hk,q⟩:=h;obtain⟨u,v,rfl,ru,rv⟩:=rs.two;cases ru;have ev:v=cv:=by
  cases c<;>first
   |(cases hv;exact rv)
   |(exact absurd hv (by simp[LS]))
 subst ev;have p:XAt e C s.heap:=(I.hok e _ he).1;exact PySem.W.kia_one (vQ Z) I.kIn p hk (λz=>nomatch z) λtk=>⟨.bl b,H,I.tok tk,rfl,q⟩
end
def eF(sc:gu)(N:List Str)(scope:gu)(M:List Str)(ix:List (Option Nat))(j:Nat)(x:Str):Bool:=
 scope.kind== .function
 &&scope.names.all (λy=>if y.2== .local then scope.names.lookup y.1==some .local else true)
 &&scope.names.all (λy=>y.2 != .cell)
 &&decide M.Nodup
 &&M[j]? ==some x
 &&scope.names.lookup x==some .local
 &&ix[j]? ==some none
 &&ix.length==M.length
 &&scope.names.all (λy=>if y.2== .free then(sc.names.lookup y.1==some .cell||sc.names.lookup y.1==some .free)else true)
 &&(bQ M.length).all (λk=>match M[k]?,ix[k]? with
  |some y,some (some i)=>N[i]? ==some y&&(sc.names.lookup y==some .cell||sc.names.lookup y==some .free)&&scope.names.lookup y==some .free
  |_,_=>true)
theorem Eb{sc:gu}{N:List Str}{scope:gu}{M:List Str}{ix:List (Option Nat)}{j:Nat}{x:Str}(h:eF sc N scope M ix j x=true):iO sc N scope M ix j x:=by
 unfold eF at h;simp only[aB]at h;obtain⟨⟨⟨⟨⟨⟨⟨⟨⟨h1,h2⟩,h3⟩,h4⟩,h5⟩,h6⟩,h7⟩,h8⟩,h9⟩,h10⟩:=h;refine⟨beq_iff_eq.mp h1,λy hy e=> ?_,λy hy e=> ?_,of_decide_eq_true h4,beq_iff_eq.mp h5,beq_iff_eq.mp h6,beq_iff_eq.mp h7,beq_iff_eq.mp h8,λy hy e=> ?_,λk y i e1 e2=> ?_⟩
 ·have q:=bv.mp h2 y hy;rw[e]at q;exact beq_iff_eq.mp q
 ·have q:=bv.mp h3 y hy;rw[e]at q;cases q
 ·have q:=bv.mp h9 y hy;rw[e]at q;rcases Bool.or_eq_true_iff.mp q with z|z
  ·exact .inl (beq_iff_eq.mp z)
  ·exact .inr (beq_iff_eq.mp z)
 ·have hk:k<M.length:=(ak.mp e1).1;have q:=bv.mp h10 k (iX.mpr hk);rw[e1,e2]at q;simp only[aB,Bool.or_eq_true]at q;obtain⟨⟨q1,q2⟩,q3⟩:=q;refine⟨beq_iff_eq.mp q1,?_,beq_iff_eq.mp q3⟩;rcases q2 with z|z
  ·exact .inl (beq_iff_eq.mp z)
  ·exact .inr (beq_iff_eq.mp z)
section
end
section
variable{X:Cx}{scope:gu}{M:List Str}{ix:List (Option Nat)}{j:Nat}{x:Str}
theorem Fi{elt iter:Expr}{px py pos spos:Pos}{ifs:List Expr}{wi:TI}{tf:TT}{te:TE}{i:Nat}{y:Str}(hN:X.N.Nodup)(hi:X.N[i]? =some y)(hy:X.env.scope.names.lookup y=some .local)
  (S:iO X.env.scope X.N scope M ix j x) (hc:X.calm=true) (hit:PI X (.Name x px) iter wi)
  (hb:∀C s H fp,PF (cm X M scope C s H fp) ifs tf/\PE (cm X M scope C s H fp) elt te)
  (hsw:autoParam (ir (.ListComp elt [⟨.Name x px,iter,ifs,0⟩] scope pos) (some (.Name y py)) spos.line X.env=pure true) Qa) (hs:autoParam (∀x,eN iter X.env x=pure x) Qe):
  PS X (.Assign [.Name y py] (.ListComp elt [⟨.Name x px,iter,ifs,0⟩] scope pos) spos) (Iu (Bm wi ix j tf te) (rk i)):=by
 intro pins s σ H D I h;rw[exec_Assign_Name_used _ _ _ _ hsw];refine aa (wpAny_standAt (aa ?_));show wpAny _ X.A (do let _ <-comprehension (.ListComp elt [⟨.Name x px,iter,ifs,0⟩] scope pos) scope X.env _ (newList []) false (eval iter X.env) (some (assign (.Name y py) X.env))) _ _ s;refine aa (bh (me (use:=some (assign (.Name y py) X.env)) (Q:=λ_ s'=>SP X pins D .next s') rfl hs (jU λy hy e=>I.ok.has y.1 (S.free y hy e)) S.kind S.names
  (bh (hit pins s σ H _ I h) (λxv s₁ h₁=>bh h₁ (λit s₂ h₂=> ?_) λ_ _ e=>e) λ_ _ e=>e)) (λ_ s' hq=>ah (ah hq)) λ_ _ e=>e)
 obtain⟨it,fp,tn,J,H2,rfl,I2,T,st2,f2,q⟩:=h₂;refine bI (pI S.nocell (by intro y hy;simp at hy) (λh₁ hns₁ hsb₁=> ?_) S.kind);dsimp only at hns₁ hsb₁⊢;have hC:(s₂.heap.push {cls:= .type "list",dict:=none,data:= .seq ([]:List ae).toArray}).objs.size=s₂.heap.objs.size+1:=cb ..;rw[hC]at hns₁ hsb₁⊢;have below:∀b,b<s₂.heap.objs.size->b≠s₂.heap.objs.size+1:=λb hb=>aN (cc hb);have old:∀b o,s₂.heap.get? b=some o->h₁.get? b=some o:=λb o e=>hsb₁.extBut b o (below b (aA e)) (ai _ (ai _ e));have hD:h₁.get? s₂.heap.objs.size=some {cls:= .type "list",data:= .seq ([]:List ae).toArray 0}:=hsb₁.extBut _ _ (aN (dG _)) (ai _ (aF _ rfl));have hft:∀b∈fp,b<s₂.heap.objs.size:=λb hb=>by
  obtain⟨o,e,_⟩:=T.obj 0 s₂.heap st2 b hb;exact aA e
 have I0:=(nk (h1:=h₁) S I2 f2 hft old hD hns₁).tok s₂.toks;have hfr:H2 s₂.heap.objs.size=none:=I2.hok.fresh (ap _);have loop:codeAny (aK X.prog X.w) X.A (.compLoop (.ListComp elt [⟨.Name x px,iter,ifs,0⟩] scope pos) 0 (.ref it) (.ref s₂.heap.objs.size) (compEnvC scope (mh X.env.cells scope.names []) (s₂.heap.objs.size+1) X.env))
   (compPost (aK X.prog X.w) X.A X.xe (some (assign (.Name y py) X.env)) (λ_ s'=>SP X pins D .next s') (.ref s₂.heap.objs.size) (s₂.heap.objs.size+1)) {s₂ with heap:=h₁,toks:=s₂.toks}:=by
  refine rG (Q:=λv H'=>rk i v σ H' D.nx) S hc I2 (hb _ _ _ _).1 (hb _ _ _ _).2 T st2 f2 I0 old (q _ hfr) λH' s' I' qq=> ?_;show wpAny _ X.A (assign (.Name y py) X.env (.ref s₂.heap.objs.size)) _ _ s';have J1:Inv X pins σ H' s':=rF (h':=s'.heap) I2 (eR _) f2 I' (.refl ..);obtain⟨m,hn,_⟩:=I'.loc;obtain⟨oC,es,ep,hoC,hd,hrest⟩:=id hn;have nL:s₂.heap.objs.size+1≠X.env.locals:=ie (cc I2.lt);have nF:s₂.heap.objs.size+1∉X.fs:=I2.nofs (eR _);have hHC:H' (s₂.heap.objs.size+1)=none:=I'.free;have J2:Inv X (pins++[(s₂.heap.objs.size+1,oC)]) σ H' s':=J1.pins_of λp hp=>(aH.mp hp).elim (λz=>J1.pin p (a8 _ z)) λz=>by
   have e:p=(s₂.heap.objs.size+1,oC):=ar.mp z;subst e;exact⟨hoC,hHC,nL,nF,λv z=>by rw[hd]at z;cases z⟩
  refine wpAny_assign_Name (j5 (v:= .ref s₂.heap.objs.size) J2 hN hi (.inl hy) rfl (λs'' J3=> ?_) (.inr hy));have hoC2:s''.heap.get? (s₂.heap.objs.size+1)=some oC:=(J3.pin (s₂.heap.objs.size+1,oC) (a8 _ (a8 _ (ar.mpr rfl)))).1;refine⟨m,⟨oC,es,ep,hoC2,hd,hrest⟩,λh' hb'=> ?_⟩;have J4:Inv X pins (σ.set i (some (.ref s₂.heap.objs.size))) H' s'':=J3.unpinned;refine⟨_,H',J4.turned (t':=s''.toks) (it:=s₂.heap.objs.size+1) (λb o hne e=>hb'.extBut b o hne e) hHC nL (.inr (bj I2.sz (eR _))) (λz c e1 e2=> ?_) (λp hp e2=> ?_),qq⟩
  ·obtain⟨v,qc⟩:=I2.cell z c e1;have:=qc.lt;rw[e2]at this;exact absurd (Nat.lt_of_succ_lt this) (dJ _)
  ·have:=aA (I2.pin p hp).1;rw[e2]at this;exact absurd (Nat.lt_of_succ_lt this) (dJ _)
 exact ot loop (T.self _ 0 _ _ _ (T.keep 0 _ _ st2 λb _ o e=>old b o e) loop)
end
end L2
namespace HT
open PySem PyProof.Rows
section
variable{prog:aG}{w:aX}{A:Around}{E:ae->ag->Prop}{s:ag}
theorem xT(n:Nat):eM none none (-1) (n:Int)=((n:Int)-1,-1):=rfl
theorem xb(n:Nat):ck ((n:Int)-1) (-1) (-1)=n:=by
 unfold ck;rw[if_neg (by decide)];by_cases h:((n:Int)-1> -1)
 ·rw[if_pos h,show(-(-1:Int))=1 from rfl,Int.ediv_one];ac_nf
 ·rw[if_neg h];ac_nf
theorem oI{sl:Addr}{t:Tok}{n:Nat}{Q:Int×Int×Nat->ag->Prop}(hs:s.heap.IsSliceOf sl .none .none (.int (-1) t))(h:Q ((n:Int)-1,-1,n) s):
  wpAny (aK prog w) A (fR (.ref sl) (pure (n:Int))) Q E s:=by
 obtain⟨os,hos,hcs,hds⟩:=id hs;unfold fR pF;refine aa (aa (cT hos hds (x:= .none) rfl (aa (cT hos hds (x:= .none) rfl (aa (cT hos hds (x:= .int (-1) t) rfl (ah ?_)))))));refine aa (js (.int (-1) t) ?_);show wpAny _ _ (if((-1:Int)==0)=true then _ else _) _ _ s;rw[if_neg (by decide)];refine aa (js .none (aa (js .none (aa (ah ?_)))));show wpAny _ _ (match eM none none (-1) (n:Int)with|(lo,hi)=>pure (lo,(-1:Int),ck lo hi (-1))) _ _ s;rw[xT n];show wpAny _ _ (pure ((n:Int)-1,(-1:Int),ck ((n:Int)-1) (-1) (-1))) _ _ s;rw[xb];exact ah h
theorem pick_rev(xs:Array ae):((bQ xs.size).filterMap fun(m:Nat)=>xs[(((xs.size:Nat):Int)-1+(m:Int)*(-1)).toNat]?).toArray=xs.toList.reverse.toArray:=by
 congr 1;have e:∀k,k<=xs.size->((bQ k).filterMap fun(m:Nat)=>xs[(((xs.size:Nat):Int)-1+(m:Int)*(-1)).toNat]?)=xs.toList.reverse.take k:=by
  intro k;induction k with
  |zero=>intro _;rfl
  |succ k ih=>
   intro hk
   have hlt:xs.size-1-k<xs.size:=by ac_nf
   have e1:(((xs.size:Nat):Int)-1+(k:Int)*(-1)).toNat=xs.size-1-k:=by ac_nf
   rw[List.range_succ,List.filterMap_append,ih (by ac_nf),cK]
   congr 1
   have hl:k<xs.toList.reverse.length:=by simp;ac_nf
   have g:xs.toList.reverse[k]? =some xs[xs.size-1-k]:=by
    rw[List.getElem?_reverse (by simpa using(show k<xs.size by ac_nf))];simp[hlt]
   rw[g]
   have gg:xs[(((xs.size:Nat):Int)-1+(k:Int)*(-1)).toNat]? =some xs[xs.size-1-k]:=by rw[e1];simp[hlt]
   rw[dO,gg]
   rfl
 have:=e xs.size (ap _);rw[this,cE (by simp)]
theorem getItem_tuple_rev{t sl:Addr}{items:Array ae}{k:Tok}{Q:ae->ag->Prop}(ht:IsTup s.heap t items)(hs:s.heap.IsSliceOf sl .none .none (.int (-1) k))
  (h:Q (.ref s.heap.objs.size) {s with heap:=s.heap.push {cls:= .type "tuple",data:= .seq items.toList.reverse.toArray}})
  (hsz:items.size<=ba):wpAny (aK prog w) A (getItem (.ref t) (.ref sl)) Q E s:=by
 have hsize:sizeOk (.seq items.toList.reverse.toArray):=by
  show items.toList.reverse.toArray.size<=ba;rw[aq,fI,aE];exact hsz
 obtain⟨os,hos,hcs,hds⟩:=id hs;have hTs:s.TypeIs (.ref sl) "slice" :=⟨os,hos,hcs⟩;unfold getItem;try with_reducible refine b6 ?_
 first|refine aa (ah ?_)|skip
 refine aa (tU ht.typeIs (by decide) ?_);refine aa (cu (name:=al "__getitem__") ht.typeIs bx
  (cr bx ht.typeIs rA ?_ (sv _ _)))
 show wpAny _ _ (ja (.ref t)>>=_) _ _ s;refine aa (tupleItemsOf_ ht ?_);refine aa (kj hTs ?_);rw[if_pos (by decide)];refine aa (oI hs ?_);show wpAny _ _ (if((((items.size:Nat):Int)-1)==0&&(-1:Int)==1&&items.size==items.size)=true then _ else _) _ _ s;rw[if_neg (by intro q;rw[aB,aB]at q;exact absurd q.1.2 (by decide)),pick_rev];first
  |exact aa (m:=cw _) (bI (ah ⟨_,rfl,ah h⟩) hsize)
  |exact aa (m:=cw _) (bI (aa (ah (ah ⟨_,rfl,ah h⟩))) hsize)
  |exact aa (aa (m:=cw _) (bI (ah (ah ⟨_,rfl,ah h⟩)) hsize))
  |exact aa (aa (m:=cw _) (bI (ah ⟨_,rfl,ah h⟩) hsize))
end
end HT
namespace L2
open PySem PySem.Spec PyProof.Rows
section
end
end L2
namespace PySem
open Sem (wp)
open Builtin Builtin.List Builtin.Tuple
namespace AutoSeq1
set_option maxRecDepth 8000 in
theorem extend_tup(l:Addr)(items:Array ae)(n:Nat)(b:Addr)(items2:Array ae)(n2:Nat)(dd:Option Addr)(sl:Array (Option ae))(c0:¬(!items.isEmpty&&dQ (items.size+items2.size))=true)(c1:items.size<=ba)(c2:items.size+items2.size<=ba+1):
  Meets (Builtin.«list.extend» ⟨[.ref l,.ref b],[]⟩) (λ_ R s=>s.heap.get? l=some {cls:= .type "list",dict:=none,data:= .seq items n,slots:= #[]}/\s.heap.get? b=some ⟨.type "tuple",dd,.seq items2 n2,sl⟩/\R (.ok (.ret bF)) {s with heap:=s.heap.update l (cI λx=>x++items2)}):=
 .of_wp λprog w A R s h=>by
  obtain⟨hp,g,d,tk,os⟩:=s;obtain⟨hl,hb,h⟩:=h;have f1:=idx_int;have f2:=sub_tuple_tuple;have f3:=sub_list_list;have f4:=sub_tuple_list;have f5:=sub_list_tuple;have wu:(items++items2).size<=ba+1:=by rw[pQ];exact c2
  wp_walk using(wpAny_updateSeq hl rfl (hz:=c1) (_hz':=wu)),iQ hl,iQ hb;exact⟨_,rfl,h⟩
end AutoSeq1
end PySem
namespace L2
open PySem PySem.Spec PyProof.Rows
section
variable{X:Cx}
def B4(K:PySem.W.Frag):V->List V->Hp->VK->Prop:=λx vs H Q=>∃l b xs zs,x= .ref l/\vs=[.ref b]/\H l=some (.lst xs)/\SqT K H b zs/\xs.length+zs.length<=ba/\Q .non (upd H l (.lst (xs++zs)))
theorem xp:OF X "list.extend" (B4 X.K):=by
 intro pins s σ H x vs v us Q I rx rv h;obtain⟨l,b,xs,zs,rfl,rfl,hH,hB,hz,q⟩:=h;cases rx;obtain⟨u,rfl,ru⟩:=rv.one;cases ru;obtain⟨z,its,n,r,hl,e⟩:=I.lstM hH;obtain⟨its2,r2,tp,hz2⟩:=I.tuple hB;have hl2:=r2.length;obtain⟨⟨cls,dd,data,sl⟩,ho,hc,n2,hd⟩:=tp;simp only at hc hd;subst hc hd;have hsz:its.toArray.size+its2.toArray.size<=ba:=by rw[aq,aq];ac_nf
 have hlong:¬(!its.toArray.isEmpty&&dQ (its.toArray.size+its2.toArray.size))=true:=by
  rw[qN hsz,e8];exact bR
 refine ou F.slot_list_extend ⟨_,e,rfl⟩ F.entry_list_extend (F.args_list_extend_2 _ _) (AutoSeq1.extend_tup l its.toArray n b its2.toArray n2 dd sl hlong (by rw[aq];ac_nf) (by ac_nf)) ⟨e,ho,?_⟩;refine⟨.non,_,I.lset (t':=s.toks) (its':=its++its2) hH e (by simp) (r.append r2) ?_,rfl,q⟩;rw[af];ac_nf
end
section
variable{κ:Type}[DecidableEq κ]
end
section
end
section
end
section
end
section
end
section
end
section
end
section
end
section
end
section
end
end L2
namespace L2
open PySem
section
end
section
variable{κ:Type}[DecidableEq κ]
end
end L2
namespace L3
open PySem L2
inductive PV where
 |non|bl (b:Bool)|int (i:Int)|str (x:Str)|tup (xs:List PV)|ref (a:Addr)|ty (n:String)|ro (xs:List PV)
inductive MO where
 |lst (xs:List PV)|rl (xs:List PV)|dK (kvs:List (qi×PV))|rng (lo hi:Int)|ins (C dx:Addr) (fs:List (Str×PV))|exc (C:Addr)|rd (kvs:List (qi×PV))
abbrev Gp:=Addr->Option MO
def up(G:Gp)(a:Addr)(o:MO):Gp:=λb=>if b=a then some o else G b
theorem aC{G:Gp}{a:Addr}{o:MO}:up G a o a=some o:=by unfold up;rw[if_pos rfl]
theorem cz{G:Gp}{a b:Addr}{o:MO}(h:b≠a):up G a o b=G b:=by unfold up;rw[if_neg h]
theorem lg{G:Gp}{a:Addr}{o u:MO}:up (up G a o) a u=up G a u:=by
 funext b;unfold up;split<;>rfl
theorem ES{G:Gp}{a:Addr}{o:MO}(h:G a=some o):up G a o=G:=by
 funext b;unfold up;split
 ·rename_i e;rw[e,h]
 ·rfl
def FzL(K:PySem.W.Frag)(H:Hp)(a:Addr)(xs:List V):Prop:=
 (∃o,H a=some (.frz o (.lst xs)))\/∃(o:Obj) (its:Array ae) (n:Nat),K.lookup a=some o/\o.cls= .type "list" /\o.dict=none/\o.data= .seq its n/\its.size<=ba/\Vals xs its.toList
theorem FzL.sq{K:PySem.W.Frag}{H:Hp}{a:Addr}{xs:List V}(h:FzL K H a xs):SqL K H a xs:=by
 rcases h with⟨o,h⟩|h
 ·exact .inl (.inr ⟨o,h⟩)
 ·exact .inr h
mutual
def Dv(K:PySem.W.Frag)(H:Hp):PV->V->Prop
 | .non,v=>v= .non
 | .bl b,v=>v= .bl b
 | .int i,v=>v= .int i
 | .str x,v=>v= .str x
 | .tup ps,v=>∃a vs,v= .ref a/\SqT K H a vs/\Dvs K H ps vs
 | .ref a,v=>v= .ref a
 | .ty n,v=>v= .ty n
 | .ro ps,v=>∃a vs,v= .ref a/\FzL K H a vs/\Dvs K H ps vs
def Dvs(K:PySem.W.Frag)(H:Hp):List PV->List V->Prop
 |[],vs=>vs=[]
 |p::ps,vs=>∃v r,vs=v::r/\Dv K H p v/\Dvs K H ps r
end
def Keep(K:PySem.W.Frag)(H H':Hp):Prop:=(∀a xs,SqT K H a xs->SqT K H' a xs)/\∀a o u,H a=some (.frz o u)->H' a=some (.frz o u)
section
variable{K:PySem.W.Frag}{H H' H1 H2:Hp}
theorem Keep.refl:Keep K H H:=⟨λ_ _ h=>h,λ_ _ _ h=>h⟩
theorem Keep.trans(a:Keep K H H1)(b:Keep K H1 H2):Keep K H H2:=⟨λc xs h=>b.1 c xs (a.1 c xs h),λc o u h=>b.2 c o u (a.2 c o u h)⟩
theorem qX{p:Addr}{o:HO}(h:∀xs,¬Rd H p (.tup xs))(hf:∀o u,H p≠some (.frz o u)):Keep K H (upd H p o):=⟨λa xs q=>by
 rcases q with q|q
 ·have ne:a≠p:=λz=>by subst z;exact h xs q
  refine .inl ?_;rcases q with q|⟨o',q⟩
  ·exact .inl (by rw[bJ ne];exact q)
  ·exact .inr ⟨o',by rw[bJ ne];exact q⟩
 ·exact .inr q,λa o' u q=>by
 have ne:a≠p:=λz=>by subst z;exact hf o' u q
 rw[bJ ne];exact q⟩
theorem FzL.keep{a:Addr}{xs:List V}(k:Keep K H H')(h:FzL K H a xs):FzL K H' a xs:=by
 rcases h with⟨o,h⟩|h
 ·exact .inl ⟨o,k.2 _ _ _ h⟩
 ·exact .inr h
theorem cf{p:Addr}{o:HO}(h:H p=none):Keep K H (upd H p o):=qX (λxs q=>by
 rcases q with q|⟨o',q⟩<;>(rw[h]at q;cases q)) λo u q=>by rw[h]at q;cases q
theorem gQ{p:Addr}{o:HO}{ys:List V}(h:H p=some (.lst ys)):Keep K H (upd H p o):=qX (λxs q=>by
 rcases q with q|⟨o',q⟩<;>(rw[h]at q;cases q)) λo u q=>by rw[h]at q;cases q
mutual
theorem Dv.keep(k:Keep K H H'):∀(p:PV) {v:V},Dv K H p v->Dv K H' p v
 | .non,_,h=>h
 | .bl _,_,h=>h
 | .int _,_,h=>h
 | .str _,_,h=>h
 | .tup ps,_,h=>by
  obtain⟨a,vs,e,q,r⟩:=h;exact⟨a,vs,e,k.1 a vs q,Dvs.keep k ps r⟩
 | .ref _,_,h=>h
 | .ty _,_,h=>h
 | .ro ps,_,h=>by
  obtain⟨a,vs,e,q,r⟩:=h;exact⟨a,vs,e,q.keep k,Dvs.keep k ps r⟩
theorem Dvs.keep(k:Keep K H H'):∀(ps:List PV) {vs:List V},Dvs K H ps vs->Dvs K H' ps vs
 |[],_,h=>h
 |p::ps,_,h=>by
  obtain⟨v,r,e,q,z⟩:=h;exact⟨v,r,e,Dv.keep k p q,Dvs.keep k ps z⟩
end
theorem Dvs.length:∀{ps:List PV} {vs:List V},Dvs K H ps vs->vs.length=ps.length
 |[],_,h=>by rw[show _=[]from h];rfl
 |p::ps,_,h=>by
  obtain⟨v,r,rfl,_,z⟩:=h;rw[aj,aj,Dvs.length z]
theorem Dvs.get:∀{ps:List PV} {vs:List V} {i:Nat} {v:V},Dvs K H ps vs->vs[i]? =some v->∃p,ps[i]? =some p/\Dv K H p v
 |[],_,i,v,h,e=>by rw[show _=[]from h]at e;simp at e
 |p::ps,_,0,v,h,e=>by
  obtain⟨v',r,rfl,q,z⟩:=h;have:v'=v:=by simpa using e
  subst this;exact⟨p,rfl,q⟩
 |p::ps,_,i+1,v,h,e=>by
  obtain⟨v',r,rfl,q,z⟩:=h;obtain⟨p',e1,q1⟩:=Dvs.get (i:=i) z (by simpa using e);exact⟨p',by simpa using e1,q1⟩
theorem Dvs.at:∀{ps:List PV} {vs:List V} {i:Nat} {p:PV},Dvs K H ps vs->ps[i]? =some p->∃v,vs[i]? =some v/\Dv K H p v:=fun{ps vs i p} h e=>by
 have hl:=h.length;have hi:i<vs.length:=by rw[hl];exact(ak.mp e).1
 obtain⟨p',e',q⟩:=h.get (au hi);rw[e]at e';cases e';exact⟨_,au hi,q⟩
theorem Dvs.append:∀{ps qs:List PV} {vs us:List V},Dvs K H ps vs->Dvs K H qs us->Dvs K H (ps++qs) (vs++us)
 |[],_,_,_,h,g=>by rw[show _=[]from h];exact g
 |p::ps,_,_,_,h,g=>by
  obtain⟨v,r,rfl,q,z⟩:=h;exact⟨v,r++_,rfl,q,Dvs.append z g⟩
theorem Dvs.nil:Dvs K H [] []:=rfl
theorem Dvs.cons{p:PV}{ps:List PV}{v:V}{vs:List V}(a:Dv K H p v)(b:Dvs K H ps vs):Dvs K H (p::ps) (v::vs):=⟨v,vs,rfl,a,b⟩
theorem Dvs.take:∀{ps:List PV} {vs:List V} (n:Nat),Dvs K H ps vs->Dvs K H (ps.take n) (vs.take n)
 |_,_,0,_=>rfl
 |[],_,n+1,h=>by rw[show _=[]from h];rfl
 |p::ps,_,n+1,h=>by
  obtain⟨v,r,rfl,q,z⟩:=h;exact⟨v,_,rfl,q,Dvs.take n z⟩
theorem Dvs.drop:∀{ps:List PV} {vs:List V} (n:Nat),Dvs K H ps vs->Dvs K H (ps.drop n) (vs.drop n)
 |_,_,0,h=>h
 |[],_,n+1,h=>by rw[show _=[]from h];rfl
 |p::ps,_,n+1,h=>by
  obtain⟨v,r,rfl,q,z⟩:=h;exact Dvs.drop n z
theorem Dvs.reverse:∀{ps:List PV} {vs:List V},Dvs K H ps vs->Dvs K H ps.reverse vs.reverse
 |[],_,h=>by rw[show _=[]from h];rfl
 |p::ps,_,h=>by
  obtain⟨v,r,rfl,q,z⟩:=h;rw[iW,iW];exact(Dvs.reverse z).append (.cons q .nil)
theorem Dvs.set{p:PV}{v:V}(a:Dv K H p v):∀{ps:List PV} {vs:List V} (i:Nat),Dvs K H ps vs->Dvs K H (ps.set i p) (vs.set i v)
 |[],_,_,h=>by rw[show _=[]from h];rfl
 |q::ps,_,0,h=>by
  obtain⟨v',r,rfl,_,z⟩:=h;exact⟨v,r,rfl,a,z⟩
 |q::ps,_,i+1,h=>by
  obtain⟨v',r,rfl,b,z⟩:=h;exact⟨v',_,rfl,b,Dvs.set a i z⟩
end
def DKv(K:PySem.W.Frag)(H:Hp):List (qi×PV)->List (qi×V)->Prop
 |[],vs=>vs=[]
 |(k,p)::ps,vs=>∃v r,vs=(k,v)::r/\Dv K H p v/\DKv K H ps r
def DFv(K:PySem.W.Frag)(H:Hp):List (Str×PV)->List (Str×V)->Prop
 |[],vs=>vs=[]
 |(k,p)::ps,vs=>∃v r,vs=(k,v)::r/\Dv K H p v/\DFv K H ps r
def RepO(K:PySem.W.Frag)(H:Hp)(a:Addr):MO->Prop
 | .lst ps=>∃vs,H a=some (.lst vs)/\Dvs K H ps vs
 | .rl ps=>∃vs,Rd H a (.lst vs)/\Dvs K H ps vs
 | .dK kvs=>∃vs,H a=some (.dK vs)/\DKv K H kvs vs
 | .rng lo hi=>H a=some (.rng lo hi)
 | .ins C dx fs=>∃vs,H a=some (.ins C dx vs)/\DFv K H fs vs
 | .exc C=>H a=some (v5 a C)
 | .rd kvs=>∃vs,Rd H a (.dK vs)/\DKv K H kvs vs
def Rep(K:PySem.W.Frag)(H:Hp)(G:Gp):Prop:=∀a o,G a=some o->RepO K H a o
section
variable{K:PySem.W.Frag}{H H':Hp}{G G':Gp}{p:Addr}
theorem DKv.keep(k:Keep K H H'):∀(ps:List (qi×PV)) {vs:List (qi×V)},DKv K H ps vs->DKv K H' ps vs
 |[],_,h=>h
 |(x,p)::ps,_,h=>by
  obtain⟨v,r,e,q,z⟩:=h;exact⟨v,r,e,Dv.keep k p q,DKv.keep k ps z⟩
theorem DFv.keep(k:Keep K H H'):∀(ps:List (Str×PV)) {vs:List (Str×V)},DFv K H ps vs->DFv K H' ps vs
 |[],_,h=>h
 |(x,p)::ps,_,h=>by
  obtain⟨v,r,e,q,z⟩:=h;exact⟨v,r,e,Dv.keep k p q,DFv.keep k ps z⟩
theorem RepO.some{o:MO}(h:RepO K H p o):∃u,H p=some u:=by
 cases o with
 |lst ps=>obtain⟨vs,e,_⟩:=h;exact⟨_,e⟩
 |rl ps=>
  obtain⟨vs,e,_⟩:=h
  rcases e with e|⟨o,e⟩
  ·exact⟨_,e⟩
  ·exact⟨_,e⟩
 |dK ps=>obtain⟨vs,e,_⟩:=h;exact⟨_,e⟩
 |rng lo hi=>exact⟨_,h⟩
 |ins C dx fs=>obtain⟨vs,e,_⟩:=h;exact⟨_,e⟩
 |exc C=>exact⟨_,h⟩
 |rd ps=>
  obtain⟨vs,e,_⟩:=h
  rcases e with e|⟨o,e⟩
  ·exact⟨_,e⟩
  ·exact⟨_,e⟩
theorem Rep.none(r:Rep K H G)(h:H p=none):G p=none:=by
 cases e:G p with
 |none=>rfl
 |some o=>
  obtain⟨u,z⟩:=(r p o e).some
  rw[h]at z;cases z
theorem RepO.upd{a:Addr}{o:MO}{ho:HO}(k:Keep K H (upd H p ho))(ne:a≠p)(h:RepO K H a o):RepO K (L2.upd H p ho) a o:=by
 cases o with
 |lst ps=>obtain⟨vs,e,d⟩:=h;exact⟨vs,by rw[bJ ne];exact e,d.keep k⟩
 |rl ps=>
  obtain⟨vs,e,d⟩:=h
  refine⟨vs,?_,d.keep k⟩
  rcases e with e|⟨o,e⟩
  ·exact .inl (by rw[bJ ne];exact e)
  ·exact .inr ⟨o,by rw[bJ ne];exact e⟩
 |dK ps=>obtain⟨vs,e,d⟩:=h;exact⟨vs,by rw[bJ ne];exact e,d.keep k⟩
 |rng lo hi=>show L2.upd H p ho a=_;rw[bJ ne];exact h
 |ins C dx fs=>obtain⟨vs,e,d⟩:=h;exact⟨vs,by rw[bJ ne];exact e,DFv.keep k _ d⟩
 |exc C=>show L2.upd H p ho a=_;rw[bJ ne];exact h
 |rd ps=>
  obtain⟨vs,e,d⟩:=h
  refine⟨vs,?_,d.keep k⟩
  rcases e with e|⟨o,e⟩
  ·exact .inl (by rw[bJ ne];exact e)
  ·exact .inr ⟨o,by rw[bJ ne];exact e⟩
theorem Rep.upd{ho:HO}(r:Rep K H G)(k:Keep K H (upd H p ho))(hG:∀a o,G' a=some o->a≠p->G a=some o)(hp:∀o,G' p=some o->RepO K (L2.upd H p ho) p o):Rep K (L2.upd H p ho) G':=λa o e=>by
 by_cases hb:a=p
 ·subst hb;exact hp o e
 ·exact(r a o (hG a o e hb)).upd k hb
theorem Rep.tup{vs:List V}(r:Rep K H G)(h:H p=Option.none):Rep K (L2.upd H p (.tup vs)) G:=r.upd (cf h) (λ_ _ e _=>e) λo e=>by rw[r.none h]at e;cases e
theorem Rep.new{vs:List V}{ps:List PV}(r:Rep K H G)(h:H p=Option.none)(d:Dvs K H ps vs):Rep K (L2.upd H p (.lst vs)) (up G p (.lst ps)):=by
 refine r.upd (cf h) (λa o e ne=>by rw[cz ne]at e;exact e) λo e=> ?_;rw[aC]at e;cases e;exact⟨vs,eA,d.keep (cf h)⟩
theorem Rep.put{vs vs0:List V}{ps:List PV}(r:Rep K H G)(h:H p=kd (.lst vs0))(d:Dvs K H ps vs):Rep K (L2.upd H p (.lst vs)) (up G p (.lst ps)):=by
 refine r.upd (gQ h) (λa o e ne=>by rw[cz ne]at e;exact e) λo e=> ?_;rw[aC]at e;cases e;exact⟨vs,eA,d.keep (gQ h)⟩
theorem Rep.sub(r:Rep K H G)(h:∀a o,G' a=kd o->G a=kd o):Rep K H G':=λa o e=>r a o (h a o e)
theorem Rep.lst{ps:List PV}{a:Addr}(r:Rep K H G)(h:G a=kd (.lst ps)):∃vs,H a=kd (.lst vs)/\Dvs K H ps vs:=r a _ h
end
abbrev jE:=List (Option PV)
abbrev K2:=PV->Gp->Prop
abbrev E2:=jE->Gp->K2->Prop
abbrev T2:=jE->Gp->(Bool->Gp->Prop)->Prop
abbrev A2:=jE->Gp->(List PV->Gp->Prop)->Prop
structure D2 where
 nx:jE->Gp->Prop
 rt:K2
 bk:jE->Gp->Prop:=λ_ _=>False
 ct:jE->Gp->Prop:=λ_ _=>False
abbrev S2:=D2->jE->Gp->Prop
@[reducible] def gt:jE->Nat->Option PV
 |[],_=>none
 |x::_,0=>x
 |_::r,n+1=>gt r n
@[reducible] def st:jE->Nat->Option PV->jE
 |[],_,_=>[]
 |_::r,0,v=>v::r
 |x::r,n+1,v=>x::st r n v
theorem DR:∀(τ:jE) (i:Nat),gt τ i=(τ[i]?).getD none
 |[],i=>by simp[gt]
 |x::_,0=>by simp[gt]
 |_::r,n+1=>by simp[gt,DR r n]
theorem zn{τ:jE}{i:Nat}{p:PV}(h:gt τ i=some p):τ[i]? =some (some p):=by
 rw[DR]at h;cases e:τ[i]? with
 |none=>rw[e]at h;cases h
 |some z=>rw[e]at h;exact congrArg some h
theorem wP:∀(τ:jE) (i:Nat) (v:Option PV),st τ i v=τ.set i v
 |[],_,_=>rfl
 |_::_,0,_=>rfl
 |x::r,n+1,v=>by simp[st,wP r n v]
def RSt(K:PySem.W.Frag)(H:Hp)(σ:St)(τ:jE):Prop:=τ.length=σ.length/\∀(i:Nat) p,τ[i]? =some (some p)->∃v,σ[i]? =some (some v)/\Dv K H p v
theorem RSt.keep{K:PySem.W.Frag}{H H':Hp}{σ:St}{τ:jE}(r:RSt K H σ τ)(k:Keep K H H'):RSt K H' σ τ:=⟨r.1,λi p e=>let⟨v,a,b⟩:=r.2 i p e;⟨v,a,b.keep k⟩⟩
theorem RSt.set0{K:PySem.W.Frag}{H:Hp}{σ:St}{τ:jE}{p:PV}{v:V}(r:RSt K H σ τ)(d:Dv K H p v)(i:Nat):RSt K H (σ.set i (some v)) (τ.set i (some p)):=by
 refine⟨by simp[r.1],λj q e=> ?_⟩;by_cases hj:i=j
 ·subst hj;have hi:i<τ.length:=by
   have:=(ak.mp e).1;simpa using this
  rw[eO hi]at e;cases e;exact⟨v,by rw[eO (by rw[<-r.1];exact hi)],d⟩
 ·rw[dD hj]at e⊢;exact r.2 j q e
theorem RSt.set{K:PySem.W.Frag}{H:Hp}{σ:St}{τ:jE}{p:PV}{v:V}(r:RSt K H σ τ)(d:Dv K H p v)(i:Nat):RSt K H (σ.set i (some v)) (st τ i (some p)):=by
 rw[wP];exact r.set0 d i
def Cl(K:PySem.W.Frag)(H:Hp)(Q2:K2)(Q:VK):Prop:=∀p G v H',Q2 p G->Dv K H' p v->Rep K H' G->Keep K H H'->Q v H'
def ClT(K:PySem.W.Frag)(H:Hp)(Q2:Bool->Gp->Prop)(Q:Bool->Hp->Prop):Prop:=∀b G H',Q2 b G->Rep K H' G->Keep K H H'->Q b H'
def ClS(K:PySem.W.Frag)(H:Hp)(Q2:jE->Gp->Prop)(Q:St->Hp->Prop):Prop:=∀τ G σ H',Q2 τ G->RSt K H' σ τ->Rep K H' G->Keep K H H'->Q σ H'
theorem Cl.keep{K:PySem.W.Frag}{H H':Hp}{Q2:K2}{Q:VK}(c:Cl K H Q2 Q)(k:Keep K H H'):Cl K H' Q2 Q:=λp G v H2 q d r k2=>c p G v H2 q d r (k.trans k2)
theorem ClT.keep{K:PySem.W.Frag}{H H':Hp}{Q2:Bool->Gp->Prop}{Q:Bool->Hp->Prop}(c:ClT K H Q2 Q)(k:Keep K H H'):ClT K H' Q2 Q:=λp G H2 q r k2=>c p G H2 q r (k.trans k2)
theorem ClS.keep{K:PySem.W.Frag}{H H':Hp}{Q2:jE->Gp->Prop}{Q:St->Hp->Prop}(c:ClS K H Q2 Q)(k:Keep K H H'):ClS K H' Q2 Q:=λp G v H2 q d r k2=>c p G v H2 q d r (k.trans k2)
def kT(K:PySem.W.Frag)(t:E2):TE:=λσ H Q=>∃τ G Q2,RSt K H σ τ/\Rep K H G/\t τ G Q2/\Cl K H Q2 Q
def vL(K:PySem.W.Frag)(t:T2):TT:=λσ H Q=>∃τ G Q2,RSt K H σ τ/\Rep K H G/\t τ G Q2/\ClT K H Q2 Q
def Dr(K:PySem.W.Frag)(t:A2):TA:=λσ H Q=>∃τ G Q2,RSt K H σ τ/\Rep K H G/\t τ G Q2/\∀ps G' vs H',Q2 ps G'->Dvs K H' ps vs->Rep K H' G'->Keep K H H'->Q vs H'
structure ClD(K:PySem.W.Frag)(H:Hp)(D2:D2)(D:Ends):Prop where
 nx:ClS K H D2.nx D.nx
 rt:Cl K H D2.rt D.rt
 bk:ClS K H D2.bk D.bk
 ct:ClS K H D2.ct D.ct
theorem ClD.keep{K:PySem.W.Frag}{H H':Hp}{Q2:L3.D2}{Q:Ends}(c:ClD K H Q2 Q)(k:Keep K H H'):ClD K H' Q2 Q:=⟨c.nx.keep k,c.rt.keep k,c.bk.keep k,c.ct.keep k⟩
def Dq(K:PySem.W.Frag)(t:S2):TS:=λD σ H=>∃τ G D2,RSt K H σ τ/\Rep K H G/\t D2 τ G/\ClD K H D2 D
structure JE(X:Cx)(e:Expr)(t:E2):Prop where
 h:PE X e (kT X.K t)
structure JT(X:Cx)(e:Expr)(t:T2):Prop where
 h:PT X e (vL X.K t)
structure JW(X:Cx)(e:Expr)(t:T2):Prop where
 h:PW X e (vL X.K t)
structure JA(X:Cx)(es:List Expr)(t:A2):Prop where
 h:PA X es (Dr X.K t)
structure JS(X:Cx)(st:Stmt)(t:S2):Prop where
 h:PS X st (Dq X.K t)
structure JB(X:Cx)(st:List Stmt)(t:S2):Prop where
 h:PSs X st (Dq X.K t)
section
variable{X:Cx}{e:Expr}
theorem JE.of{t:E2}{u:TE}(h:PE X e u)(w:∀σ H Q,kT X.K t σ H Q->u σ H Q):JE X e t:=⟨λpins s σ H Q I q=>h pins s σ H Q I (w σ H Q q)⟩
theorem JT.of{t:T2}{u:TT}(h:PT X e u)(w:∀σ H Q,vL X.K t σ H Q->u σ H Q):JT X e t:=⟨λpins s σ H Q I q=>h pins s σ H Q I (w σ H Q q)⟩
theorem JW.of{t:T2}{u:TT}(h:PW X e u)(w:∀σ H Q,vL X.K t σ H Q->u σ H Q):JW X e t:=⟨λwh pins s σ H Q I q=>h wh pins s σ H Q I (w σ H Q q)⟩
theorem JA.of{es:List Expr}{t:A2}{u:TA}(h:PA X es u)(w:∀σ H Q,Dr X.K t σ H Q->u σ H Q):JA X es t:=⟨λpos pins s σ H Q I q=>h pos pins s σ H Q I (w σ H Q q)⟩
theorem JS.of{st:Stmt}{t:S2}{u:TS}(h:PS X st u)(w:∀D σ H,Dq X.K t D σ H->u D σ H):JS X st t:=⟨λpins s σ H D I q=>h pins s σ H D I (w D σ H q)⟩
theorem JB.of{st:List Stmt}{t:S2}{u:TS}(h:PSs X st u)(w:∀D σ H,Dq X.K t D σ H->u D σ H):JB X st t:=⟨λpins s σ H D I q=>h pins s σ H D I (w D σ H q)⟩
end
def kl(b:Bool)(A B:Prop):Prop:=match b with
 |true=>A
 |false=>B
theorem iE{c:Bool}{A B:Prop}(e:c=true)(h:A):kl c A B:=by subst e;exact h
theorem jK{c:Bool}{A B:Prop}(e:c=false)(h:B):kl c A B:=by subst e;exact h
theorem gf{c:Bool}{A B:Prop}(h:c=true->A)(h2:c=false->B):kl c A B:=by cases c with|true=>exact h rfl|false=>exact h2 rfl
abbrev eV(i:Nat):E2:=λτ G Q=>match gt τ i with
 |some p=>Q p G
 |none=>False
abbrev eC(p:PV):E2:=λ_ G Q=>Q p G
abbrev sw:A2:=λ_ G Q=>Q [] G
abbrev mD(t:E2)(u:A2):A2:=λτ G Q=>t τ G λp G1=>u τ G1 λps G2=>Q (p::ps) G2
abbrev NW(t:A2):E2:=λτ G Q=>t τ G λps G1=>ps.length<=1000/\Q (.tup ps) G1
abbrev PN(t:A2):E2:=λτ G Q=>t τ G λps G1=>ps.length<=1000/\∀p,G1 p=none->Q (.ref p) (up G1 p (.lst ps))
abbrev B2:=PV->PV->Gp->K2->Prop
def gn(K:PySem.W.Frag)(r:B2):R2:=λx y H Q=>∃p q G Q2,Dv K H p x/\Dv K H q y/\Rep K H G/\r p q G Q2/\Cl K H Q2 Q
abbrev nr(r:B2)(ta tb:E2):E2:=λτ G Q=>ta τ G λx G1=>tb τ G1 λy G2=>r x y G2 Q
abbrev U2:=PV->Gp->K2->Prop
def J9(K:PySem.W.Frag)(r:U2):V->Hp->VK->Prop:=λx H Q=>∃p G Q2,Dv K H p x/\Rep K H G/\r p G Q2/\Cl K H Q2 Q
abbrev eUn(r:U2)(ta:E2):E2:=λτ G Q=>ta τ G λx G1=>r x G1 Q
abbrev C2:=List PV->Gp->K2->Prop
def kU(K:PySem.W.Frag)(r:C2):List V->Hp->VK->Prop:=λxs H Q=>∃ps G Q2,Dvs K H ps xs/\Rep K H G/\r ps G Q2/\Cl K H Q2 Q
abbrev v7(r:C2)(t:A2):E2:=λτ G Q=>t τ G λps G1=>r ps G1 Q
abbrev M2:=PV->List PV->Gp->K2->Prop
def vM(K:PySem.W.Frag)(r:M2):V->List V->Hp->VK->Prop:=λx xs H Q=>∃p ps G Q2,Dv K H p x/\Dvs K H ps xs/\Rep K H G/\r p ps G Q2/\Cl K H Q2 Q
abbrev zK(t:E2):T2:=λτ G Q=>t τ G λx G1=>match x with
 | .bl b=>Q b G1
 |_=>False
abbrev tNo(t:T2):T2:=λτ G Q=>t τ G λb G1=>Q (!b) G1
abbrev OS(t u:T2):T2:=λτ G Q=>t τ G λb G1=>kl b (Q true G1) (u τ G1 Q)
abbrev L8(t u:T2):T2:=λτ G Q=>t τ G λb G1=>kl b (u τ G1 Q) (Q false G1)
abbrev eNo(t:E2):E2:=λτ G Q=>t τ G λx G1=>match x with
 | .bl b=>Q (.bl (!b)) G1
 |_=>False
abbrev PM(t u:E2):E2:=λτ G Q=>t τ G λx G1=>match x with
 | .bl b=>kl b (Q (.bl true) G1) (u τ G1 Q)
 |_=>False
abbrev N0(t u:E2):E2:=λτ G Q=>t τ G λx G1=>match x with
 | .bl b=>kl b (u τ G1 Q) (Q (.bl false) G1)
 |_=>False
abbrev PP(c:T2)(t u:E2):E2:=λτ G Q=>c τ G λb G1=>kl b (t τ G1 Q) (u τ G1 Q)
section
variable{X:Cx}{a b c e:Expr}{es:List Expr}{ta tb:E2}{t:A2}{tA tB:T2}{pos p:Pos}{x:Str}
theorem jv(i:Nat)(hN:autoParam (X.N[i]? =some x) Qa)(hv:Oz X.env.scope x:=by first|exact Or.inl rfl|exact Or.inr (Or.inl rfl)|exact Or.inr (Or.inr rfl))(hd:autoParam ((x==("__debug__" :Str))=false) Qc)
  (hcd:autoParam ((x==("__classdict__" :Str))=false) Qc):JE X (.Name x pos) (eV i):= .of (Jc hN hv hd hcd) λσ H Q ⟨τ,G,Q2,rs,rp,h,cl⟩=>by
 unfold eV at h;split at h
 ·rename_i p e;obtain⟨v,ev,d⟩:=rs.2 i p (zn e);exact⟨v,ev,cl _ _ _ _ h d rp .refl⟩
 ·exact h.elim
theorem JE.const{p:PV}{v:V}(h:PE X e (tC v))(d:∀H,Dv X.K H p v):JE X e (eC p):= .of h λσ H Q hPl=>by obtain⟨τ,G,Q2,rs,rp,q,cl⟩:=hPl;exact cl _ _ _ _ q (d H) rp .refl
theorem NE{i:Int}{j:Nat}:JE X (.Constant (.int i) j pos) (eC (.int i)):= .const Cg λ_=>rfl
theorem Pv{v:Bool}{j:Nat}:JE X (.Constant (.bool v) j pos) (eC (.bl v)):= .const MD λ_=>rfl
theorem NB{j:Nat}:JE X (.Constant .none j pos) (eC .non):= .const Jh λ_=>rfl
theorem Nw{z:Str}{j:Nat}:JE X (.Constant (.str z) j pos) (eC (.str z)):= .const Je λ_=>rfl
theorem xH{v:V}{q:PV}{u:ae}(hm:X.mg x=some u)(r:RelV v u)(d:∀H,Dv X.K H q v)(hg:autoParam (Gl X x) Qa)(hd:autoParam ((x==("__debug__" :Str))=false) Qc):JE X (.Name x pos) (eC q):= .const (Fn hg hm r hd) d
theorem DH{T:String}(hm:X.mg x=none)(hv:bN x=some (.type T))(hg:autoParam (Gl X x) Qa)(hn:autoParam (x≠ "__name__") Qc)(hd:autoParam ((x==("__debug__" :Str))=false) Qc):JE X (.Name x pos) (eC (.ty T)):=
 .const (Fs (v:= .ty T) hg hm hv rfl hn hd) λ_=>rfl
theorem KN:JA X [] sw:= .of Jm λσ H Q hPl=>by obtain⟨τ,G,Q2,rs,rp,q,cl⟩:=hPl;exact cl _ _ _ _ q .nil rp .refl
theorem Gz(ha:JE X e ta)(hr:JA X es t)(hs:autoParam (ao (e::es) X.env=(false,eval e X.env)::ao es X.env) Qa):JA X (e::es) (mD ta t):= .of (Fu ha.h hr.h hs) λσ H Q hPl=>by
 obtain⟨τ,G,Q2,rs,rp,q,cl⟩:=hPl;refine⟨τ,G,_,rs,rp,q,λp G1 v H1 q1 d1 r1 k1=> ?_⟩;exact⟨τ,G1,_,rs.keep k1,r1,q1,λps G2 vs H2 q2 d2 r2 k2=>cl _ _ _ _ q2 (.cons (d1.keep k2) d2) r2 (k1.trans k2)⟩
theorem Nv{x1:Nat}(h:JA X es t):JE X (.Tuple es x1 pos) (NW t):= .of (Jd h.h) λσ H Q hPl=>by
 obtain⟨τ,G,Q2,rs,rp,q,cl⟩:=hPl;refine⟨τ,G,_,rs,rp,q,λps G1 vs H1 q1 d1 r1 k1=> ?_⟩;obtain⟨hl,q1⟩:=q1;refine⟨by rw[d1.length];exact bj hl (by decide),λa ha=> ?_⟩;have kn:Keep X.K H1 (upd H1 a (.tup vs)):=cf ha;exact cl _ _ _ _ q1 ⟨a,vs,rfl,.of eA,d1.keep kn⟩ (r1.tup ha) (k1.trans kn)
theorem NC(h:JA X es t):JE X (.List es pos) (PN t):= .of (Ji h.h) λσ H Q hPl=>by
 obtain⟨τ,G,Q2,rs,rp,q,cl⟩:=hPl;refine⟨τ,G,_,rs,rp,q,λps G1 vs H1 q1 d1 r1 k1=> ?_⟩;obtain⟨hl,q1⟩:=q1;refine⟨by rw[d1.length];exact bj hl (by decide),λa ha=> ?_⟩;have kn:Keep X.K H1 (upd H1 a (.lst vs)):=cf ha;exact cl _ _ _ _ (q1 a (r1.none ha)) rfl (r1.new ha d1) (k1.trans kn)
theorem uu{r:B2}{σ:St}{H:Hp}{Q:VK}(q:kT X.K (nr r ta tb) σ H Q):LX (gn X.K r) (kT X.K ta) (kT X.K tb) σ H Q:=by
 obtain⟨τ,G,Q2,rs,rp,q,cl⟩:=q;refine⟨τ,G,_,rs,rp,q,λp G1 v H1 q1 d1 r1 k1=>⟨τ,G1,_,rs.keep k1,r1,q1,λp2 G2 v2 H2 q2 d2 r2 k2=> ?_⟩⟩;exact⟨p,p2,G2,Q2,d1.keep k2,d2,r2,q2,cl.keep (k1.trans k2)⟩
theorem vV{op:Operator}{r:B2}(ho:ik X (dC op) (gn X.K r))(ha:JE X a ta)(hb:JE X b tb):JE X (.BinOp a op b pos) (nr r ta tb):= .of (MB ho ha.h hb.h) λσ H Q q=>uu q
theorem pz{op:CmpOp}{r:B2}(ho:ik X (bD op) (gn X.K r))(ha:JE X a ta)(hb:JE X b tb)(hm:eG op b=false):JE X (.Compare a [op] [b] pos) (nr r ta tb):= .of (Fp ho ha.h hb.h hm) λσ H Q q=>uu q
theorem ut{u:TE}(w:∀σ H Q,kT X.K ta σ H Q->u σ H Q){σ:St}{H:Hp}{Q:Bool->Hp->Prop}(q:vL X.K (zK ta) σ H Q):Bj u σ H Q:=by
 obtain⟨τ,G,Q2,rs,rp,q,cl⟩:=q;refine w _ _ _ ⟨τ,G,_,rs,rp,q,λp G1 v H1 q1 d1 r1 k1=> ?_⟩;cases p with
 |bl b=>
  obtain rfl:v= .bl b:=d1
  exact⟨b,rfl,cl _ _ _ q1 r1 k1⟩
 |_=>exact bV q1
theorem mV{op:CmpOp}{r:B2}(ho:ik X (bD op) (gn X.K r))(ha:JE X a ta)(hb:JE X b tb)(hm:eG op b=false):JT X (.Compare a [op] [b] pos) (zK (nr r ta tb)):= .of (Fd ho ha.h hb.h hm) λσ H Q q=>ut (λ_ _ _ z=>uu z) q
theorem Ki(h:JE X e ta)(he:autoParam (∀whole,isTrue e X.env whole=(do let v <-whole;standAt e.pos;holding [v] (truthy v))) Qe):JT X e (zK ta):= .of (IS h.h he) λσ H Q q=>ut (λ_ _ _ z=>z) q
theorem Kj(ha:JT X a tA):JT X (.UnaryOp .Not a pos) (tNo tA):= .of (IT ha.h) λσ H Q hPl=>by obtain⟨τ,G,Q2,rs,rp,q,cl⟩:=hPl;exact⟨τ,G,_,rs,rp,q,λb G1 H1 q1 r1 k1=>cl _ _ _ q1 r1 k1⟩
theorem Kg(ha:JT X a tA):JW X (.BoolOp .Or [a] pos) tA:=⟨IQ ha.h⟩
theorem Gb(ha:JT X a tA):JW X (.BoolOp .And [a] pos) tA:=⟨Fc ha.h⟩
theorem Ng{rest:List Expr}(ha:JT X a tA)(hb:JW X (.BoolOp .Or (b::rest) pos) tB):JW X (.BoolOp .Or (a::b::rest) pos) (OS tA tB):= .of (Mu ha.h hb.h) λσ H Q hPl=>by
 obtain⟨τ,G,Q2,rs,rp,q,cl⟩:=hPl;refine⟨τ,G,_,rs,rp,q,λb G1 H1 q1 r1 k1=> ?_⟩;cases b with
 |true=>exact q9 (cl _ _ _ q1 r1 k1)
 |false=>exact pK ⟨τ,G1,Q2,rs.keep k1,r1,q1,cl.keep k1⟩
theorem Kh{rest:List Expr}(ha:JT X a tA)(hb:JW X (.BoolOp .And (b::rest) pos) tB):JW X (.BoolOp .And (a::b::rest) pos) (L8 tA tB):= .of (IR ha.h hb.h) λσ H Q hPl=>by
 obtain⟨τ,G,Q2,rs,rp,q,cl⟩:=hPl;refine⟨τ,G,_,rs,rp,q,λb G1 H1 q1 r1 k1=> ?_⟩;cases b with
 |true=>exact q9 ⟨τ,G1,Q2,rs.keep k1,r1,q1,cl.keep k1⟩
 |false=>exact pK (cl _ _ _ q1 r1 k1)
theorem JW.jt(h:JW X e tA):JT X e tA:=⟨h.h.pt⟩
theorem NA(ha:JE X a ta):JE X (.UnaryOp .Not a pos) (eNo ta):= .of (Jg ha.h) λσ H Q hPl=>by
 obtain⟨τ,G,Q2,rs,rp,q,cl⟩:=hPl;refine⟨τ,G,_,rs,rp,q,λp G1 v H1 q1 d1 r1 k1=> ?_⟩;cases p with
 |bl b=>
  obtain rfl:v= .bl b:=d1
  exact⟨b,rfl,cl _ _ _ _ q1 rfl r1 k1⟩
 |_=>exact bV q1
theorem Nz{op:BoolOp}(h:JE X a ta):JE X (.BoolOp op [a] pos) ta:=⟨Jf h.h⟩
theorem NI{rest:List Expr}(ha:JE X a ta)(hb:JE X (.BoolOp .And (b::rest) pos) tb):JE X (.BoolOp .And (a::b::rest) pos) (N0 ta tb):= .of (Jl ha.h hb.h) λσ H Q hPl=>by
 obtain⟨τ,G,Q2,rs,rp,q,cl⟩:=hPl;refine⟨τ,G,_,rs,rp,q,λp G1 v H1 q1 d1 r1 k1=> ?_⟩;cases p with
 |bl b=>
  obtain rfl:v= .bl b:=d1
  refine⟨b,rfl,?_⟩
  cases b with
  |true=>exact q9 ⟨τ,G1,Q2,rs.keep k1,r1,q1,cl.keep k1⟩
  |false=>exact pK (cl _ _ _ _ q1 rfl r1 k1)
 |_=>exact bV q1
theorem Ps{rest:List Expr}(ha:JE X a ta)(hb:JE X (.BoolOp .Or (b::rest) pos) tb):JE X (.BoolOp .Or (a::b::rest) pos) (PM ta tb):= .of (MA ha.h hb.h) λσ H Q hPl=>by
 obtain⟨τ,G,Q2,rs,rp,q,cl⟩:=hPl;refine⟨τ,G,_,rs,rp,q,λp G1 v H1 q1 d1 r1 k1=> ?_⟩;cases p with
 |bl b=>
  obtain rfl:v= .bl b:=d1
  refine⟨b,rfl,?_⟩
  cases b with
  |true=>exact q9 (cl _ _ _ _ q1 rfl r1 k1)
  |false=>exact pK ⟨τ,G1,Q2,rs.keep k1,r1,q1,cl.keep k1⟩
 |_=>exact bV q1
theorem NF(hc:JT X c tA)(ha:JE X a ta)(hb:JE X b tb):JE X (.IfExp c a b pos) (PP tA ta tb):= .of (Ci hc.h ha.h hb.h) λσ H Q hPl=>by
 obtain⟨τ,G,Q2,rs,rp,q,cl⟩:=hPl;refine⟨τ,G,_,rs,rp,q,λb G1 H1 q1 r1 k1=> ?_⟩;cases b with
 |true=>exact q9 ⟨τ,G1,Q2,rs.keep k1,r1,q1,cl.keep k1⟩
 |false=>exact pK ⟨τ,G1,Q2,rs.keep k1,r1,q1,cl.keep k1⟩
theorem Pr{op:UnaryOp}{r:U2}(ho:Oi X (unaryOp op) (J9 X.K r))(ha:JE X a ta):JE X (.UnaryOp op a pos) (eUn r ta):= .of (HE ho ha.h) λσ H Q hPl=>by
 obtain⟨τ,G,Q2,rs,rp,q,cl⟩:=hPl;exact⟨τ,G,_,rs,rp,q,λp G1 v H1 q1 d1 r1 k1=>⟨p,G1,Q2,d1,r1,q1,cl.keep k1⟩⟩
theorem Pu{r:B2}(hr:LO X (gn X.K r))(ha:JE X a ta)(hb:JE X b tb)(hs:uO b):JE X (.Subscript a b pos) (nr r ta tb):= .of (MC hr ha.h hb.h hs) λσ H Q q=>uu q
theorem Dm{r:C2}{σ:St}{H:Hp}{Q:VK}(q:kT X.K (v7 r t) σ H Q):OY (kU X.K r) (Dr X.K t) σ H Q:=by
 obtain⟨τ,G,Q2,rs,rp,q,cl⟩:=q;exact⟨τ,G,_,rs,rp,q,λps G1 vs H1 q1 d1 r1 k1=>⟨ps,G1,Q2,d1,r1,q1,cl.keep k1⟩⟩
theorem jj{id:String}{r:C2}(hc:eT X (.builtin id) (kU X.K r))(hm:X.mg x=none)(hv:bN x=some (.builtin id))(ha:JA X (e::es) t)(hg:autoParam (Gl X x) Qa)(hn:autoParam (x≠ "__name__") Qc)(hdb:autoParam ((x==("__debug__" :Str))=false) Qc)
  (he:autoParam (ao (e::es) X.env=(false,eval e X.env)::ao es X.env) Qa) (hpl:autoParam ((bZ pos (ao es X.env)).any (·.1)=false) Qa):JE X (.Call (.Name x p) (e::es) [] pos) (v7 r t):= .of (Cm hc hg hm hv ha.h hn hdb he hpl) λσ H Q q=>Dm q
theorem lz{T:String}{r:C2}(hc:eT X (.type T) (kU X.K r))(hm:X.mg x=none)(hv:bN x=some (.type T))(ha:JA X (e::es) t)(hg:autoParam (Gl X x) Qa)(hn:autoParam (x≠ "__name__") Qc)(hdb:autoParam ((x==("__debug__" :Str))=false) Qc)
  (he:autoParam (ao (e::es) X.env=(false,eval e X.env)::ao es X.env) Qa) (hpl:autoParam ((bZ pos (ao es X.env)).any (·.1)=false) Qa):JE X (.Call (.Name x p) (e::es) [] pos) (v7 r t):= .of (zX hc hg hm hv ha.h hn hdb he hpl) λσ H Q q=>Dm q
end
abbrev HA:S2:=λD τ G=>D.nx τ G
abbrev O4(t u:S2):S2:=λD τ G=>t {D with nx:=u D} τ G
abbrev IH(t:E2):S2:=λD τ G=>t τ G D.rt
abbrev Mm(t:E2):S2:=λD τ G=>t τ G λ_ G1=>D.nx τ G1
abbrev sIf(c:T2)(t u:S2):S2:=λD τ G=>c τ G λb G1=>kl b (t D τ G1) (u D τ G1)
abbrev EI:=PV->jE->Gp->(jE->Gp->Prop)->Prop
def Nd(K:PySem.W.Frag)(g:EI):TG:=λv σ H Q=>∃p τ G Q2,Dv K H p v/\RSt K H σ τ/\Rep K H G/\g p τ G Q2/\ClS K H Q2 Q
structure JG(X:Cx)(tg:Expr)(g:EI):Prop where
 h:PG X tg (Nd X.K g)
theorem JG.of{X:Cx}{tg:Expr}{g:EI}{u:TG}(h:PG X tg u)(w:∀v σ H Q,Nd X.K g v σ H Q->u v σ H Q):JG X tg g:=⟨λpins s σ H v z Q I r q=>h pins s σ H v z Q I r (w v σ H Q q)⟩
abbrev gN(i:Nat):EI:=λp τ G Q=>Q (st τ i (some p)) G
abbrev PH(i j:Nat):EI:=λp τ G Q=>match p with
 | .tup [x,y]=>Q (st (st τ i (some x)) j (some y)) G
 |_=>False
abbrev E6(t:E2)(g:EI):S2:=λD τ G=>t τ G λp G1=>g p τ G1 D.nx
section
variable{X:Cx}{a b c e tg:Expr}{ta:E2}{tA:T2}{pos p:Pos}{x:Str}{st:Stmt}{rest sa sb:List Stmt}{u v:S2}{g:EI}
theorem Gr{i:Nat}(hN:X.N.Nodup)(hi:X.N[i]? =some x)(hx:zC X.env.scope x)(hf:autoParam (X.fn x=true\/X.env.scope.names.lookup x=some .local) Qg):JG X (.Name x pos) (gN i):=
 .of (lQ hN hi hx hf) λv σ H Q hPl=>by obtain⟨p,τ,G,Q2,d,rs,rp,q,cl⟩:=hPl;exact cl _ _ _ _ q (rs.set d i) rp .refl
theorem DE{i j:Nat}{y:Str}{p1 p2:Pos}{k:Nat}(hc:X.calm=true)(hN:X.N.Nodup)(hi:X.N[i]? =some x)(hx:zC X.env.scope x)(hj:X.N[j]? =some y)(hy:zC X.env.scope y)
  (hf:autoParam (X.fn x=true\/X.env.scope.names.lookup x=some .local) Qg) (hf2:autoParam (X.fn y=true\/X.env.scope.names.lookup y=some .local) Qg):
  JG X (.Tuple [.Name x p1,.Name y p2] k pos) (PH i j):=
 .of (Cc (n:=2) hc (nN (lQ hN hi hx hf) (nN (lQ hN hj hy hf2) yR)) (by rfl) (by rfl)) λv σ H Q hPl=>by
  obtain⟨p,τ,G,Q2,d,rs,rp,q,cl⟩:=hPl;unfold PH at q;split at q
  ·rename_i p1 p2;obtain⟨a,vs,rfl,sq,dv⟩:=d;obtain⟨v1,r1,rfl,d1,dv⟩:=dv;obtain⟨v2,r2,rfl,d2,dv⟩:=dv;obtain rfl:r2=[]:=dv;exact⟨a,[v1,v2],rfl,sq,rfl,v1,[v2],rfl,v2,[],rfl,rfl,cl _ _ _ _ q ((rs.set d1 i).set d2 j) rp .refl⟩
  ·exact q.elim
theorem DB(he:JE X e ta)(hg:JG X tg g)(hs:autoParam (swapsWithSole [tg] e pos.line X.env=pure false) Qa)(hw:autoParam (swappedStores [tg] e X.env=pure none) Qa)
  (h1:autoParam ((kW [tg] X.env).map (·.2)=[assign tg X.env]) Qa):JS X (.Assign [tg] e pos) (E6 ta g):= .of (IZ he.h hg.h hs hw h1) λD σ H ⟨τ,G,D2,rs,rp,q,cl⟩=>by
 exact⟨τ,G,_,rs,rp,q,λp G1 v H1 q1 d1 r1 k1=>⟨p,τ,G1,D2.nx,d1,rs.keep k1,r1,q1,cl.nx.keep k1⟩⟩
theorem Kl{i:Nat}{pos':Pos}(he:JE X e ta)(hN:X.N.Nodup)(hi:X.N[i]? =some x)(hx:zC X.env.scope x)(hs:autoParam (ir e (some (.Name x pos')) pos.line X.env=pure false) Qa)
  (hf:autoParam (X.fn x=true\/X.env.scope.names.lookup x=some .local) Qg):JS X (.Assign [.Name x pos'] e pos) (E6 ta (gN i)):= .of (IU hN hi hx he.h hs hf) λD σ H ⟨τ,G,D2,rs,rp,q,cl⟩=>by
 exact⟨τ,G,_,rs,rp,q,λp G1 v H1 q1 d1 r1 k1=>cl.nx _ _ _ _ q1 ((rs.keep k1).set d1 i) r1 k1⟩
theorem Gh(he:JE X e ta)(hs:autoParam (ir e none pos.line X.env=pure false) Qa):JS X (.Expr e pos) (Mm ta):= .of (Fh he.h hs) λD σ H hPl=>by
 obtain⟨τ,G,D2,rs,rp,q,cl⟩:=hPl;exact⟨τ,G,_,rs,rp,q,λp G1 v H1 q1 d1 r1 k1=>cl.nx _ _ _ _ q1 (rs.keep k1) r1 k1⟩
theorem Km(he:JE X e ta):JS X (.Return (some e) pos) (IH ta):= .of (IV he.h) λD σ H hPl=>by obtain⟨τ,G,D2,rs,rp,q,cl⟩:=hPl;exact⟨τ,G,_,rs,rp,q,cl.rt⟩
theorem Nm(hc:JT X c tA)(ha:JB X sa u)(hb:JB X sb v):JS X (.If c sa sb pos) (sIf tA u v):= .of (Mw hc.h ha.h hb.h) λD σ H hPl=>by
 obtain⟨τ,G,D2,rs,rp,q,cl⟩:=hPl;refine⟨τ,G,_,rs,rp,q,λb G1 H1 q1 r1 k1=> ?_⟩;cases b with
 |true=>exact q9 ⟨τ,G1,D2,rs.keep k1,r1,q1,cl.keep k1⟩
 |false=>exact pK ⟨τ,G1,D2,rs.keep k1,r1,q1,cl.keep k1⟩
theorem Gg:JS X (.Pass pos) HA:= .of Fg λD σ H hPl=>by obtain⟨τ,G,D2,rs,rp,q,cl⟩:=hPl;exact cl.nx _ _ _ _ q rs rp .refl
theorem KJ:JB X [] HA:= .of Ff λD σ H hPl=>by obtain⟨τ,G,D2,rs,rp,q,cl⟩:=hPl;exact cl.nx _ _ _ _ q rs rp .refl
theorem KI(h:JS X st u):JB X [st] u:=⟨Fe h.h⟩
theorem Gx{s2:Stmt}(h:JS X st u)(h2:JB X (s2::rest) v):JB X (st::s2::rest) (O4 u v):= .of (B6 h.h h2.h) λD σ H hPl=>by
 obtain⟨τ,G,D2,rs,rp,q,cl⟩:=hPl;refine⟨τ,G,{D2 with nx:=v D2},rs,rp,q,⟨λτ1 G1 σ1 H1 q1 rs1 r1 k1=> ?_,cl.rt,cl.bk,cl.ct⟩⟩;exact⟨τ1,G1,D2,rs1,r1,q1,cl.keep k1⟩
end
abbrev Hd:=PV->PV->PV->Gp->(Gp->Prop)->Prop
def Dp(K:PySem.W.Frag)(r:Hd):Ey:=λo i v H Q=>∃po pi pv G Q2,Dv K H po o/\Dv K H pi i/\Dv K H pv v/\Rep K H G/\r po pi pv G Q2/\∀G' H',Q2 G'->Rep K H' G'->Keep K H H'->Q H'
def E4:Hd:=λo i v G Q=>match o,i with
 | .ref a,.int k=>match G a with
  |some (.lst ps)=>match DK ps.length k with
   |some j=>Q (up G a (.lst (ps.set j v)))
   |none=>False
  |_=>False
 |_,_=>False
abbrev NS(to ti:E2)(r:Hd):EI:=λp τ G Q=>to τ G λo G1=>ti τ G1 λi G2=>r o i p G2 λG3=>Q τ G3
theorem PSet.of{X:Cx}{t u:Ey}(h:PSet X u)(w:∀o i v H Q,t o i v H Q->u o i v H Q):PSet X t:=λpins s σ H o i v ov iv z Q I r1 r2 r3 q=>h pins s σ H o i v ov iv z Q I r1 r2 r3 (w _ _ _ _ _ q)
theorem Mc{X:Cx}:PSet X (Dp X.K E4):=PSet.of BC λo i v H Q hPl=>by
 obtain⟨po,pi,pv,G,Q2,d1,d2,d3,rp,q,cl⟩:=hPl;unfold E4 at q;split at q
 ·rename_i a k;split at q
  ·rename_i ps e;split at q
   ·rename_i j ej;obtain rfl:o= .ref a:=d1;obtain rfl:i= .int k:=d2;obtain⟨vs,hv,dv⟩:=rp.lst e;refine⟨a,vs,k,j,rfl,rfl,hv,by rw[dv.length];exact ej,cl _ _ q (rp.put hv (dv.set d3 j)) (gQ hv)⟩
   ·exact q.elim
  ·exact q.elim
 ·exact q.elim
abbrev Og(i:Nat)(t:E2)(r:B2):S2:=λD τ G=>match gt τ i with
 |some x=>t τ G λy G1=>r x y G1 λz G2=>D.nx (st τ i (some z)) G2
 |none=>False
section
variable{X:Cx}{o i e:Expr}{to ti te:E2}{pos:Pos}{x:Str}
theorem Kt{r:Hd}(ho:JE X o to)(hi:JE X i ti)(hs:PSet X (Dp X.K r))
  (ha:autoParam (∀v,assign (.Subscript o i pos) X.env v=(do
   let ov <-holding [v] (eval o X.env)
   let iv <-holding [v,ov] (eval i X.env)
   standAt pos
   holding [v,ov,iv] (setItem ov iv v)
   release [v,ov,iv] [])) Qe):JG X (.Subscript o i pos) (NS to ti r):= .of (Ja ho.h hi.h hs ha) λv σ H Q ⟨p,τ,G,Q2,d,rs,rp,q,cl⟩=>by
 refine⟨τ,G,_,rs,rp,q,λp1 G1 v1 H1 q1 d1 r1 k1=>⟨τ,G1,_,rs.keep k1,r1,q1,λp2 G2 v2 H2 q2 d2 r2 k2=> ?_⟩⟩;exact⟨p1,p2,p,G2,_,d1.keep k2,d2,d.keep (k1.trans k2),r2,q2,λG3 H3 q3 r3 k3=>cl _ _ _ _ q3 (rs.keep ((k1.trans k2).trans k3)) r3 ((k1.trans k2).trans k3)⟩
theorem oU{n:Nat}{op:Operator}{r:B2}{pos':Pos}(ho:OB X op (gn X.K r))(he:JE X e te)(hN:X.N.Nodup)(hi:X.N[n]? =some x)(hx:zC X.env.scope x)(hf:autoParam (X.fn x=true\/X.env.scope.names.lookup x=some .local) Qg):
  JS X (.AugAssign (.Name x pos') op e pos) (Og n te r):= .of (IY hN hi hx he.h ho hf) λD σ H ⟨τ,G,D2,rs,rp,q,cl⟩=>by
 unfold Og at q;split at q
 ·rename_i p ep;obtain⟨v,ev,d⟩:=rs.2 n p (zn ep);refine⟨v,ev,τ,G,_,rs,rp,q,λp1 G1 v1 H1 q1 d1 r1 k1=> ?_⟩;exact⟨p,p1,G1,_,d.keep k1,d1,r1,q1,λp2 G2 v2 H2 q2 d2 r2 k2=>cl.nx _ _ _ _ q2 ((rs.keep (k1.trans k2)).set d2 n) r2 (k1.trans k2)⟩
 ·exact q.elim
end
abbrev i8:=List PV->Gp->K2->Prop
def Hm(K:PySem.W.Frag)(sp:i8):Sp:=λvs H Q _=>∃ps G Q2,Dvs K H ps vs/\Rep K H G/\sp ps G Q2/\Cl K H Q2 Q
@[reducible] def jr:List Str->List PV->jE
 |[],_=>[]
 |_::N,p::ps=>some p::jr N ps
 |_::N,[]=>none::jr N []
theorem qB:∀N:List Str,jr N []=bz N.length none
 |[]=>rfl
 |_::N=>by simp[jr,qB N,cW]
theorem sD:∀(N:List Str) (ps:List PV),ps.length<=N.length->jr N ps=ps.map some++bz (N.length-ps.length) none
 |[],[],_=>rfl
 |[],_::_,h=>by simp at h
 |_::N,p::ps,h=>by
  simp only[jr,aU,aj,eS];rw[sD N ps (by simpa using h)];simp
 |n::N,[],_=>by rw[qB];simp
theorem sC{K:PySem.W.Frag}{H:Hp}{N:List Str}{ps:List PV}{vs:List V}(d:Dvs K H ps vs)(hN:ps.length<=N.length):RSt K H (L2.start N vs) (jr N ps):=by
 have hl:=d.length;rw[sD N ps hN];refine⟨by unfold L2.start;simp[hl],λi p e=> ?_⟩;unfold L2.start;by_cases hi:i<ps.length
 ·rw[dW (by simpa using hi),br]at e;rw[dW (by simpa [hl]using hi),br];cases q:ps[i]? with
  |none=>rw[q]at e;cases e
  |some p'=>
   rw[q]at e
   have:p'=p:=by simpa using e
   subst this
   obtain⟨v,ev,dv⟩:=d.at q
   exact⟨v,by rw[ev];rfl,dv⟩
 ·rw[cn (by simpa using Nat.le_of_not_lt hi),xY]at e;split at e<;>cases e
def GE(G0 G:Gp):Prop:=∀a o,G0 a=some o->G a=some o
theorem GE.refl{G:Gp}:GE G G:=λ_ _ h=>h
theorem GE.new{G0 G:Gp}{a:Addr}{o:MO}(h:GE G0 G)(n:G a=none):GE G0 (up G a o):=λb u q=>by
 have:b≠a:=λz=>by subst z;rw[h _ _ q]at n;cases n
 rw[cz this];exact h b u q
theorem GE.put{G0 G:Gp}{a:Addr}{o:MO}(h:GE G0 G):GE (up G0 a o) (up G a o):=λb u q=>by
 by_cases hb:b=a
 ·subst hb;rw[aC]at q⊢;exact q
 ·rw[cz hb]at q⊢;exact h b u q
abbrev jd(P:aG)(w:aX)(K:PySem.W.Frag)(mg:Str->Option ae)(base:Heap)(k:Nat)(f:Addr)(fd:bb)(ps:List Str)(sp:i8):Prop:=FnOk P w K mg base Ib k f fd ps (Hm K sp)
structure cQ(P:aG)(w:aX)(K:PySem.W.Frag)(mg:Str->Option ae)(base:Heap)(k:Nat)(x:Str)(f:Addr)(fd:bb)(ps:List Str)(sp:i8):Prop where
 ok:jd P w K mg base k f fd ps sp
 b:Binds K fd ps []
 kp:PySem.W.keepIn K (.ref f)=true
 m:mg x=some (.ref f)
section
variable{P:aG}{w:aX}{K:PySem.W.Frag}{mg:Str->Option ae}{base:Heap}
theorem kA{x qual:Str}{st:Stmt}{f:Addr}{fd:bb}{N ps:List Str}{k:Nat}{sp:i8}(F:Fun K x qual st f fd)(S:bp N ps (aJ st))(len:∀vs G Q,sp vs G Q->vs.length=ps.length)
  (hbody:∀(cdv:ae) (A:Around) (outer:List Env) (s:ag) (H:Hp) (E:XK) (as:List PV) (G:Gp) (Q:K2),Room k (A.deeper (PyProof.Rows.envOfC qual (aJ st) s.heap.objs.size f cdv))->sp as G Q->
   ∃t,JB (iM Ib P w K mg base N qual (aJ st) f cdv A outer s H E).nox (iB st) t/\t {nx:=λ_ G'=>∃G0,GE G0 G'/\Q .non G0,rt:=λp G'=>∃G0,GE G0 G'/\Q p G0} (jr N as) G):jd P w K mg base (k+1) f fd ps sp:=by
 refine F.ok S (λvs H Q E h=> ?_) (λcdv A outer s H vs Q E hr h=> ?_)
 ·obtain⟨as,G,Q2,d,_,h,_⟩:=h;rw[d.length];exact len _ _ _ h
 obtain⟨as,G,Q2,d,rp,h,cl⟩:=h;obtain⟨t,j,q⟩:=hbody cdv A outer s H E as G Q2 hr h;refine⟨_,j.h,jr N as,G,_,sC d (by rw[len _ _ _ h,<-S.pre,aO];ac_nf),rp,q,⟨λτ G' σ H' ⟨G0,e0,q1⟩ _ r1 k1=>cl _ _ _ _ q1 rfl (r1.sub e0) k1,λp G' v H' ⟨G0,e0,q1⟩ d1 r1 k1=>cl _ _ _ _ q1 d1 (r1.sub e0) k1,λ_ _ _ _ q1=>q1.elim,λ_ _ _ _ q1=>q1.elim⟩⟩
end
abbrev mz(sp:i8)(t:A2):E2:=λτ G Q=>t τ G λps G1=>sp ps G1 Q
section
variable{X:Cx}{e:Expr}{es:List Expr}{t:A2}{pos p:Pos}{x:Str}
theorem Do{sp:i8}{σ:L2.St}{H:Hp}{Q:VK}(q:kT X.K (mz sp t) σ H Q):Bn (Hm X.K sp) [] E0 (Dr X.K t) σ H Q:=by
 obtain⟨τ,G,Q2,rs,rp,q,cl⟩:=q;refine⟨τ,G,_,rs,rp,q,λps G1 vs H1 q1 d1 r1 k1=> ?_⟩;show Hm X.K sp (vs++[]) H1 Q E0;rw[dz];exact⟨ps,G1,Q2,d1,r1,q1,cl.keep k1⟩
theorem NH{k k':Nat}{f:Addr}{fd:bb}{ps:List Str}{sp:i8}(C:cQ X.prog X.w X.K X.mg X.base k x f fd ps sp)(hr:Room k' X.A)(hk:k<=k')(ha:JA X (e::es) t)(hg:autoParam (Gl X x) Qa)
  (hdb:autoParam ((x==("__debug__" :Str))=false) Qc) (he:autoParam (ao (e::es) X.env=(false,eval e X.env)::ao es X.env) Qa) (hpl:autoParam ((bZ pos (ao es X.env)).any (·.1)=false) Qa):
  JE X (.Call (.Name x p) (e::es) [] pos) (mz sp t):= .of (Fq (C.ok.mono hk) hr hg C.m C.kp C.b .nil yU ha.h hdb he hpl) λσ H Q q=>Do q
end
abbrev IF(c:T2)(tb:S2):S2:=λD τ G=>∃W:Nat->jE->Gp->Prop,(∃m,W m τ G)/\∀m τ G,W m τ G->
 c τ G λb G1=>kl b (tb {D with nx:=λτ' G'=>∃m',m'<m/\W m' τ' G',ct:=λτ' G'=>∃m',m'<m/\W m' τ' G',bk:=D.nx} τ G1) (D.nx τ G1)
section
variable{X:Cx}{c:Expr}{body:List Stmt}{tc:T2}{tb:S2}{pos:Pos}
theorem vS(hp:PassesOwn (aK X.prog X.w) X.A X.env X.xe)(hc:JT X c tc)(hb:JB X body tb):JS X (.While c body [] pos) (IF tc tb):= .of (B7 hp hc.h hb.h) λD σ H ⟨τ,G,D2,rs,rp,⟨W,⟨m0,w0⟩,turn⟩,cl⟩=>by
 refine⟨λm σ' H'=>∃τ' G',W m τ' G'/\RSt X.K H' σ' τ'/\Rep X.K H' G'/\Keep X.K H H',⟨m0,τ,G,w0,rs,rp,.refl⟩,?_⟩;rintro m σ1 H1 ⟨τ1,G1,w1,rs1,rp1,k1⟩;refine⟨τ1,G1,_,rs1,rp1,turn m τ1 G1 w1,λb G2 H2 q2 r2 k2=> ?_⟩;cases b with
 |false=>exact pK (cl.nx _ _ _ _ q2 (rs1.keep k2) r2 (k1.trans k2))
 |true=>
  refine q9 ⟨λσ' H'=>∃τ' G',(∃m',m'<m/\W m' τ' G')/\RSt X.K H' σ' τ'/\Rep X.K H' G'/\Keep X.K H H',λσ' H' ⟨τ',G',⟨m',hm,w'⟩,a,b,c⟩=>⟨m',hm,τ',G',w',a,b,c⟩,?_⟩
  have kk:=k1.trans k2
  exact⟨τ1,G2,_,rs1.keep k2,r2,q2,⟨λτ' G' σ' H' q' a b c=>⟨τ',G',q',a,b,kk.trans c⟩,cl.rt.keep kk,cl.nx.keep kk,λτ' G' σ' H' q' a b c=>⟨τ',G',q',a,b,kk.trans c⟩⟩⟩
end
abbrev wk:=jE->Gp->(List PV->(Gp->Prop)->Gp->Prop)->Prop
def AU(K:PySem.W.Frag)(H1:Hp)(J:It)(items:List PV)(c:Gp->Prop):Prop:=∀(i:Nat) H G,Keep K H1 H->Rep K H G->c G->
 (i<items.length->J.go i H)/\(i=items.length->J.stop i H)/\∀x H',i<items.length->J.yld i H x H'->∃p,items[i]? =some p/\Keep K H H'/\Rep K H' G/\Dv K H' p x
def FX(K:PySem.W.Frag)(t:wk):TI:=λσ H R=>∃τ G R2,RSt K H σ τ/\Rep K H G/\t τ G R2/\∀items c G' J H',R2 items c G'->Rep K H' G'->Keep K H H'->AU K H' J items c->R J H'
structure JI(X:Cx)(tg iter:Expr)(t:wk):Prop where
 h:PI X tg iter (FX X.K t)
theorem JI.of{X:Cx}{tg iter:Expr}{t:wk}{u:TI}(h:PI X tg iter u)(w:∀σ H R,FX X.K t σ H R->u σ H R):JI X tg iter t:=⟨λpins s σ H R I q=>h pins s σ H R I (w σ H R q)⟩
abbrev O5(ti:wk)(g:EI)(tb:S2):S2:=λD τ G=>ti τ G λitems c G1=>∃W:Nat->jE->Gp->Prop,W 0 τ G1/\(∀i τ G,i<=items.length->W i τ G->c G)/\
 (∀i x τ G,items[i]? =some x->W i τ G->g x τ G λτ' G'=>tb {D with nx:=W (i+1),ct:=W (i+1),bk:=D.nx} τ' G')/\∀τ G,W items.length τ G->D.nx τ G
section
variable{X:Cx}{tg iter:Expr}{body:List Stmt}{ti:wk}{g:EI}{tb:S2}{pos:Pos}
theorem DA(hp:PassesOwn (aK X.prog X.w) X.A X.env X.xe)(hc:X.calm=true)(hi:JI X tg iter ti)(hg:JG X tg g)(hb:JB X body tb)
  (hs:autoParam (∀x,eN iter X.env x=pure x) Qe):JS X (.For tg iter body [] pos) (O5 ti g tb):= .of (IW hp hc hi.h hg.h hb.h hs) λD σ H ⟨τ,G,D2,rs,rp,q,cl⟩=>by
 refine⟨τ,G,_,rs,rp,q,λitems c G1 J H1 q1 r1 k1 ok=> ?_⟩;obtain⟨W,w0,hcW,turn,done⟩:=q1;refine⟨λi m σ' H'=>m=items.length-i/\i<=items.length/\∃τ' G',W i τ' G'/\RSt X.K H' σ' τ'/\Rep X.K H' G'/\Keep X.K H1 H',⟨_,rfl,c8 _,τ,G1,w0,rs.keep k1,r1,.refl⟩,?_⟩;rintro i m σ2 H2 ⟨rfl,hi,τ2,G2,w2,rs2,rp2,k2⟩;obtain⟨o1,o2,o3⟩:=ok i H2 G2 k2 rp2 (hcW i τ2 G2 hi w2);by_cases hlt:i<items.length
 ·refine .inr ⟨o1 hlt,λσ' H'=>i+1<=items.length/\∃τ' G',W (i+1) τ' G'/\RSt X.K H' σ' τ'/\Rep X.K H' G'/\Keep X.K H1 H',λσ' H' ⟨hl,z⟩=>⟨items.length-(i+1),by ac_nf,rfl,hl,z⟩,λx H3 y=> ?_⟩;obtain⟨p,ep,k3,r3,d3⟩:=o3 x H3 hlt y;have k13:=k2.trans k3;refine⟨p,τ2,G2,_,d3,rs2.keep k3,r3,turn i p τ2 G2 ep w2,λτ4 G4 σ4 H4 q4 rs4 r4 k4=> ?_⟩;have k14:=k13.trans k4;have k04:=k1.trans k14;exact⟨τ4,G4,_,rs4,r4,q4,⟨λτ' G' σ' H' q' a b c=>⟨hlt,τ',G',q',a,b,k14.trans c⟩,cl.rt.keep k04,cl.nx.keep k04,λτ' G' σ' H' q' a b c=>⟨hlt,τ',G',q',a,b,k14.trans c⟩⟩⟩
 ·have e:i=items.length:=by ac_nf
  subst e;exact .inl ⟨o2 rfl,cl.nx _ _ _ _ (done τ2 G2 w2) rs2 rp2 (k1.trans k2)⟩
end
mutual
def i7:PV->PV->Bool
 | .non,.non=>true
 | .bl a,.bl b=>a==b
 | .bl a,.int b=>(if a then 1 else 0)==b
 | .int a,.bl b=>a==(if b then 1 else 0)
 | .int a,.int b=>a==b
 | .str a,.str b=>a==b
 | .tup xs,.tup ys=>jT xs ys
 |_,_=>false
def jT:List PV->List PV->Bool
 |[],[]=>true
 |x::xs,y::ys=>i7 x y&&jT xs ys
 |_,_=>false
end
mutual
def eB:Nat->PV->Bool
 |_,.non=>true
 |_,.bl _=>true
 |_,.int _=>true
 |_,.str _=>true
 |n+1,.tup xs=>eK n xs
 |_,_=>false
def eK:Nat->List PV->Bool
 |_,[]=>true
 |n,x::xs=>eB n x&&eK n xs
end
section
variable{X:Cx}{pins:List (Addr×Obj)}{σ:L2.St}{H:Hp}{s:ag}{K:PySem.W.Frag}
mutual
theorem vC(I:Inv X pins σ H s):∀(n m:Nat) (p q:PV) {v:V},Dv X.K H p v->Dv X.K H q v->eB n p=true->eB m q=true->i7 p q=true
 |n,m,.non,q,v,h1,h2,f1,f2=>by
  obtain rfl:v= .non:=h1;cases q with
  |non=>rfl
  |tup qs=>obtain⟨a,vs,e,_⟩:=h2;cases e
  |ro qs=>cases m<;>cases f2
  |_=>first|cases (show _=_ from h2)|(cases m<;>cases f2)
 |n,m,.bl b,q,v,h1,h2,f1,f2=>by
  obtain rfl:v= .bl b:=h1;cases q with
  |bl c=>cases (show V.bl b=V.bl c from h2);unfold i7;simp
  |tup qs=>obtain⟨a,vs,e,_⟩:=h2;cases e
  |ro qs=>cases m<;>cases f2
  |_=>first|cases (show _=_ from h2)|(cases m<;>cases f2)
 |n,m,.int b,q,v,h1,h2,f1,f2=>by
  obtain rfl:v= .int b:=h1;cases q with
  |int c=>cases (show V.int b=V.int c from h2);unfold i7;simp
  |tup qs=>obtain⟨a,vs,e,_⟩:=h2;cases e
  |ro qs=>cases m<;>cases f2
  |_=>first|cases (show _=_ from h2)|(cases m<;>cases f2)
 |n,m,.str b,q,v,h1,h2,f1,f2=>by
  obtain rfl:v= .str b:=h1;cases q with
  |str c=>cases (show V.str b=V.str c from h2);unfold i7;simp
  |tup qs=>obtain⟨a,vs,e,_⟩:=h2;cases e
  |ro qs=>cases m<;>cases f2
  |_=>first|cases (show _=_ from h2)|(cases m<;>cases f2)
 |n,m,.tup ps,q,v,h1,h2,f1,f2=>by
  obtain⟨a,vs,rfl,sq,d⟩:=h1;cases q with
  |tup qs=>
   obtain⟨b,us,e,sq2,d2⟩:=h2
   cases e
   obtain rfl:=I.tuple_inj sq sq2
   cases n with
   |zero=>cases f1
   |succ n=>
    cases m with
    |zero=>cases f2
    |succ m=>
     unfold i7
     exact sK I n m ps qs d d2 f1 f2
  |ref b=>cases m<;>cases f2
  |ty b=>cases m<;>cases f2
  |ro b=>cases m<;>cases f2
  |_=>cases (show _=_ from h2)
 |n,m,.ref a,q,v,h1,h2,f1,f2=>by cases n<;>cases f1
 |n,m,.ty a,q,v,h1,h2,f1,f2=>by cases n<;>cases f1
 |n,m,.ro a,q,v,h1,h2,f1,f2=>by cases n<;>cases f1
theorem sK(I:Inv X pins σ H s):∀(n m:Nat) (ps qs:List PV) {vs:List V},Dvs X.K H ps vs->Dvs X.K H qs vs->eK n ps=true->eK m qs=true->jT ps qs=true
 |n,m,[],qs,vs,h1,h2,f1,f2=>by
  obtain rfl:vs=[]:=h1;cases qs with
  |nil=>rfl
  |cons q qs=>obtain⟨_,_,e,_⟩:=h2;cases e
 |n,m,p::ps,qs,vs,h1,h2,f1,f2=>by
  obtain⟨v,r,rfl,d,d'⟩:=h1;cases qs with
  |nil=>cases (show _=_ from h2)
  |cons q qs=>
   obtain⟨_,_,e,d2,d2'⟩:=h2
   cases e
   unfold eK at f1 f2
   rw[aB]at f1 f2
   unfold jT
   rw[vC I n m p q d d2 f1.1 f2.1,sK I n m ps qs d' d2' f1.2 f2.2]
   rfl
end
def wa(ps qs:List PV)(j:Nat):Bool:=match ps[j]?,qs[j]? with
 |some p,some q=>i7 p q
 |_,_=>true
theorem kB:∀(ps qs:List PV),ps.length=qs.length->(bQ ps.length).all (wa ps qs)=jT ps qs
 |[],[],_=>rfl
 |p::ps,q::qs,h=>by
  have ih:=kB ps qs (by simpa using h);unfold jT;rw[<-ih,aj,List.range_succ_eq_map,ip,List.all_map];rfl
 |[],_::_,h=>by simp at h
 |_::_,[],h=>by simp at h
theorem ol:∀{ps qs:List PV},ps.length≠qs.length->jT ps qs=false
 |[],[],h=>absurd rfl h
 |p::ps,q::qs,h=>by
  unfold jT;rw[ol (ps:=ps) (qs:=qs) (λe=>h (by simp[e])),e8]
 |[],_::_,_=>rfl
 |_::_,[],_=>rfl
theorem rD(ps qs:List PV):((bQ (min ps.length qs.length)).all (wa ps qs)&&ps.length==qs.length)=jT ps qs:=by
 by_cases h:ps.length=qs.length
 ·rw[h,Nat.min_self,<-h,kB ps qs h];simp[h]
 ·rw[ol h];simp[h]
abbrev Eqd(A:Around)(s:ag)(v u:ae)(b:Bool):Prop:=SeqAt.EqAt A s v u b
mutual
theorem PJ(I:Inv X pins σ H s):∀(n m:Nat) (p q:PV) (A:Around) {x y:V} {v u:ae},Dv X.K H p x->RelV x v->Dv X.K H q y->RelV y u->eB n p=true->eB m q=true->A.units+n<cLine->Eqd A s v u (i7 p q)
 |n,m,.non,q,A,x,y,v,u,d1,r1,d2,r2,f1,f2,hu=>by
  obtain rfl:x= .non:=d1;cases r1;cases q with
  |non=>obtain rfl:y= .non:=d2;cases r2;exact SeqAt.EqAt.same _
  |bl b=>obtain rfl:y= .bl b:=d2;cases r2;exact SeqAt.EqAt.none_bool b
  |int b=>obtain rfl:y= .int b:=d2;obtain⟨t,rfl⟩:=r2;exact SeqAt.EqAt.none_int b t
  |str b=>obtain rfl:y= .str b:=d2;obtain⟨t,rfl⟩:=r2;exact SeqAt.EqAt.none_str b t
  |tup qs=>
   obtain⟨a,vs,rfl,sq,dd⟩:=d2
   cases r2
   obtain⟨its,rv,pl,_⟩:=I.tuple sq
   exact SeqAt.EqAt.none_tuple pl (by ac_nf)
  |ref b=>cases m<;>cases f2
  |ty b=>cases m<;>cases f2
  |ro b=>cases m<;>cases f2
 |n,m,.bl a,q,A,x,y,v,u,d1,r1,d2,r2,f1,f2,hu=>by
  obtain rfl:x= .bl a:=d1;cases r1;cases q with
  |non=>obtain rfl:y= .non:=d2;cases r2;exact SeqAt.EqAt.bool_none a
  |bl b=>obtain rfl:y= .bl b:=d2;cases r2;exact SeqAt.EqAt.bool_bool a b
  |int b=>obtain rfl:y= .int b:=d2;obtain⟨t,rfl⟩:=r2;exact SeqAt.EqAt.bool_int a b t
  |str b=>obtain rfl:y= .str b:=d2;obtain⟨t,rfl⟩:=r2;exact SeqAt.EqAt.bool_str a b t
  |tup qs=>
   obtain⟨l,vs,rfl,sq,dd⟩:=d2
   cases r2
   obtain⟨its,rv,pl,_⟩:=I.tuple sq
   exact SeqAt.EqAt.bool_tuple a pl (by ac_nf)
  |ref b=>cases m<;>cases f2
  |ty b=>cases m<;>cases f2
  |ro b=>cases m<;>cases f2
 |n,m,.int a,q,A,x,y,v,u,d1,r1,d2,r2,f1,f2,hu=>by
  obtain rfl:x= .int a:=d1;obtain⟨t',rfl⟩:=r1;cases q with
  |non=>obtain rfl:y= .non:=d2;cases r2;exact SeqAt.EqAt.int_none a t'
  |bl b=>obtain rfl:y= .bl b:=d2;cases r2;exact SeqAt.EqAt.int_bool a t' b
  |int b=>obtain rfl:y= .int b:=d2;obtain⟨t,rfl⟩:=r2;exact SeqAt.EqAt.int_int a t' b t
  |str b=>obtain rfl:y= .str b:=d2;obtain⟨t,rfl⟩:=r2;exact mF a t' b t
  |tup qs=>
   obtain⟨l,vs,rfl,sq,dd⟩:=d2
   cases r2
   obtain⟨its,rv,pl,_⟩:=I.tuple sq
   exact SeqAt.EqAt.int_tuple a t' pl (by ac_nf)
  |ref b=>cases m<;>cases f2
  |ty b=>cases m<;>cases f2
  |ro b=>cases m<;>cases f2
 |n,m,.str a,q,A,x,y,v,u,d1,r1,d2,r2,f1,f2,hu=>by
  obtain rfl:x= .str a:=d1;obtain⟨t',rfl⟩:=r1;cases q with
  |non=>obtain rfl:y= .non:=d2;cases r2;exact SeqAt.EqAt.str_none a t'
  |bl b=>obtain rfl:y= .bl b:=d2;cases r2;exact SeqAt.EqAt.str_bool a t' b
  |int b=>obtain rfl:y= .int b:=d2;obtain⟨t,rfl⟩:=r2;exact mE a t' b t
  |str b=>obtain rfl:y= .str b:=d2;obtain⟨t,rfl⟩:=r2;exact SeqAt.EqAt.str_str a t' b t
  |tup qs=>
   obtain⟨l,vs,rfl,sq,dd⟩:=d2
   cases r2
   obtain⟨its,rv,pl,_⟩:=I.tuple sq
   exact SeqAt.EqAt.str_tuple a t' pl (by ac_nf)
  |ref b=>cases m<;>cases f2
  |ty b=>cases m<;>cases f2
  |ro b=>cases m<;>cases f2
 |n,m,.tup ps,q,A,x,y,v,u,d1,r1,d2,r2,f1,f2,hu=>by
  have dd1:=d1;obtain⟨l,vs,rfl,sq,d⟩:=d1;cases r1;obtain⟨its,rv,pl,_⟩:=I.tuple sq;cases q with
  |non=>obtain rfl:y= .non:=d2;cases r2;exact SeqAt.EqAt.tuple_none pl (by ac_nf)
  |bl b=>obtain rfl:y= .bl b:=d2;cases r2;exact SeqAt.EqAt.tuple_bool b pl (by ac_nf)
  |int b=>obtain rfl:y= .int b:=d2;obtain⟨t,rfl⟩:=r2;exact SeqAt.EqAt.tuple_int b t pl (by ac_nf)
  |str b=>obtain rfl:y= .str b:=d2;obtain⟨t,rfl⟩:=r2;exact SeqAt.EqAt.tuple_str b t pl (by ac_nf)
  |tup qs=>
   have dd2:=d2
   obtain⟨l2,us,rfl,sq2,d2⟩:=d2
   cases r2
   obtain⟨its2,rv2,pl2,_⟩:=I.tuple sq2
   by_cases hll:l=l2
   ·subst hll
    rw[vC I n m (.tup ps) (.tup qs) dd1 dd2 f1 f2]
    exact SeqAt.EqAt.same _
   ·cases n with
    |zero=>cases f1
    |succ n=>
     cases m with
     |zero=>cases f2
     |succ m=>
      refine SeqAt.EqAt.of_refs hll ?_
      have z:=SeqAt.RcAt.tuples (A:=A) (e:=wa ps qs) pl pl2 (by ac_nf) λj h1 h2=>tq I n m ps qs A.in1 d rv d2 rv2 f1 f2 (by rw[PySem.Around.in1_units];ac_nf) j h1 h2
      rw[aq,aq,<-rv.length,<-rv2.length,d.length,d2.length,rD]at z
      unfold i7
      exact z
  |ref b=>cases m<;>cases f2
  |ty b=>cases m<;>cases f2
  |ro b=>cases m<;>cases f2
 |n,m,.ref a,q,A,x,y,v,u,d1,r1,d2,r2,f1,f2,hu=>by cases n<;>cases f1
 |n,m,.ty a,q,A,x,y,v,u,d1,r1,d2,r2,f1,f2,hu=>by cases n<;>cases f1
 |n,m,.ro a,q,A,x,y,v,u,d1,r1,d2,r2,f1,f2,hu=>by cases n<;>cases f1
theorem tq(I:Inv X pins σ H s):∀(n m:Nat) (ps qs:List PV) (A:Around) {xs ys:List V} {vs us:List ae},Dvs X.K H ps xs->Vals xs vs->Dvs X.K H qs ys->Vals ys us->eK n ps=true->eK m qs=true->A.units+n<cLine->
  ∀(j:Nat) (h1:j<vs.toArray.size) (h2:j<us.toArray.size),Eqd A s vs.toArray[j] us.toArray[j] (wa ps qs j)
 |n,m,[],qs,A,xs,ys,vs,us,d1,r1,d2,r2,f1,f2,hu,j,h1,h2=>by
  obtain rfl:xs=[]:=d1;cases r1;simp at h1
 |n,m,p::ps,qs,A,xs,ys,vs,us,d1,r1,d2,r2,f1,f2,hu,j,h1,h2=>by
  obtain⟨x,xr,rfl,dx,d1⟩:=d1;cases r1 with
  |cons rx r1=>
   cases qs with
   |nil=>
    obtain rfl:ys=[]:=d2
    cases r2
    simp at h2
   |cons q qs=>
    obtain⟨y,yr,rfl,dy,d2⟩:=d2
    cases r2 with
    |cons ry r2=>
     unfold eK at f1 f2
     rw[aB]at f1 f2
     cases j with
     |zero=>exact PJ I n m p q A dx rx dy ry f1.1 f2.1 hu
     |succ j=>exact tq I n m ps qs A d1 r1 d2 r2 f1.2 f2.2 hu j (by simpa using h1) (by simpa using h2)
end
end
theorem wu{n:Nat}(h:n<=16000000):n<=ba:=bj h (by rw[i6];decide)
theorem En{n:Nat}(h:n<=16000000):n<ba:=pO h (by rw[i6];decide)
def lk(G:Gp)(a:Addr):Option (List PV):=match G a with
 |some (.lst ps)=>some ps
 |some (.rl ps)=>some ps
 |_=>none
theorem gp{K:PySem.W.Frag}{H:Hp}{G:Gp}{a:Addr}{ps:List PV}(r:Rep K H G)(h:lk G a=some ps):∃vs,SqL K H a vs/\Dvs K H ps vs:=by
 unfold lk at h;split at h
 ·rename_i qs e;cases h;obtain⟨vs,e1,d⟩:=r a _ e;exact⟨vs,.of e1,d⟩
 ·rename_i qs e;cases h;obtain⟨vs,e1,d⟩:=r a _ e;exact⟨vs,.inl e1,d⟩
 ·cases h
def Li:B2:=λp q G Q=>match p,q with
 | .ref a,.ref b=>match lk G a,lk G b with
  |some ps,some qs=>eK 100 ps=true/\eK 100 qs=true/\Q (.bl (jT ps qs)) G
  |_,_=>False
 | .ref _,_=>False
 |_,.ref _=>False
 |p,q=>eB 100 p=true/\eB 100 q=true/\Q (.bl (i7 p q)) G
def JU:B2:=λp q G Q=>match p,q with
 | .ref a,.ref b=>match lk G a,lk G b with
  |some ps,some qs=>eK 100 ps=true/\eK 100 qs=true/\Q (.bl (!jT ps qs)) G
  |_,_=>False
 | .ref _,_=>False
 |_,.ref _=>False
 |p,q=>eB 100 p=true/\eB 100 q=true/\Q (.bl (!i7 p q)) G
section
variable{X:Cx}{pins:List (Addr×Obj)}{σ:L2.St}{H:Hp}{s:ag}
theorem O7(I:Inv X pins σ H s)(p q:PV)(A:Around){x y:V}{v u:ae}(d1:Dv X.K H p x)(r1:RelV x v)(d2:Dv X.K H q y)(r2:RelV y u)(f1:eB 100 p=true)(f2:eB 100 q=true)(hu:A.units+101<cLine):SeqAt.RcAt A s v u (i7 p q):=by
 have hu':A.units<cLine:=by ac_nf
 cases p with
 |ref a=>cases f1
 |ty a=>cases f1
 |ro a=>cases f1
 |tup ps=>
  obtain⟨l,xs,rfl,sq,dd⟩:=d1
  cases r1
  obtain⟨its,rv,pl,_⟩:=I.tuple sq
  cases q with
  |ref a=>cases f2
  |ty a=>cases f2
  |ro a=>cases f2
  |tup qs=>
   obtain⟨l2,ys,rfl,sq2,dd2⟩:=d2
   cases r2
   obtain⟨its2,rv2,pl2,_⟩:=I.tuple sq2
   have z:=SeqAt.RcAt.tuples (A:=A) (e:=wa ps qs) pl pl2 hu' λj h1 h2=>tq I 99 99 ps qs A.in1 dd rv dd2 rv2 f1 f2 (by rw[PySem.Around.in1_units];ac_nf) j h1 h2
   rw[aq,aq,<-rv.length,<-rv2.length,dd.length,dd2.length,rD]at z
   unfold i7
   exact z
  |non=>obtain rfl:y= .non:=d2;cases r2;exact SeqAt.RcAt.tuple_none pl hu'
  |bl b=>obtain rfl:y= .bl b:=d2;cases r2;exact SeqAt.RcAt.tuple_bool b pl hu'
  |int b=>obtain rfl:y= .int b:=d2;obtain⟨t,rfl⟩:=r2;exact SeqAt.RcAt.tuple_int b t pl hu'
  |str b=>obtain rfl:y= .str b:=d2;obtain⟨t,rfl⟩:=r2;exact SeqAt.RcAt.tuple_str b t pl hu'
 |non=>
  obtain rfl:x= .non:=d1
  cases r1
  cases q with
  |ref a=>cases f2
  |ty a=>cases f2
  |ro a=>cases f2
  |tup qs=>
   obtain⟨l2,ys,rfl,sq2,dd2⟩:=d2
   cases r2
   obtain⟨its2,rv2,pl2,_⟩:=I.tuple sq2
   exact SeqAt.RcAt.none_tuple pl2 hu'
  |non=>obtain rfl:y= .non:=d2;cases r2;exact SeqAt.RcAt.none_none
  |bl b=>obtain rfl:y= .bl b:=d2;cases r2;exact SeqAt.RcAt.none_bool b
  |int b=>obtain rfl:y= .int b:=d2;obtain⟨t,rfl⟩:=r2;exact SeqAt.RcAt.none_int b t
  |str b=>obtain rfl:y= .str b:=d2;obtain⟨t,rfl⟩:=r2;exact SeqAt.RcAt.none_str b t
 |bl a=>
  obtain rfl:x= .bl a:=d1
  cases r1
  cases q with
  |ref a=>cases f2
  |ty a=>cases f2
  |ro a=>cases f2
  |tup qs=>
   obtain⟨l2,ys,rfl,sq2,dd2⟩:=d2
   cases r2
   obtain⟨its2,rv2,pl2,_⟩:=I.tuple sq2
   exact SeqAt.RcAt.bool_tuple a pl2 hu'
  |non=>obtain rfl:y= .non:=d2;cases r2;exact SeqAt.RcAt.bool_none a
  |bl b=>obtain rfl:y= .bl b:=d2;cases r2;exact SeqAt.RcAt.bool_bool a b
  |int b=>obtain rfl:y= .int b:=d2;obtain⟨t,rfl⟩:=r2;exact SeqAt.RcAt.bool_int a b t
  |str b=>obtain rfl:y= .str b:=d2;obtain⟨t,rfl⟩:=r2;exact SeqAt.RcAt.bool_str a b t
 |int a=>
  obtain rfl:x= .int a:=d1
  obtain⟨t',rfl⟩:=r1
  cases q with
  |ref a=>cases f2
  |ty a=>cases f2
  |ro a=>cases f2
  |tup qs=>
   obtain⟨l2,ys,rfl,sq2,dd2⟩:=d2
   cases r2
   obtain⟨its2,rv2,pl2,_⟩:=I.tuple sq2
   exact SeqAt.RcAt.int_tuple a t' pl2 hu'
  |non=>obtain rfl:y= .non:=d2;cases r2;exact SeqAt.RcAt.int_none a t'
  |bl b=>obtain rfl:y= .bl b:=d2;cases r2;exact SeqAt.RcAt.int_bool a t' b
  |int b=>obtain rfl:y= .int b:=d2;obtain⟨t,rfl⟩:=r2;exact SeqAt.RcAt.int_int a t' b t
  |str b=>obtain rfl:y= .str b:=d2;obtain⟨t,rfl⟩:=r2;exact SeqAt.RcAt.int_str a t' b t
 |str a=>
  obtain rfl:x= .str a:=d1
  obtain⟨t',rfl⟩:=r1
  cases q with
  |ref a=>cases f2
  |ty a=>cases f2
  |ro a=>cases f2
  |tup qs=>
   obtain⟨l2,ys,rfl,sq2,dd2⟩:=d2
   cases r2
   obtain⟨its2,rv2,pl2,_⟩:=I.tuple sq2
   exact SeqAt.RcAt.str_tuple a t' pl2 hu'
  |non=>obtain rfl:y= .non:=d2;cases r2;exact SeqAt.RcAt.str_none a t'
  |bl b=>obtain rfl:y= .bl b:=d2;cases r2;exact SeqAt.RcAt.str_bool a t' b
  |int b=>obtain rfl:y= .int b:=d2;obtain⟨t,rfl⟩:=r2;exact SeqAt.RcAt.str_int a t' b t
  |str b=>obtain rfl:y= .str b:=d2;obtain⟨t,rfl⟩:=r2;exact SeqAt.RcAt.str_str a t' b t
theorem IP(I:Inv X pins σ H s)(p q:PV)(A:Around){x y:V}{v u:ae}(d1:Dv X.K H p x)(r1:RelV x v)(d2:Dv X.K H q y)(r2:RelV y u)(f1:eB 100 p=true)(f2:eB 100 q=true)(hu:A.units+101<cLine):SeqAt.RcNeAt A s v u (!i7 p q):=by
 have hu':A.units<cLine:=by ac_nf
 cases p with
 |ref a=>cases f1
 |ty a=>cases f1
 |ro a=>cases f1
 |tup ps=>
  obtain⟨l,xs,rfl,sq,dd⟩:=d1
  cases r1
  obtain⟨its,rv,pl,_⟩:=I.tuple sq
  cases q with
  |ref a=>cases f2
  |ty a=>cases f2
  |ro a=>cases f2
  |tup qs=>
   obtain⟨l2,ys,rfl,sq2,dd2⟩:=d2
   cases r2
   obtain⟨its2,rv2,pl2,_⟩:=I.tuple sq2
   have z:=SeqAt.RcNeAt.tuples (A:=A) (e:=wa ps qs) pl pl2 hu' λj h1 h2=>tq I 99 99 ps qs A.in1 dd rv dd2 rv2 f1 f2 (by rw[PySem.Around.in1_units];ac_nf) j h1 h2
   rw[aq,aq,<-rv.length,<-rv2.length,dd.length,dd2.length,rD]at z
   unfold i7
   exact z
  |non=>obtain rfl:y= .non:=d2;cases r2;exact SeqAt.RcNeAt.tuple_none pl hu'
  |bl b=>obtain rfl:y= .bl b:=d2;cases r2;exact SeqAt.RcNeAt.tuple_bool b pl hu'
  |int b=>obtain rfl:y= .int b:=d2;obtain⟨t,rfl⟩:=r2;exact SeqAt.RcNeAt.tuple_int b t pl hu'
  |str b=>obtain rfl:y= .str b:=d2;obtain⟨t,rfl⟩:=r2;exact SeqAt.RcNeAt.tuple_str b t pl hu'
 |non=>
  obtain rfl:x= .non:=d1
  cases r1
  cases q with
  |ref a=>cases f2
  |ty a=>cases f2
  |ro a=>cases f2
  |tup qs=>
   obtain⟨l2,ys,rfl,sq2,dd2⟩:=d2
   cases r2
   obtain⟨its2,rv2,pl2,_⟩:=I.tuple sq2
   exact SeqAt.RcNeAt.none_tuple pl2 hu'
  |non=>obtain rfl:y= .non:=d2;cases r2;exact SeqAt.RcNeAt.none_none
  |bl b=>obtain rfl:y= .bl b:=d2;cases r2;exact SeqAt.RcNeAt.none_bool b
  |int b=>obtain rfl:y= .int b:=d2;obtain⟨t,rfl⟩:=r2;exact SeqAt.RcNeAt.none_int b t
  |str b=>obtain rfl:y= .str b:=d2;obtain⟨t,rfl⟩:=r2;exact SeqAt.RcNeAt.none_str b t
 |bl a=>
  obtain rfl:x= .bl a:=d1
  cases r1
  cases q with
  |ref a=>cases f2
  |ty a=>cases f2
  |ro a=>cases f2
  |tup qs=>
   obtain⟨l2,ys,rfl,sq2,dd2⟩:=d2
   cases r2
   obtain⟨its2,rv2,pl2,_⟩:=I.tuple sq2
   exact SeqAt.RcNeAt.bool_tuple a pl2 hu'
  |non=>obtain rfl:y= .non:=d2;cases r2;exact SeqAt.RcNeAt.bool_none a
  |bl b=>obtain rfl:y= .bl b:=d2;cases r2;exact SeqAt.RcNeAt.bool_bool a b
  |int b=>obtain rfl:y= .int b:=d2;obtain⟨t,rfl⟩:=r2;exact SeqAt.RcNeAt.bool_int a b t
  |str b=>obtain rfl:y= .str b:=d2;obtain⟨t,rfl⟩:=r2;exact SeqAt.RcNeAt.bool_str a b t
 |int a=>
  obtain rfl:x= .int a:=d1
  obtain⟨t',rfl⟩:=r1
  cases q with
  |ref a=>cases f2
  |ty a=>cases f2
  |ro a=>cases f2
  |tup qs=>
   obtain⟨l2,ys,rfl,sq2,dd2⟩:=d2
   cases r2
   obtain⟨its2,rv2,pl2,_⟩:=I.tuple sq2
   exact SeqAt.RcNeAt.int_tuple a t' pl2 hu'
  |non=>obtain rfl:y= .non:=d2;cases r2;exact SeqAt.RcNeAt.int_none a t'
  |bl b=>obtain rfl:y= .bl b:=d2;cases r2;exact SeqAt.RcNeAt.int_bool a t' b
  |int b=>obtain rfl:y= .int b:=d2;obtain⟨t,rfl⟩:=r2;exact SeqAt.RcNeAt.int_int a t' b t
  |str b=>obtain rfl:y= .str b:=d2;obtain⟨t,rfl⟩:=r2;exact SeqAt.RcNeAt.int_str a t' b t
 |str a=>
  obtain rfl:x= .str a:=d1
  obtain⟨t',rfl⟩:=r1
  cases q with
  |ref a=>cases f2
  |ty a=>cases f2
  |ro a=>cases f2
  |tup qs=>
   obtain⟨l2,ys,rfl,sq2,dd2⟩:=d2
   cases r2
   obtain⟨its2,rv2,pl2,_⟩:=I.tuple sq2
   exact SeqAt.RcNeAt.str_tuple a t' pl2 hu'
  |non=>obtain rfl:y= .non:=d2;cases r2;exact SeqAt.RcNeAt.str_none a t'
  |bl b=>obtain rfl:y= .bl b:=d2;cases r2;exact SeqAt.RcNeAt.str_bool a t' b
  |int b=>obtain rfl:y= .int b:=d2;obtain⟨t,rfl⟩:=r2;exact SeqAt.RcNeAt.str_int a t' b t
  |str b=>obtain rfl:y= .str b:=d2;obtain⟨t,rfl⟩:=r2;exact SeqAt.RcNeAt.str_str a t' b t
theorem Cq(hu:X.A.units+200<cLine):ik X (bD .Eq) (gn X.K Li):=by
 intro pins s σ H x y v u Q I rx ry h;obtain⟨p,q,G,Q2,d1,d2,rp,h,cl⟩:=h;have fin:∀(f1:eB 100 p=true) (f2:eB 100 q=true),Q2 (.bl (i7 p q)) G->wpAny (aK X.prog X.w) X.A (bD .Eq v u) (EP X pins σ Q) X.xe s:=λf1 f2 hq=>
  O7 I p q X.A d1 rx d2 ry f1 f2 (by ac_nf) X.prog X.w X.xe _ ⟨.bl _,H,I,rfl,cl _ _ _ _ hq rfl rp .refl⟩
 unfold Li at h;split at h
 ·rename_i a b;split at h
  ·rename_i ps qs e1 e2;obtain⟨f1,f2,hq⟩:=h;obtain rfl:x= .ref a:=d1;obtain rfl:y= .ref b:=d2;cases rx;cases ry;obtain⟨xs,sa,da⟩:=gp rp e1;obtain⟨ys,sb,db⟩:=gp rp e2;obtain⟨us,r,pl,_⟩:=I.list sa;obtain⟨ws,r',pl',_⟩:=I.list sb;have l1:=r.length;have l2:=r'.length;have l3:=da.length;have l4:=db.length;by_cases hl:ps.length=qs.length
   ·refine SeqAt.eq_listAt (e:=wa ps qs) pl.isList pl'.isList (by simp;ac_nf) (by ac_nf) (λj h1 h2=>tq I 100 100 ps qs X.A.in1 da r db r' f1 f2 (by rw[PySem.Around.in1_units];ac_nf) j h1 h2) ⟨.bl (jT ps qs),H,I,?_,cl _ _ _ _ hq rfl rp .refl⟩;rw[aq,<-l1,l3,kB ps qs hl];rfl
   ·refine SeqAt.eq_list_lengthsAt pl.isList pl'.isList (by simp;ac_nf) (by ac_nf) ⟨.bl (jT ps qs),H,I,?_,cl _ _ _ _ hq rfl rp .refl⟩;rw[ol hl];rfl
  ·exact h.elim
 ·exact h.elim
 ·exact h.elim
 ·obtain⟨f1,f2,hq⟩:=h;exact fin f1 f2 hq
theorem Co(hu:X.A.units+200<cLine):ik X (bD .NotEq) (gn X.K JU):=by
 intro pins s σ H x y v u Q I rx ry h;obtain⟨p,q,G,Q2,d1,d2,rp,h,cl⟩:=h;have fin:∀(f1:eB 100 p=true) (f2:eB 100 q=true),Q2 (.bl (!i7 p q)) G->wpAny (aK X.prog X.w) X.A (bD .NotEq v u) (EP X pins σ Q) X.xe s:=λf1 f2 hq=>
  IP I p q X.A d1 rx d2 ry f1 f2 (by ac_nf) X.prog X.w X.xe _ ⟨.bl _,H,I,rfl,cl _ _ _ _ hq rfl rp .refl⟩
 unfold JU at h;split at h
 ·rename_i a b;split at h
  ·rename_i ps qs e1 e2;obtain⟨f1,f2,hq⟩:=h;obtain rfl:x= .ref a:=d1;obtain rfl:y= .ref b:=d2;cases rx;cases ry;obtain⟨xs,sa,da⟩:=gp rp e1;obtain⟨ys,sb,db⟩:=gp rp e2;obtain⟨us,r,pl,_⟩:=I.list sa;obtain⟨ws,r',pl',_⟩:=I.list sb;have l1:=r.length;have l2:=r'.length;have l3:=da.length;have l4:=db.length;by_cases hl:ps.length=qs.length
   ·refine SeqAt.RcNeAt.lists (e:=wa ps qs) pl.isList pl'.isList (by simp;ac_nf) (by ac_nf) (λj h1 h2=>tq I 100 100 ps qs X.A.in1 da r db r' f1 f2 (by rw[PySem.Around.in1_units];ac_nf) j h1 h2) _ _ _ _ ⟨.bl (!jT ps qs),H,I,?_,cl _ _ _ _ hq rfl rp .refl⟩;rw[aq,<-l1,l3,kB ps qs hl];rfl
   ·refine SeqAt.RcNeAt.lists_lengths pl.isList pl'.isList (by simp;ac_nf) (by ac_nf) _ _ _ _ ⟨.bl (!jT ps qs),H,I,?_,cl _ _ _ _ hq rfl rp .refl⟩;rw[ol hl];rfl
  ·exact h.elim
 ·exact h.elim
 ·exact h.elim
 ·obtain⟨f1,f2,hq⟩:=h;exact fin f1 f2 hq
end
theorem K1{K:PySem.W.Frag}{H1:Hp}{a:Addr}{vs:List V}{ps:List PV}(sq:SqT K H1 a vs)(d:Dvs K H1 ps vs):AU K H1 (Itt K a) ps (λ_=>True):=λi H G k r _=>by
 have sq':=k.1 a vs sq;have d':=d.keep k;refine⟨λhi=> ?_,λhi=>⟨vs,sq',by rw[d.length];ac_nf⟩,λx H' hi y=> ?_⟩
 ·obtain⟨v,e,_⟩:=d'.at (au hi);exact⟨vs,v,sq',e⟩
 ·obtain⟨rfl,y⟩:=y;obtain⟨p,e,dp⟩:=d'.get (y vs sq');exact⟨p,e,.refl,r,dp⟩
theorem K5{K:PySem.W.Frag}{H1:Hp}{a:Addr}{ps:List PV}:AU K H1 (Itl K a) ps (λG=>lk G a=some ps):=λi H G k r c=>by
 obtain⟨vs,sq',d'⟩:=gp r c;refine⟨λhi=> ?_,λhi=>⟨vs,sq',by rw[d'.length];ac_nf⟩,λx H' hi y=> ?_⟩
 ·obtain⟨v,e,_⟩:=d'.at (au hi);exact⟨vs,v,sq',e⟩
 ·obtain⟨rfl,y⟩:=y;obtain⟨p,e,dp⟩:=d'.get (y vs sq');exact⟨p,e,.refl,r,dp⟩
def dA(z:Str):List PV:=z.cps.toList.map λc=> .str ⟨#[c]⟩
theorem mm(z:Str):(dA z).length=z.length:=by unfold dA;simp;rfl
theorem K3{K:PySem.W.Frag}{H1:Hp}(z:Str):AU K H1 (OG z) (dA z) (λ_=>True):=λi H G k r _=>by
 have hl:(dA z).length=z.cps.size:=by unfold dA;simp
 refine⟨λhi=> ?_,λhi=> ?_,λx H' hi y=> ?_⟩
 ·show i<z.cps.size;ac_nf
 ·show z.cps.size<=i;ac_nf
 ·obtain⟨rfl,c,e,rfl⟩:=y;refine⟨.str ⟨#[c]⟩,?_,.refl,r,rfl⟩;unfold dA;rw[br];have:z.cps.toList[i]? =some c:=by simpa using e
  rw[this];rfl
def mo(lo:Int)(n:Nat):List PV:=(bQ n).map fun(i:Nat)=> .int (lo+i)
theorem K4{K:PySem.W.Frag}{H1:Hp}(lo:Int)(n:Nat):AU K H1 (OH lo n) (mo lo n) (λ_=>True):=λi H G k r _=>by
 have hl:(mo lo n).length=n:=by unfold mo;simp
 refine⟨λhi=> ?_,λhi=> ?_,λx H' hi y=> ?_⟩
 ·show i<n;ac_nf
 ·show n<=i;ac_nf
 ·obtain⟨rfl,rfl⟩:=y;refine⟨.int (lo+i),?_,.refl,r,rfl⟩;unfold mo;rw[br,jF (by ac_nf)];rfl
abbrev itS(t:E2):wk:=λτ G R=>t τ G λp G1=>match p with
 | .tup ps=>R ps (λ_=>True) G1
 | .ref a=>match lk G1 a with
  |some ps=>R ps (λG=>lk G a=some ps) G1
  |none=>False
 | .str z=>R (dA z) (λ_=>True) G1
 |_=>False
abbrev Pw(t:A2):wk:=λτ G R=>t τ G λps G1=>match ps with
 |[.int j]=> -(2^62)<=j/\j<2^62/\R (mo 0 j.toNat) (λ_=>True) G1
 |_=>False
theorem EU{X:Cx}{pins:List (Addr×Obj)}{σ:L2.St}{H1:Hp}{s1:ag}{x:Str}{px:Pos}{z:Str}{v:ae}{R:It->Hp->Prop}(I1:Inv X pins σ H1 s1)(r1:RelV (.str z) v)(q:R (OG z) H1):
  wpAny (aK X.prog X.w) X.A (pyIter v) (PZ X pins σ (.Name x px) R) X.xe s1:=by
 obtain⟨t,rfl⟩:=r1;cases ha:z.cps.all (· <128)
 ·refine PySem.wpAny_pyIter_wide ha ⟨s1.heap.objs.size,[s1.heap.objs.size],_,_,H1,rfl,I1.kept (t':=s1.toks) λb o e=>ai _ e,vb _ z t "str_iterator" (.inr rfl),⟨⟨_,aF _ rfl,rfl,rfl⟩,c8 _⟩,λb hb=> ?_,q⟩;have e:b=s1.heap.objs.size:=by simpa using hb
  subst e;exact I1.fpOk (ap _) (I1.hok.fresh (ap _))
 ·refine PySem.wpAny_pyIter_ascii ha ⟨s1.heap.objs.size,[s1.heap.objs.size],_,_,H1,rfl,I1.kept (t':=s1.toks) λb o e=>ai _ e,vb _ z t "str_ascii_iterator" (.inl rfl),⟨⟨_,aF _ rfl,rfl,rfl⟩,c8 _⟩,λb hb=> ?_,q⟩;have e:b=s1.heap.objs.size:=by simpa using hb
  subst e;exact I1.fpOk (ap _) (I1.hok.fresh (ap _))
section
variable{X:Cx}{l tg a b:Expr}{t:E2}{ta:A2}{x:Str}{px p pos:Pos}
theorem y9(hl:JE X l t):JI X (.Name x px) l (itS t):=⟨by
 intro pins s σ H R I h;obtain⟨τ,G,R2,rs,rp,h,cl⟩:=h;refine fF (hl.h pins s σ H (λv H1=>∃p G1,Dv X.K H1 p v/\Rep X.K H1 G1/\Keep X.K H H1/\(match p with
  | .tup ps=>R2 ps (λ_=>True) G1
  | .ref a=>match lk G1 a with
   |some ps=>R2 ps (λG=>lk G a=some ps) G1
   |none=>False
  | .str z=>R2 (dA z) (λ_=>True) G1
  |_=>False)) I ⟨τ,G,_,rs,rp,h,λp G1 v H1 q d r k=>⟨p,G1,d,r,k,q⟩⟩) λv s1 ⟨y,H1,I1,r1,q,G1,d1,rp1,k1,q1⟩=> ?_
 cases q with
 |tup ps=>
  obtain⟨a,vs,rfl,sq,dv⟩:=d1
  cases r1
  obtain⟨its,rv,p,hz⟩:=I1.tuple sq
  refine wpAny_pyIter_tuple (show s1.heap.IsTuple a its.toArray from p) ?_
  refine⟨s1.heap.objs.size,[s1.heap.objs.size],_,_,H1,rfl,I1.kept (t':=s1.toks) λb o e=>ai _ e,wJ a _,⟨_,aF _ rfl,rfl,rfl⟩,λb hb=> ?_,cl _ _ _ _ _ q1 rp1 k1 (K1 sq dv)⟩
  have e:b=s1.heap.objs.size:=by simpa using hb
  subst e
  exact I1.fpOk (ap _) (I1.hok.fresh (ap _))
 |ref a=>
  obtain rfl:y= .ref a:=d1
  cases r1
  dsimp only at q1
  split at q1
  ·rename_i ps e
   obtain⟨vs,sq,dv⟩:=gp rp1 e
   obtain⟨its,rv,p,hz⟩:=I1.list sq
   refine tV p.isList ?_
   refine⟨s1.heap.objs.size,[s1.heap.objs.size],_,_,H1,rfl,I1.kept (t':=s1.toks) λb o e=>ai _ e,zJ a _,⟨_,aF _ rfl,rfl,rfl⟩,λb hb=> ?_,cl _ _ _ _ _ q1 rp1 k1 K5⟩
   have e:b=s1.heap.objs.size:=by simpa using hb
   subst e
   exact I1.fpOk (ap _) (I1.hok.fresh (ap _))
  ·exact q1.elim
 |str z=>
  obtain rfl:y= .str z:=d1
  exact EU I1 r1 (cl _ _ _ _ _ q1 rp1 k1 (K3 z))
 |non=>exact q1.elim
 |bl b=>exact q1.elim
 |int i=>exact q1.elim
 |ty n=>exact q1.elim
 |ro n=>exact q1.elim⟩
theorem Aq(hm:X.mg "range" =none)(ha:JA X [a] ta)(hg:autoParam (Gl X "range") Qa)(hs:autoParam (ao [a] X.env=[(false,eval a X.env)]) Qa):JI X tg (.Call (.Name "range" p) [a] [] pos) (Pw ta):= .of (zW hg hm ha.h hs) λσ H R hPl=>by
 obtain⟨τ,G,R2,rs,rp,h,cl⟩:=hPl;refine⟨τ,G,_,rs,rp,h,λps G1 vs H1 q d r k=> ?_⟩;split at q
 ·rename_i j;obtain⟨v,vr,rfl,d1,d⟩:=d;obtain rfl:vr=[]:=d;obtain rfl:v= .int j:=d1;exact⟨j,rfl,q.1,q.2.1,cl _ _ _ _ _ q.2.2 r k (K4 _ _)⟩
 ·exact q.elim
end
section
end
@[reducible] def lE:List (Option Nat)->jE->jE
 |[],_=>[]
 |some i::r,τ=>gt τ i::lE r τ
 |none::r,τ=>none::lE r τ
theorem uI:∀(ix:List (Option Nat)) (τ:jE),lE ix τ=ix.map λo=>match o with
  |some i=>(τ[i]?).getD none
  |none=>none
 |[],_=>rfl
 |some i::r,τ=>by simp only[lE,aU,DR,uI r τ]
 |none::r,τ=>by simp only[lE,aU,uI r τ]
theorem zw{K:PySem.W.Frag}{H:Hp}{σ:L2.St}{τ:jE}(ix:List (Option Nat))(r:RSt K H σ τ):RSt K H (lF ix σ) (lE ix τ):=by
 rw[uI];refine⟨by unfold lF;simp,λi p e=> ?_⟩;unfold lF;rw[br]at e⊢;cases q:ix[i]? with
 |none=>rw[q]at e;cases e
 |some o=>
  cases o with
  |none=>rw[q]at e;cases e
  |some k=>
   rw[q]at e
   have e':some ((τ[k]?).getD none)=some (some p):=e
   have e2:=bt e'
   cases q2:τ[k]? with
   |none=>rw[q2]at e2;cases e2
   |some z=>
    rw[q2]at e2
    have e3:z=some p:=e2
    subst e3
    obtain⟨v,ev,d⟩:=r.2 k p q2
    refine⟨v,?_,d⟩
    show some ((σ[k]?).getD none)=_
    rw[ev]
    rfl
def EH(items:List PV)(c:Gp->Prop)(ix:List (Option Nat))(j:Nat)(τ:jE)(tf:T2)(te:E2)(Q:K2)(G1:Gp)(acc:Addr):Prop:=
 ∃W:Nat->List PV->Gp->Prop,W 0 [] (up G1 acc (.lst []))/\(∀i ys G,i<=items.length->W i ys G->c G/\G acc=some (.lst ys)/\ys.length<16000000)/\
  (∀i ys G x,items[i]? =some x->W i ys G->tf (st (lE ix τ) j (some x)) G λb G2=>kl b (te (st (lE ix τ) j (some x)) G2 λy G3=>G3 acc=some (.lst ys)/\W (i+1) (ys++[y]) (up G3 acc (.lst (ys++[y])))) (W (i+1) ys G2))/\∀ys G,W items.length ys G->Q (.ref acc) G
abbrev D6(ti:wk)(ix:List (Option Nat))(j:Nat)(tf:T2)(te:E2):E2:=λτ G Q=>ti τ G λitems c G1=>∀acc,G1 acc=none->EH items c ix j τ tf te Q G1 acc
structure JF(X:Cx)(ifs:List Expr)(t:T2):Prop where
 h:PF X ifs (vL X.K t)
abbrev ml:T2:=λ_ G Q=>Q true G
section
variable{X:Cx}{c:Expr}
theorem Ku:JF X [] ml:=⟨λpins s σ H Q I ⟨τ,G,Q2,rs,rp,q,cl⟩=>Jb pins s σ H Q I (cl _ _ _ q rp .refl)⟩
theorem vK{ti:wk}{ix:List (Option Nat)}{j:Nat}{tf:T2}{te:E2}{σ:L2.St}{H:Hp}{Q:VK}(q:kT X.K (D6 ti ix j tf te) σ H Q):Bm (FX X.K ti) ix j (vL X.K tf) (kT X.K te) σ H Q:=by
 obtain⟨τ,G,Q2,rs,rp,q,cl⟩:=q;refine⟨τ,G,_,rs,rp,q,λitems c G1 J H1 q1 r1 k1 ok acc hacc=> ?_⟩;obtain⟨W,w0,hW,turn,done⟩:=q1 acc (r1.none hacc);have kn:Keep X.K H1 (upd H1 acc (.lst [])):=cf hacc;refine⟨λi m H'=>m=items.length-i/\i<=items.length/\∃ys G',W i ys G'/\Rep X.K H' G'/\Keep X.K H1 H',⟨_,rfl,c8 _,[],_,w0,r1.new hacc .nil,kn⟩,?_⟩;rintro i m H2 ⟨rfl,hi,ys,G2,w2,r2,k2⟩;obtain⟨hc,hacc2,hys⟩:=hW i ys G2 hi w2;obtain⟨o1,o2,o3⟩:=ok i H2 G2 k2 r2 hc;by_cases hlt:i<items.length
 ·refine .inr ⟨o1 hlt,λx H3 y=> ?_⟩;obtain⟨p,ep,k3,r3,d3⟩:=o3 x H3 hlt y;have k13:=k2.trans k3;have rs3:RSt X.K H3 ((lF ix σ).set j (some x)) (st (lE ix τ) j (some p)):=(zw ix (rs.keep (k1.trans k13))).set d3 j;refine⟨_,G2,_,rs3,r3,turn i ys G2 p ep w2,λb G4 H4 q4 r4 k4=> ?_⟩;have k14:=k13.trans k4;cases b with
  |false=>exact pK ⟨items.length-(i+1),by ac_nf,rfl,hlt,ys,G4,q4,r4,k14⟩
  |true=>
   refine q9 ⟨_,G4,_,rs3.keep k4,r4,q4,λy G5 v H5 q5 d5 r5 k5=> ?_⟩
   obtain⟨ea,w5⟩:=q5
   obtain⟨vs,hv,dv⟩:=r5.lst ea
   refine⟨vs,hv,by rw[dv.length];exact En (i5 hys),items.length-(i+1),by ac_nf,rfl,hlt,ys++[y],_,w5,r5.put hv (dv.append (.cons d5 .nil)),(k14.trans k5).trans (gQ hv)⟩
 ·have e:i=items.length:=by ac_nf
  subst e;exact .inl ⟨o2 rfl,cl _ _ _ _ (done ys G2 w2) rfl r2 (k1.trans k2)⟩
theorem ly{scope:gu}{M:List Str}{ix:List (Option Nat)}{j:Nat}{x:Str}{elt iter:Expr}{px pos:Pos}{ifs:List Expr}{ti:wk}{tf:T2}{te:E2}(S:eF X.env.scope X.N scope M ix j x=true)(hc:X.calm=true)(hi:JI X (.Name x px) iter ti)
  (hb:∀C s H fp,JF (cm X M scope C s H fp) ifs tf/\JE (cm X M scope C s H fp) elt te) (hs:autoParam (∀x,eN iter X.env x=pure x) Qe):
  JE X (.ListComp elt [⟨.Name x px,iter,ifs,0⟩] scope pos) (D6 ti ix j tf te):= .of (Fo (Eb S) hc hi.h (λC s H fp=>⟨(hb C s H fp).1.h,(hb C s H fp).2.h⟩) hs) λσ H Q q=>vK q
theorem nV{scope:gu}{M:List Str}{ix:List (Option Nat)}{j n:Nat}{x y:Str}{elt iter:Expr}{px py pos spos:Pos}{ifs:List Expr}{ti:wk}{tf:T2}{te:E2}(hN:X.N.Nodup)(hi:X.N[n]? =some y)(hy:X.env.scope.names.lookup y=some .local)
  (S:eF X.env.scope X.N scope M ix j x=true) (hc:X.calm=true) (hit:JI X (.Name x px) iter ti)
  (hb:∀C s H fp,JF (cm X M scope C s H fp) ifs tf/\JE (cm X M scope C s H fp) elt te)
  (hsw:autoParam (ir (.ListComp elt [⟨.Name x px,iter,ifs,0⟩] scope pos) (some (.Name y py)) spos.line X.env=pure true) Qa) (hs:autoParam (∀x,eN iter X.env x=pure x) Qe):
  JS X (.Assign [.Name y py] (.ListComp elt [⟨.Name x px,iter,ifs,0⟩] scope pos) spos) (E6 (D6 ti ix j tf te) (gN n)):= .of (Fi hN hi hy (Eb S) hc hit.h (λC s H fp=>⟨(hb C s H fp).1.h,(hb C s H fp).2.h⟩) hsw hs) λD σ H ⟨τ,G,D2,rs,rp,q,cl⟩=>by
 exact vK (X:=X) ⟨τ,G,_,rs,rp,q,λp G1 v H1 q1 d1 r1 k1=>cl.nx _ _ _ _ q1 ((rs.keep k1).set d1 n) r1 k1⟩
theorem wf{items:List PV}{c:Gp->Prop}{ix:List (Option Nat)}{j:Nat}{τ:jE}{tf:T2}{te:E2}{Q:K2}{G1:Gp}{acc:Addr}(f:PV->Bool)(g:PV->PV)(hz:items.length<16000000)
  (hc:∀ys,c (up G1 acc (.lst ys))) (ht:∀x ys (R:Bool->Gp->Prop),x∈items->R (f x) (up G1 acc (.lst ys))->tf (st (lE ix τ) j (some x)) (up G1 acc (.lst ys)) R)
  (he:∀x ys (R:K2),x∈items->f x=true->R (g x) (up G1 acc (.lst ys))->te (st (lE ix τ) j (some x)) (up G1 acc (.lst ys)) R)
  (hq:Q (.ref acc) (up G1 acc (.lst ((items.filter f).map g)))):EH items c ix j τ tf te Q G1 acc:=by
 refine⟨λi ys G=>ys=((items.take i).filter f).map g/\G=up G1 acc (.lst ys),⟨by simp,rfl⟩,?_,?_,?_⟩
 ·rintro i ys G hi ⟨rfl,rfl⟩;refine⟨hc _,aC,?_⟩;rw[av];exact pO (bj (List.length_filter_le _ _) (by rw[aO];ac_nf)) hz
 ·rintro i ys G x hx ⟨rfl,rfl⟩;have hm:=cy hx;have tk:items.take (i+1)=items.take i++[x]:=by rw[cK,hx];rfl
  refine ht x _ _ hm ?_;cases hf:f x with
  |true=>
   refine iE rfl ?_
   refine he x _ _ hm hf ⟨aC,?_,lg⟩
   rw[tk,List.filter_append,a9]
   simp[hf]
  |false=>
   refine jK rfl ⟨?_,rfl⟩
   rw[tk,List.filter_append]
   simp[hf]
 ·rintro ys G ⟨rfl,rfl⟩;rw[dZ];exact hq
end
def Ex:B2:=λp q G Q=>match p,q with
 | .int i,.int j=>Q (.int (i+j)) G
 | .str a,.str b=>a.length+b.length<=16000000/\Q (.str (a++b)) G
 | .tup xs,.tup ys=>xs≠[]/\xs.length+ys.length<=16000000/\Q (.tup (xs++ys)) G
 | .ref a,.ref b=>match lk G a,lk G b with
  |some ps,some qs=>ps.length+qs.length<=16000000/\∀c,G c=none->Q (.ref c) (up G c (.lst (ps++qs)))
  |_,_=>False
 | .ref a,.ro qs=>match lk G a with
  |some ps=>ps.length+qs.length<=16000000/\∀c,G c=none->Q (.ref c) (up G c (.lst (ps++qs)))
  |none=>False
 |_,_=>False
abbrev i2(C:Int->Int->Prop)(g:Int->Int->PV):B2:=λp q G Q=>match p,q with
 | .int i,.int j=>C i j/\Q (g i j) G
 |_,_=>False
abbrev EG(g:Int->Int->PV):B2:=λp q G Q=>match p,q with
 | .int i,.int j=>Q (g i j) G
 |_,_=>False
abbrev LK:B2:=λp q G Q=>match p,q with
 | .int i,.int j=>Q (.bl (decide (i<j))) G
 | .str a,.str b=>Q (.bl (decide (a.cps.toList<b.cps.toList))) G
 |_,_=>False
abbrev Ka:B2:=λp q G Q=>match p,q with
 | .int i,.int j=>Q (.bl (decide (i<=j))) G
 | .str a,.str b=>Q (.bl (!(decide (b.cps.toList<a.cps.toList)))) G
 |_,_=>False
abbrev PC:B2:=EG λi j=> .bl (decide (j<i))
abbrev L9:B2:=EG λi j=> .int (i-j)
abbrev Na:B2:=i2 (λ_ j=>0<j) λi j=> .int (i%j)
abbrev HU:B2:=i2 Ic λi j=> .int (i/j)
abbrev Mx:B2:=i2 LJ λi j=> .int (i^j.toNat)
def JV:B2:=λp q G Q=>match p,q with
 | .int i,.int j=>CMul i j/\Q (.int (i*j)) G
 | .ref a,.int k=>match G a with
  |some (.lst ps)=>(-(2^63)<=k/\k<2^63)/\ps.length*k.toNat<=16000000/\∀c,G c=none->Q (.ref c) (up G c (.lst (bz k.toNat ps).flatten))
  |_=>False
 |_,_=>False
section
variable{X:Cx}
theorem xJ{f:ae->ae->Sem ae}{C:Int->Int->Prop}{g:Int->Int->V}{g':Int->Int->PV}(h:ik X f (rI C g))(hg:∀i j H,Dv X.K H (g' i j) (g i j)):ik X f (gn X.K (i2 C g')):=by
 intro pins s σ H x y v u Q I rx ry h';obtain⟨p,q,G,Q2,d1,d2,rp,q',cl⟩:=h';unfold i2 at q';split at q'
 ·rename_i i j;obtain rfl:x= .int i:=d1;obtain rfl:y= .int j:=d2;exact h pins s σ H _ _ v u Q I rx ry ⟨i,j,rfl,rfl,q'.1,cl _ _ _ _ q'.2 (hg i j H) rp .refl⟩
 ·exact q'.elim
theorem zj{f:ae->ae->Sem ae}{g:Int->Int->V}{g':Int->Int->PV}(h:ik X f (HC g))(hg:∀i j H,Dv X.K H (g' i j) (g i j)):ik X f (gn X.K (EG g')):=by
 intro pins s σ H x y v u Q I rx ry h';obtain⟨p,q,G,Q2,d1,d2,rp,q',cl⟩:=h';unfold EG at q';split at q'
 ·rename_i i j;obtain rfl:x= .int i:=d1;obtain rfl:y= .int j:=d2;exact h pins s σ H _ _ v u Q I rx ry ⟨i,j,rfl,rfl,cl _ _ _ _ q' (hg i j H) rp .refl⟩
 ·exact q'.elim
theorem MY:ik X (dC .Sub) (gn X.K L9):=zj Jn λ_ _ _=>rfl
theorem M1:ik X (dC .Mod) (gn X.K Na):=xJ Jr λ_ _ _=>rfl
theorem JN:ik X (dC .FloorDiv) (gn X.K HU):=xJ Cp λ_ _ _=>rfl
theorem MZ:ik X (dC .Pow) (gn X.K Mx):=xJ Jp λ_ _ _=>rfl
theorem M6:ik X (bD .Gt) (gn X.K PC):=zj MG λ_ _ _=>rfl
theorem FM:ik X (bD .Lt) (gn X.K LK):=by
 intro pins s σ H x y v u Q I rx ry h;obtain⟨p,q,G,Q2,d1,d2,rp,h,cl⟩:=h;unfold LK at h;split at h
 ·rename_i i j;obtain rfl:x= .int i:=d1;obtain rfl:y= .int j:=d2;exact ME pins s σ H _ _ v u Q I rx ry ⟨i,j,rfl,rfl,cl _ _ _ _ h rfl rp .refl⟩
 ·rename_i i j;obtain rfl:x= .str i:=d1;obtain rfl:y= .str j:=d2;exact sR pins s σ H _ _ v u Q I rx ry ⟨i,j,rfl,rfl,cl _ _ _ _ h rfl rp .refl⟩
 ·exact h.elim
theorem CY:ik X (bD .LtE) (gn X.K Ka):=by
 intro pins s σ H x y v u Q I rx ry h;obtain⟨p,q,G,Q2,d1,d2,rp,h,cl⟩:=h;unfold Ka at h;split at h
 ·rename_i i j;obtain rfl:x= .int i:=d1;obtain rfl:y= .int j:=d2;exact MF pins s σ H _ _ v u Q I rx ry ⟨i,j,rfl,rfl,cl _ _ _ _ h rfl rp .refl⟩
 ·rename_i i j;obtain rfl:x= .str i:=d1;obtain rfl:y= .str j:=d2;exact z0 pins s σ H _ _ v u Q I rx ry ⟨i,j,rfl,rfl,cl _ _ _ _ h rfl rp .refl⟩
 ·exact h.elim
theorem M7:ik X (dC .Add) (gn X.K Ex):=by
 intro pins s σ H x y v u Q I rx ry h;obtain⟨p,q,G,Q2,d1,d2,rp,h,cl⟩:=h;unfold Ex at h;split at h
 ·rename_i i j;obtain rfl:x= .int i:=d1;obtain rfl:y= .int j:=d2;exact Jt pins s σ H _ _ v u Q I rx ry ⟨i,j,rfl,rfl,cl _ _ _ _ h rfl rp .refl⟩
 ·rename_i i j;obtain rfl:x= .str i:=d1;obtain rfl:y= .str j:=d2;exact xl pins s σ H _ _ v u Q I rx ry ⟨i,j,rfl,rfl,wu h.1,cl _ _ _ _ h.2 rfl rp .refl⟩
 ·rename_i xs ys;obtain⟨a,vs,rfl,sa,da⟩:=d1;obtain⟨b,us,rfl,sb,db⟩:=d2;obtain⟨ne,hl,hq⟩:=h;have la:=da.length;have lb:=db.length;refine Fw pins s σ H _ _ v u Q I rx ry ⟨a,b,vs,us,rfl,rfl,sa,sb,?_,by rw[la,lb];exact wu hl,λe=> ?_,λ_ c hc=> ?_⟩
  ·intro e;subst e;exact ne (cY (by rw[<-la];rfl))
  ·subst e;have ey:ys=[]:=cY (by rw[<-lb];rfl);subst ey;rw[dz]at hq;exact cl _ _ _ _ hq ⟨a,vs,rfl,sa,da⟩ rp .refl
  ·have kn:Keep X.K H (upd H c (.tup (vs++us))):=cf hc;exact cl _ _ _ _ hq ⟨c,_,rfl,.of eA,(da.append db).keep kn⟩ (rp.tup hc) kn
 ·rename_i a b;split at h
  ·rename_i ps qs e1 e2;obtain⟨hl,hq⟩:=h;obtain rfl:x= .ref a:=d1;obtain rfl:y= .ref b:=d2;obtain⟨vs,sa,da⟩:=gp rp e1;obtain⟨us,sb,db⟩:=gp rp e2;refine uo pins s σ H _ _ v u Q I rx ry ⟨a,b,vs,us,rfl,rfl,sa,sb,by rw[da.length,db.length];exact wu hl,λc hc=> ?_⟩;exact cl _ _ _ _ (hq c (rp.none hc)) rfl (rp.new hc (da.append db)) (cf hc)
  ·exact h.elim
 ·rename_i a qs;split at h
  ·rename_i ps e1;obtain⟨hl,hq⟩:=h;obtain rfl:x= .ref a:=d1;obtain⟨b,us,rfl,sb,db⟩:=d2;obtain⟨vs,sa,da⟩:=gp rp e1;refine uo pins s σ H _ _ v u Q I rx ry ⟨a,b,vs,us,rfl,rfl,sa,sb.sq,by rw[da.length,db.length];exact wu hl,λc hc=> ?_⟩;exact cl _ _ _ _ (hq c (rp.none hc)) rfl (rp.new hc (da.append db)) (cf hc)
  ·exact h.elim
 ·exact h.elim
theorem Dvs.rep{K:PySem.W.Frag}{H:Hp}{ps:List PV}{vs:List V}(d:Dvs K H ps vs):∀n,Dvs K H (bz n ps).flatten (bz n vs).flatten
 |0=>rfl
 |n+1=>by
  rw[cW,cW,cL,cL];exact d.append (Dvs.rep d n)
theorem M0:ik X (dC .Mult) (gn X.K JV):=by
 intro pins s σ H x y v u Q I rx ry h;obtain⟨p,q,G,Q2,d1,d2,rp,h,cl⟩:=h;unfold JV at h;split at h
 ·rename_i i j;obtain rfl:x= .int i:=d1;obtain rfl:y= .int j:=d2;exact Jq pins s σ H _ _ v u Q I rx ry ⟨i,j,rfl,rfl,h.1,cl _ _ _ _ h.2 rfl rp .refl⟩
 ·rename_i a k;split at h
  ·rename_i ps e;obtain⟨hk,hl,hq⟩:=h;obtain rfl:x= .ref a:=d1;obtain rfl:y= .int k:=d2;obtain⟨vs,ha,da⟩:=rp.lst e;refine Jo pins s σ H _ _ v u Q I rx ry ⟨a,k,vs,rfl,rfl,ha,hk.1,hk.2,by rw[da.length];exact wu hl,λc hc=> ?_⟩;exact cl _ _ _ _ (hq c (rp.none hc)) rfl (rp.new hc (da.rep _)) (cf hc)
  ·exact h.elim
 ·exact h.elim
end
abbrev NL:B2:=λp q G Q=>match p,q with
 | .non,.non=>Q (.bl true) G
 |_,.non=>Q (.bl false) G
 |_,_=>False
abbrev HM:B2:=λp q G Q=>match p,q with
 | .non,.non=>Q (.bl false) G
 |_,.non=>Q (.bl true) G
 |_,_=>False
def kO:PV->Bool
 | .non=>true
 | .bl _=>true
 | .int _=>true
 | .str _=>true
 |_=>false
def GH(x:PV)(ps:List PV):Bool:=ps.any λy=>i7 y x
def DP(neg:Bool):B2:=λp q G Q=>match q with
 | .tup ps=>kO p=true/\ps.all kO=true/\Q (.bl (if neg then !GH p ps else GH p ps)) G
 | .ref a=>match lk G a with
  |some ps=>kO p=true/\ps.all kO=true/\Q (.bl (if neg then !GH p ps else GH p ps)) G
  |none=>False
 | .str j=>match p with
  | .str i=>Q (.bl (if neg then !(!(bq j i 0 j.length 1).isEmpty)else !(bq j i 0 j.length 1).isEmpty)) G
  |_=>False
 |_=>False
section
variable{X:Cx}
theorem rn{K:PySem.W.Frag}{H:Hp}{p:PV}{v:V}(f:kO p=true)(d:Dv K H p v):mw v=true:=by
 cases p with
 |non=>obtain rfl:v= .non:=d;rfl
 |bl b=>obtain rfl:v= .bl b:=d;rfl
 |int b=>obtain rfl:v= .int b:=d;rfl
 |str b=>obtain rfl:v= .str b:=d;rfl
 |_=>cases f
theorem GK{K:PySem.W.Frag}{H:Hp}{p q:PV}{v u:V}(f1:kO p=true)(f2:kO q=true)(d1:Dv K H p v)(d2:Dv K H q u):GN v u=i7 p q:=by
 cases p with
 |non=>
  obtain rfl:v= .non:=d1
  cases q with
  |non=>obtain rfl:u= .non:=d2;rfl
  |bl b=>obtain rfl:u= .bl b:=d2;rfl
  |int b=>obtain rfl:u= .int b:=d2;rfl
  |str b=>obtain rfl:u= .str b:=d2;rfl
  |_=>cases f2
 |bl a=>
  obtain rfl:v= .bl a:=d1
  cases q with
  |non=>obtain rfl:u= .non:=d2;rfl
  |bl b=>obtain rfl:u= .bl b:=d2;rfl
  |int b=>obtain rfl:u= .int b:=d2;rfl
  |str b=>obtain rfl:u= .str b:=d2;rfl
  |_=>cases f2
 |int a=>
  obtain rfl:v= .int a:=d1
  cases q with
  |non=>obtain rfl:u= .non:=d2;rfl
  |bl b=>obtain rfl:u= .bl b:=d2;rfl
  |int b=>obtain rfl:u= .int b:=d2;rfl
  |str b=>obtain rfl:u= .str b:=d2;rfl
  |_=>cases f2
 |str a=>
  obtain rfl:v= .str a:=d1
  cases q with
  |non=>obtain rfl:u= .non:=d2;rfl
  |bl b=>obtain rfl:u= .bl b:=d2;rfl
  |int b=>obtain rfl:u= .int b:=d2;rfl
  |str b=>obtain rfl:u= .str b:=d2;rfl
  |_=>cases f2
 |_=>cases f1
theorem oa{K:PySem.W.Frag}{H:Hp}{x:PV}{xv:V}(fx:kO x=true)(dx:Dv K H x xv):∀{ps:List PV} {vs:List V},ps.all kO=true->Dvs K H ps vs->vs.all mw=true/\Ox xv vs=GH x ps
 |[],vs,_,d=>by rw[show vs=[]from d];exact⟨rfl,rfl⟩
 |p::ps,vs,f,d=>by
  obtain⟨v,r,rfl,d1,d2⟩:=d;rw[ip,aB]at f;obtain⟨h1,h2⟩:=oa fx dx f.2 d2;refine⟨by rw[ip,rn f.1 d1,h1];rfl,?_⟩;unfold Ox GH at h2⊢;rw[kQ,kQ,GK f.1 fx d1 dx,h2]
theorem M5:ik X (bD .In) (gn X.K (DP false)):=by
 intro pins s σ H x y v u Q I rx ry h;obtain⟨p,q,G,Q2,d1,d2,rp,h,cl⟩:=h;unfold DP at h;split at h
 ·rename_i ps;obtain⟨f1,f2,hq⟩:=h;obtain⟨b,us,rfl,sb,db⟩:=d2;obtain⟨g1,g2⟩:=oa f1 d1 f2 db;refine sS pins s σ H _ _ v u Q I rx ry ⟨b,us,rfl,.inr sb,rn f1 d1,g1,?_⟩;rw[g2];exact cl _ _ _ _ hq rfl rp .refl
 ·rename_i b;split at h
  ·rename_i ps e;obtain⟨f1,f2,hq⟩:=h;obtain rfl:y= .ref b:=d2;obtain⟨us,sb,db⟩:=gp rp e;obtain⟨g1,g2⟩:=oa f1 d1 f2 db;refine sS pins s σ H _ _ v u Q I rx ry ⟨b,us,rfl,.inl sb,rn f1 d1,g1,?_⟩;rw[g2];exact cl _ _ _ _ hq rfl rp .refl
  ·exact h.elim
 ·rename_i j;split at h
  ·rename_i i;obtain rfl:x= .str i:=d1;obtain rfl:y= .str j:=d2;exact Aa pins s σ H _ _ v u Q I rx ry ⟨i,j,rfl,rfl,cl _ _ _ _ h rfl rp .refl⟩
  ·exact h.elim
 ·exact h.elim
theorem FL:ik X (bD .NotIn) (gn X.K (DP true)):=by
 intro pins s σ H x y v u Q I rx ry h;obtain⟨p,q,G,Q2,d1,d2,rp,h,cl⟩:=h;unfold DP at h;split at h
 ·rename_i ps;obtain⟨f1,f2,hq⟩:=h;obtain⟨b,us,rfl,sb,db⟩:=d2;obtain⟨g1,g2⟩:=oa f1 d1 f2 db;refine nO pins s σ H _ _ v u Q I rx ry ⟨b,us,rfl,.inr sb,rn f1 d1,g1,?_⟩;rw[g2];exact cl _ _ _ _ hq rfl rp .refl
 ·rename_i b;split at h
  ·rename_i ps e;obtain⟨f1,f2,hq⟩:=h;obtain rfl:y= .ref b:=d2;obtain⟨us,sb,db⟩:=gp rp e;obtain⟨g1,g2⟩:=oa f1 d1 f2 db;refine nO pins s σ H _ _ v u Q I rx ry ⟨b,us,rfl,.inl sb,rn f1 d1,g1,?_⟩;rw[g2];exact cl _ _ _ _ hq rfl rp .refl
  ·exact h.elim
 ·rename_i j;split at h
  ·rename_i i;obtain rfl:x= .str i:=d1;obtain rfl:y= .str j:=d2;exact um pins s σ H _ _ v u Q I rx ry ⟨i,j,rfl,rfl,cl _ _ _ _ h rfl rp .refl⟩
  ·exact h.elim
 ·exact h.elim
theorem yW{K:PySem.W.Frag}{H:Hp}{p:PV}{v:V}(d:Dv K H p v):(v= .non)↔(p= .non):=by
 cases p with
 |non=>obtain rfl:v= .non:=d;simp
 |tup ps=>obtain⟨a,vs,rfl,_⟩:=d;simp
 |bl b=>obtain rfl:v= .bl b:=d;simp
 |int b=>obtain rfl:v= .int b:=d;simp
 |str b=>obtain rfl:v= .str b:=d;simp
 |ref b=>obtain rfl:v= .ref b:=d;simp
 |ty b=>obtain rfl:v= .ty b:=d;simp
 |ro b=>obtain⟨a,vs,rfl,_⟩:=d;simp
theorem M4:ik X (bD .Is) (gn X.K NL):=by
 intro pins s σ H x y v u Q I rx ry h;obtain⟨p,q,G,Q2,d1,d2,rp,h,cl⟩:=h;have z:=yW d1;cases q with
 |non=>
  obtain rfl:y= .non:=d2
  refine Js pins s σ H _ _ v u Q I rx ry ⟨rfl,?_⟩
  cases p with
  |non=>rw[decide_eq_true (z.mpr rfl)];exact cl _ _ _ _ h rfl rp .refl
  |_=>rw[decide_eq_false (λe=>nomatch (z.mp e))];exact cl _ _ _ _ h rfl rp .refl
 |_=>cases p<;>exact bV h
theorem JM:ik X (bD .IsNot) (gn X.K HM):=by
 intro pins s σ H x y v u Q I rx ry h;obtain⟨p,q,G,Q2,d1,d2,rp,h,cl⟩:=h;have z:=yW d1;cases q with
 |non=>
  obtain rfl:y= .non:=d2
  refine Fv pins s σ H _ _ v u Q I rx ry ⟨rfl,?_⟩
  cases p with
  |non=>rw[decide_eq_true (z.mpr rfl)];exact cl _ _ _ _ h rfl rp .refl
  |_=>rw[decide_eq_false (λe=>nomatch (z.mp e))];exact cl _ _ _ _ h rfl rp .refl
 |_=>cases p<;>exact bV h
end
def EF:B2:=λp q G Q=>match p,q with
 | .tup ps,.int i=>match tL ps i with
  |some x=>Q x G
  |none=>False
 | .ref a,.int i=>match lk G a with
  |some ps=>match tL ps i with
   |some x=>Q x G
   |none=>False
  |none=>False
 | .str z,.int i=>z.length<=16000000/\match tL z.cps.toList i with
  |some c=>Q (.str ⟨#[c]⟩) G
  |none=>False
 |_,_=>False
theorem HZ{K:PySem.W.Frag}{H:Hp}{ps:List PV}{vs:List V}{i:Int}{p:PV}(d:Dvs K H ps vs)(h:tL ps i=some p):∃v,tL vs i=some v/\Dv K H p v:=by
 unfold tL at h⊢;rw[d.length];cases e:DK ps.length i with
 |none=>rw[e]at h;cases h
 |some j=>
  rw[e]at h
  exact d.at h
theorem LQ{X:Cx}:LO X (gn X.K EF):=by
 intro va sl pins s σ H x y v u Q I rx ry h hs;obtain⟨p,q,G,Q2,d1,d2,rp,h,cl⟩:=h;unfold EF at h;split at h
 ·rename_i ps i;split at h
  ·rename_i z e;obtain⟨a,vs,rfl,sa,da⟩:=d1;obtain rfl:y= .int i:=d2;obtain⟨w,ew,dw⟩:=HZ da e;exact KY va sl pins s σ H _ _ v u Q I rx ry ⟨a,vs,i,w,rfl,rfl,sa,ew,cl _ _ _ _ h dw rp .refl⟩ hs
  ·exact h.elim
 ·rename_i a i;split at h
  ·rename_i ps e0;split at h
   ·rename_i z e;obtain rfl:x= .ref a:=d1;obtain rfl:y= .int i:=d2;obtain⟨vs,sa,da⟩:=gp rp e0;obtain⟨w,ew,dw⟩:=HZ da e;exact GD va sl pins s σ H _ _ v u Q I rx ry ⟨a,vs,i,w,rfl,rfl,sa,ew,cl _ _ _ _ h dw rp .refl⟩ hs
   ·exact h.elim
  ·exact h.elim
 ·rename_i z i;obtain⟨hz,h⟩:=h;split at h
  ·rename_i c e;obtain rfl:x= .str z:=d1;obtain rfl:y= .int i:=d2;exact KZ va sl pins s σ H _ _ v u Q I rx ry ⟨z,i,c,rfl,rfl,wu hz,e,cl _ _ _ _ h rfl rp .refl⟩ hs
  ·exact h.elim
 ·exact h.elim
def uv:C2:=λps G Q=>match ps with
 |[.tup xs]=>Q (.int xs.length) G
 |[.ref a]=>match lk G a with
  |some xs=>Q (.int xs.length) G
  |none=>False
 |[.str z]=>z.length<=16000000/\Q (.int z.length) G
 |_=>False
theorem en{K:PySem.W.Frag}{H:Hp}{p:PV}{vs:List V}(d:Dvs K H [p] vs):∃v,vs=[v]/\Dv K H p v:=by
 obtain⟨v,r,rfl,d1,d2⟩:=d;obtain rfl:r=[]:=d2;exact⟨v,rfl,d1⟩
theorem tY{K:PySem.W.Frag}{H:Hp}{p q:PV}{vs:List V}(d:Dvs K H [p,q] vs):∃v u,vs=[v,u]/\Dv K H p v/\Dv K H q u:=by
 obtain⟨v,r,rfl,d1,d2⟩:=d;obtain⟨u,rfl,d3⟩:=en d2;exact⟨v,u,rfl,d1,d3⟩
section
variable{X:Cx}
theorem Oa:eT X (.builtin "len") (kU X.K uv):=by
 intro pins s σ H xs us Q I rs h;obtain⟨ps,G,Q2,d,rp,h,cl⟩:=h;unfold uv at h;split at h
 ·rename_i ys;obtain⟨v,rfl,dv⟩:=en d;obtain⟨a,vs,rfl,sa,da⟩:=dv;refine ow pins s σ H _ us Q I rs ⟨a,vs,rfl,.inr sa,?_⟩;rw[da.length];exact cl _ _ _ _ h rfl rp .refl
 ·rename_i a;split at h
  ·rename_i ys e;obtain⟨v,rfl,dv⟩:=en d;obtain rfl:v= .ref a:=dv;obtain⟨vs,sa,da⟩:=gp rp e;refine ow pins s σ H _ us Q I rs ⟨a,vs,rfl,.inl sa,?_⟩;rw[da.length];exact cl _ _ _ _ h rfl rp .refl
  ·exact h.elim
 ·rename_i z;obtain⟨v,rfl,dv⟩:=en d;obtain rfl:v= .str z:=dv;exact uK pins s σ H _ us Q I rs ⟨z,rfl,wu h.1,cl _ _ _ _ h.2 rfl rp .refl⟩
 ·exact h.elim
def yZ:C2:=λps G Q=>match ps with
 |[.int i,.int j]=>Q (.int (if j>i then j else i)) G
 |_=>False
theorem Lv(hc:X.calm=true):eT X (.builtin "max") (kU X.K yZ):=by
 intro pins s σ H xs us Q I rs h;obtain⟨ps,G,Q2,d,rp,h,cl⟩:=h;unfold yZ at h;split at h
 ·rename_i i j;obtain⟨v,u,rfl,dv,du⟩:=tY d;obtain rfl:v= .int i:=dv;obtain rfl:u= .int j:=du;exact AH hc pins s σ H _ us Q I rs ⟨i,j,rfl,cl _ _ _ _ h rfl rp .refl⟩
 ·exact h.elim
def Ds:C2:=λps G Q=>match ps with
 |[.tup xs]=>∀c,G c=none->Q (.ref c) (up G c (.lst xs))
 |[.ref a]=>match G a with
  |some (.lst xs)=>∀c,G c=none->Q (.ref c) (up G c (.lst xs))
  |some (.rl xs)=>∀c,G c=none->Q (.ref c) (up G c (.lst xs))
  |some (.rng lo hi)=>(-(2^62)<=lo/\lo<2^62/\-(2^62)<=hi/\hi<2^62)/\(hi-lo).toNat<=16000000/\∀c,G c=none->Q (.ref c) (up G c (.lst (mo lo (hi-lo).toNat)))
  |_=>False
 |_=>False
theorem At{lo:Int}:∀(n:Nat) {its:List ae},its.length=n->(∀i,i<n->∃t,its[i]? =some (cZ (lo+(i:Nat)) t))->Vals ((bQ n).map fun(i:Nat)=>V.int (lo+i)) its:=by
 intro n;induction n with
 |zero=>intro its hl _;rw[cY hl];exact .nil
 |succ n ih=>
  intro its hl h
  have e:its=its.take n++[its[n]'(by ac_nf)]:=by
   have:=bg n its;rw[fj (by ac_nf),List.drop_of_length_le (by ac_nf)]at this;exact this.symm
  obtain⟨t,ht⟩:=h n (by ac_nf)
  have ht':its[n]'(by ac_nf)= .int (lo+(n:Nat)) t:=by
   rw[au (by ac_nf)]at ht;exact bt ht
  rw[e,List.range_succ,a9]
  refine Vals.append (ih (by rw[aO];ac_nf) λi hi=> ?_) (.cons ⟨t,ht'⟩ .nil)
  obtain⟨t2,h2⟩:=h i (by ac_nf)
  refine⟨t2,?_⟩
  rw[jZ]
  rw[if_pos hi]
  exact h2
theorem DN{K:PySem.W.Frag}{H:Hp}{lo:Int}:∀(l:List Nat),Dvs K H (l.map fun(i:Nat)=>PV.int (lo+i)) (l.map fun(i:Nat)=>V.int (lo+i))
 |[]=>rfl
 |i::l=>⟨_,_,rfl,rfl,DN l⟩
theorem Ee(hc:X.calm=true):eT X (.type "list") (kU X.K Ds):=by
 intro pins s σ H xs us Q I rs h;obtain⟨ps,G,Q2,d,rp,h,cl⟩:=h;unfold Ds at h;split at h
 ·rename_i ys;obtain⟨v,rfl,dv⟩:=en d;obtain⟨a,vs,rfl,sa,da⟩:=dv;exact kC pins s σ H _ us Q I rs ⟨a,vs,rfl,.inr sa,λc hc=>cl _ _ _ _ (h c (rp.none hc)) rfl (rp.new hc da) (cf hc)⟩
 ·rename_i a;obtain⟨v,rfl,dv⟩:=en d;obtain rfl:v= .ref a:=dv;split at h
  ·rename_i ys e;obtain⟨vs,sa,da⟩:=rp.lst e;exact kC pins s σ H _ us Q I rs ⟨a,vs,rfl,.inl (.of sa),λc hc=>cl _ _ _ _ (h c (rp.none hc)) rfl (rp.new hc da) (cf hc)⟩
  ·rename_i ys e;obtain⟨vs,sa,da⟩:=rp a _ e;exact kC pins s σ H _ us Q I rs ⟨a,vs,rfl,.inl (.inl sa),λc hc=>cl _ _ _ _ (h c (rp.none hc)) rfl (rp.new hc da) (cf hc)⟩
  ·rename_i lo hi e;obtain⟨⟨b1,b2,b3,b4⟩,hn,hq⟩:=h;have hr:H a=some (.rng lo hi):=rp a _ e;obtain⟨u,rfl,ru⟩:=rs.one;cases ru;obtain⟨t,u,v,hg⟩:=I.hok a _ hr;have e2:qk lo hi 1=(((hi-lo).toNat:Nat):Int):=by
    show(if(1:Int)>0 then(if lo<hi then(hi-lo-1)/1+1 else 0)else _)=_;rw[if_pos (by decide)];split<;>ac_nf
   refine call_list_range (n:=(hi-lo).toNat) (I.ok.hd hc) hg (small_one b1 b2 b3 b4) e2 (by ac_nf) λh' tk acc' c' hk hS hacc=> ?_;have hfr:H s.heap.objs.size=none:=I.hok.fresh (ap _);refine⟨.ref s.heap.objs.size,upd H s.heap.objs.size (.lst ((bQ (hi-lo).toNat).map fun(i:Nat)=>V.int (lo+i))),I.laid (t':=tk) (λb o e=>hk b o e) (ap _) ?_,rfl,cl _ _ _ _ (hq _ (rp.none hfr)) rfl (rp.new hfr (DN _)) (cf hfr)⟩;have hz:acc'.size=(hi-lo).toNat:=hacc.1;refine⟨by rw[av,iY];exact wu hn,acc'.toList,c',At _ (by simpa using hz) λi hi'=> ?_,by simpa using hS⟩;have hv:acc'[i]? =some (acc'[i]'(by ac_nf)):=by simp
   obtain⟨t,et⟩:=hacc.2 i _ hv;refine⟨t,?_⟩;have:acc'.toList[i]? =some (acc'[i]'(by ac_nf)):=by simp
   rw[this,et,Int.mul_one]
  ·exact h.elim
 ·exact h.elim
def qv:C2:=λps G Q=>match ps with
 |[.tup xs]=>Q (.tup xs) G
 |[.ref a]=>match lk G a with
  |some xs=>Q (.tup xs) G
  |none=>False
 |_=>False
theorem GW:eT X (.type "tuple") (kU X.K qv):=by
 intro pins s σ H xs us Q I rs h;obtain⟨ps,G,Q2,d,rp,h,cl⟩:=h;unfold qv at h;split at h
 ·rename_i ys;obtain⟨v,rfl,dv⟩:=en d;obtain⟨a,vs,rfl,sa,da⟩:=dv;exact mC pins s σ H _ us Q I rs ⟨a,vs,rfl,.inr ⟨sa,cl _ _ _ _ h ⟨a,vs,rfl,sa,da⟩ rp .refl⟩⟩
 ·rename_i a;obtain⟨v,rfl,dv⟩:=en d;obtain rfl:v= .ref a:=dv;split at h
  ·rename_i ys e;obtain⟨vs,sa,da⟩:=gp rp e;refine mC pins s σ H _ us Q I rs ⟨a,vs,rfl,.inl ⟨sa,λc hc=> ?_⟩⟩;have kn:Keep X.K H (upd H c (.tup vs)):=cf hc;exact cl _ _ _ _ h ⟨c,vs,rfl,.of eA,da.keep kn⟩ (rp.tup hc) kn
  ·exact h.elim
 ·exact h.elim
def pD:List PV->Option (List Bool)
 |[]=>some []
 | .bl b::r=>(pD r).map (b::·)
 |_=>none
theorem uL{K:PySem.W.Frag}{H:Hp}:∀{ps:List PV} {bs:List Bool} {vs:List V},pD ps=some bs->Dvs K H ps vs->vs=bs.map V.bl
 |[],bs,vs,h,d=>by cases h;exact d
 |p::ps,bs,vs,h,d=>by
  obtain⟨v,r,rfl,d1,d2⟩:=d;cases p with
  |bl b=>
   unfold pD at h
   cases e:pD ps with
   |none=>rw[e]at h;cases h
   |some cs=>
    rw[e]at h
    cases h
    obtain rfl:v= .bl b:=d1
    rw[uL e d2]
    rfl
  |_=>cases h
def Ew:C2:=λps G Q=>match ps with
 |[.ref a]=>match lk G a with
  |some xs=>match pD xs with
   |some bs=>Q (.bl (bs.all id)) G
   |none=>False
  |none=>False
 |_=>False
theorem Od(hc:X.calm=true):eT X (.builtin "all") (kU X.K Ew):=by
 intro pins s σ H xs us Q I rs h;obtain⟨ps,G,Q2,d,rp,h,cl⟩:=h;unfold Ew at h;split at h
 ·rename_i a;split at h
  ·rename_i ys e;split at h
   ·rename_i bs eb;obtain⟨v,rfl,dv⟩:=en d;obtain rfl:v= .ref a:=dv;obtain⟨vs,sa,da⟩:=gp rp e;obtain rfl:=uL eb da;exact Ed hc pins s σ H _ us Q I rs ⟨a,bs,rfl,sa,cl _ _ _ _ h rfl rp .refl⟩
   ·exact h.elim
  ·exact h.elim
 ·exact h.elim
def Et:C2:=λps G Q=>match ps with
 |[.ref a]=>match lk G a with
  |some xs=>match pD xs with
   |some bs=>Q (.bl (bs.any id)) G
   |none=>False
  |none=>False
 |_=>False
theorem Oc(hc:X.calm=true):eT X (.builtin "any") (kU X.K Et):=by
 intro pins s σ H xs us Q I rs h;obtain⟨ps,G,Q2,d,rp,h,cl⟩:=h;unfold Et at h;split at h
 ·rename_i a;split at h
  ·rename_i ys e;split at h
   ·rename_i bs eb;obtain⟨v,rfl,dv⟩:=en d;obtain rfl:v= .ref a:=dv;obtain⟨vs,sa,da⟩:=gp rp e;obtain rfl:=uL eb da;exact Ec hc pins s σ H _ us Q I rs ⟨a,bs,rfl,sa,cl _ _ _ _ h rfl rp .refl⟩
   ·exact h.elim
  ·exact h.elim
 ·exact h.elim
def mW:List PV->Option (List Int)
 |[]=>some []
 | .int b::r=>(mW r).map (b::·)
 |_=>none
theorem vW{K:PySem.W.Frag}{H:Hp}:∀{ps:List PV} {bs:List Int} {vs:List V},mW ps=some bs->Dvs K H ps vs->vs=bs.map V.int
 |[],bs,vs,h,d=>by cases h;exact d
 |p::ps,bs,vs,h,d=>by
  obtain⟨v,r,rfl,d1,d2⟩:=d;cases p with
  |int b=>
   unfold mW at h
   cases e:mW ps with
   |none=>rw[e]at h;cases h
   |some cs=>
    rw[e]at h
    cases h
    obtain rfl:v= .int b:=d1
    rw[vW e d2]
    rfl
  |_=>cases h
theorem xI(ns:List Int):mW (ns.map PV.int)=some ns:=by
 induction ns with
 |nil=>rfl
 |cons n ns ih=>rw[aU];unfold mW;rw[ih];rfl
theorem tG(ns:List Bool):pD (ns.map PV.bl)=some ns:=by
 induction ns with
 |nil=>rfl
 |cons n ns ih=>rw[aU];unfold pD;rw[ih];rfl
theorem ux{K:PySem.W.Frag}{H:Hp}:∀(l:List Int),Dvs K H (l.map PV.int) (l.map V.int)
 |[]=>rfl
 |i::l=>⟨_,_,rfl,rfl,ux l⟩
def zL:C2:=λps G Q=>match ps with
 |[.ref a]=>match lk G a with
  |some xs=>match mW xs with
   |some ns=>Q (.int ns.sum) G
   |none=>False
  |none=>False
 |_=>False
theorem N8(hc:X.calm=true):eT X (.builtin "sum") (kU X.K zL):=by
 intro pins s σ H xs us Q I rs h;obtain⟨ps,G,Q2,d,rp,h,cl⟩:=h;unfold zL at h;split at h
 ·rename_i a;split at h
  ·rename_i ys e;split at h
   ·rename_i ns eb;obtain⟨v,rfl,dv⟩:=en d;obtain rfl:v= .ref a:=dv;obtain⟨vs,sa,da⟩:=gp rp e;obtain rfl:=vW eb da;obtain⟨u,rfl,ru⟩:=rs.one;cases ru;obtain⟨its,r,pl,_⟩:=I.list sa;have hi:=rf r;obtain⟨zs,ez⟩:=hi.allInts.items;refine sum_intListG (I.ok.hd hc) (xs:=zs) (by rw[<-ez];exact pl.isList) λh' tk t' hk=> ?_;refine⟨.int ns.sum,H,I.kept (t':=tk) λb o e=>hk b o e,⟨t',?_⟩,cl _ _ _ _ h rfl rp .refl⟩;have e1:numsOf its=ns:=hi.numsOf;have e2:its.toArray.toList=its:=rfl;rw[<-e2,ez,nums_intItems]at e1;rw[preSum_eq,cE (by simp)];rw[<-e1]
   ·exact h.elim
  ·exact h.elim
 ·exact h.elim
end
def Px(p:PV)(G:Gp):Prop:=match p with
 | .ref a=>∃ps,G a=some (.lst ps)
 |_=>False
abbrev Lm(r:M2)(to:E2)(t:A2):E2:=λτ G Q=>to τ G λx G1=>Px x G1/\t τ G1 λps G2=>r x ps G2 Q
abbrev HV(r:M2)(to:E2):E2:=λτ G Q=>to τ G λx G1=>Px x G1/\r x [] G1 Q
abbrev Ll(r:M2)(to:E2)(t:A2):E2:=λτ G Q=>to τ G λx G1=>match x with
 | .str _=>t τ G1 λps G2=>r x ps G2 Q
 |_=>False
section
variable{X:Cx}{o e:Expr}{es:List Expr}{to:E2}{t:A2}{name:Str}{apos cpos:Pos}{id:String}{r:M2}
theorem DM{K:PySem.W.Frag}{H:Hp}{p:PV}{v:V}{G:Gp}(h:Px p G)(d:Dv K H p v)(rp:Rep K H G):Op K "list" v H:=by
 cases p with
 |ref a=>
  obtain⟨ps,e⟩:=h
  obtain rfl:v= .ref a:=d
  obtain⟨vs,hv,_⟩:=rp.lst e
  exact .inl ⟨rfl,vs,.of hv⟩
 |_=>exact h.elim
theorem HL(slot:Slot "list" name id)(hty:typeOf (.builtin id)=pure (.type "method_descriptor"))(hm:AX X id (vM X.K r))(ho:JE X o to)(ha:JA X (e::es) t)
  (hbase:autoParam (cU o name X.env (eval o X.env)=eval o X.env) Qa)
  (hfew:autoParam (((bZ cpos (ao (e::es) X.env)).all (λx=> !x.1)&&(im cpos (eI [] X.env)).all (λx=>x.1.isSome)&&decide ((e::es).length+([]:List gZ).length+(if([]:List gZ).isEmpty then 0 else 1)<30))=true) Qa)
  (hline:autoParam ((apos.endLine==cpos.line)=true) Qa) (hs:autoParam (ao (e::es) X.env=(false,eval e X.env)::ao es X.env) Qa) (hplain:autoParam ((bZ cpos (ao es X.env)).any (·.1)=false) Qa):
  JE X (.Call (.Attribute o name apos) (e::es) [] cpos) (Lm r to t):= .of (HF PySem.F.plainAttrs_list slot hty hm ho.h ha.h hbase hfew hline hs hplain) λσ H Q ⟨τ,G,Q2,rs,rp,q,cl⟩=>by
 refine⟨τ,G,_,rs,rp,q,λp G1 v H1 q1 d1 r1 k1=>⟨DM q1.1 d1 r1,τ,G1,_,rs.keep k1,r1,q1.2,λps G2 vs H2 q2 d2 r2 k2=> ?_⟩⟩;exact⟨p,ps,G2,Q2,d1.keep k2,d2,r2,q2,cl.keep (k1.trans k2)⟩
theorem KO(slot:Slot "list" name id)(hty:typeOf (.builtin id)=pure (.type "method_descriptor"))(hm:AX X id (vM X.K r))(ho:JE X o to)
  (hbase:autoParam (cU o name X.env (eval o X.env)=eval o X.env) Qa) (hline:autoParam ((apos.endLine==cpos.line)=true) Qa):
  JE X (.Call (.Attribute o name apos) [] [] cpos) (HV r to):= .of (Jk PySem.F.plainAttrs_list slot hty hm ho.h hbase hline) λσ H Q ⟨τ,G,Q2,rs,rp,q,cl⟩=>by
 refine⟨τ,G,_,rs,rp,q,λp G1 v H1 q1 d1 r1 k1=>⟨DM q1.1 d1 r1,?_⟩⟩;exact⟨p,[],G1,Q2,d1,.nil,r1,q1.2,cl.keep k1⟩
theorem HK(slot:Slot "str" name id)(hty:typeOf (.builtin id)=pure (.type "method_descriptor"))(hm:AX X id (vM X.K r))(ho:JE X o to)(ha:JA X (e::es) t)
  (hbase:autoParam (cU o name X.env (eval o X.env)=eval o X.env) Qa)
  (hfew:autoParam (((bZ cpos (ao (e::es) X.env)).all (λx=> !x.1)&&(im cpos (eI [] X.env)).all (λx=>x.1.isSome)&&decide ((e::es).length+([]:List gZ).length+(if([]:List gZ).isEmpty then 0 else 1)<30))=true) Qa)
  (hline:autoParam ((apos.endLine==cpos.line)=true) Qa) (hs:autoParam (ao (e::es) X.env=(false,eval e X.env)::ao es X.env) Qa) (hplain:autoParam ((bZ cpos (ao es X.env)).any (·.1)=false) Qa):
  JE X (.Call (.Attribute o name apos) (e::es) [] cpos) (Ll r to t):= .of (HF PySem.F.plainAttrs_str slot hty hm ho.h ha.h hbase hfew hline hs hplain) λσ H Q ⟨τ,G,Q2,rs,rp,q,cl⟩=>by
 refine⟨τ,G,_,rs,rp,q,λp G1 v H1 q1 d1 r1 k1=> ?_⟩;cases p with
 |str z=>
  obtain rfl:v= .str z:=d1
  refine⟨rfl,τ,G1,_,rs.keep k1,r1,q1,λps G2 vs H2 q2 d2 r2 k2=> ?_⟩
  exact⟨.str z,ps,G2,Q2,rfl,d2,r2,q2,cl.keep (k1.trans k2)⟩
 |_=>exact bV q1
def oy:M2:=λp ps G Q=>match p,ps with
 | .ref a,[y]=>match G a with
  |some (.lst xs)=>xs.length<16000000/\Q .non (up G a (.lst (xs++[y])))
  |_=>False
 |_,_=>False
theorem De:AX X "list.append" (vM X.K oy):=by
 intro pins s σ H x xs v us Q I rx rs h;obtain⟨p,ps,G,Q2,d,ds,rp,h,cl⟩:=h;unfold oy at h;split at h
 ·rename_i a y;split at h
  ·rename_i zs e;obtain rfl:x= .ref a:=d;obtain⟨w,rfl,dw⟩:=en ds;obtain⟨vs,hv,dv⟩:=rp.lst e;exact oP pins s σ H _ _ v us Q I rx rs ⟨a,vs,w,rfl,rfl,hv,by rw[dv.length];exact En (i5 h.1),cl _ _ _ _ h.2 rfl (rp.put hv (dv.append (.cons dw .nil))) (gQ hv)⟩
  ·exact h.elim
 ·exact h.elim
def og:M2:=λp ps G Q=>match p,ps with
 | .ref a,[.tup ys]=>match G a with
  |some (.lst xs)=>xs.length+ys.length<=16000000/\Q .non (up G a (.lst (xs++ys)))
  |_=>False
 | .ref a,[.ref b]=>match G a,G b with
  |some (.lst xs),some (.lst ys)=>xs.length+ys.length<=16000000/\Q .non (up G a (.lst (xs++ys)))
  |_,_=>False
 |_,_=>False
theorem Dd:AX X "list.extend" (vM X.K og):=by
 intro pins s σ H x xs v us Q I rx rs h;obtain⟨p,ps,G,Q2,d,ds,rp,h,cl⟩:=h;unfold og at h;split at h
 ·rename_i a ys;split at h
  ·rename_i zs e;obtain rfl:x= .ref a:=d;obtain⟨w,rfl,dw⟩:=en ds;obtain⟨b,ws,rfl,sb,db⟩:=dw;obtain⟨vs,hv,dv⟩:=rp.lst e;exact xp pins s σ H _ _ v us Q I rx rs ⟨a,b,vs,ws,rfl,rfl,hv,sb,by rw[dv.length,db.length];exact wu h.1,cl _ _ _ _ h.2 rfl (rp.put hv (dv.append db)) (gQ hv)⟩
  ·exact h.elim
 ·rename_i a b;split at h
  ·rename_i zs ys e1 e2;obtain rfl:x= .ref a:=d;obtain⟨w,rfl,dw⟩:=en ds;obtain rfl:w= .ref b:=dw;obtain⟨vs,hv,dv⟩:=rp.lst e1;obtain⟨ws,hb,db⟩:=rp.lst e2;exact Ai pins s σ H _ _ v us Q I rx rs ⟨a,b,vs,ws,rfl,rfl,hv,hb,by rw[dv.length,db.length];exact wu h.1,cl _ _ _ _ h.2 rfl (rp.put hv (dv.append db)) (gQ hv)⟩
  ·exact h.elim
 ·exact h.elim
def Ca:M2:=λp ps G Q=>match p,ps with
 | .ref a,[]=>match G a with
  |some (.lst xs)=>match xs[xs.length-1]? with
   |some y=>Q y (up G a (.lst xs.dropLast))
   |none=>False
  |_=>False
 |_,_=>False
theorem Dvs.dropLast{K:PySem.W.Frag}{H:Hp}{ps:List PV}{vs:List V}(d:Dvs K H ps vs):Dvs K H ps.dropLast vs.dropLast:=by
 rw[List.dropLast_eq_take,List.dropLast_eq_take,d.length];exact d.take _
theorem Nb:AX X "list.pop" (vM X.K Ca):=by
 intro pins s σ H x xs v us Q I rx rs h;obtain⟨p,ps,G,Q2,d,ds,rp,h,cl⟩:=h;unfold Ca at h;split at h
 ·rename_i a;split at h
  ·rename_i zs e;split at h
   ·rename_i y ey;obtain rfl:x= .ref a:=d;obtain rfl:xs=[]:=ds;obtain⟨vs,hv,dv⟩:=rp.lst e;obtain⟨w,ew,dw⟩:=dv.at ey;refine JX pins s σ H _ _ v us Q I rx rs ⟨a,vs,w,rfl,rfl,hv,by rw[dv.length];exact ew,cl _ _ _ _ h (dw.keep (gQ hv)) (rp.put hv dv.dropLast) (gQ hv)⟩
   ·exact h.elim
  ·exact h.elim
 ·exact h.elim
def mJ:List PV->Option (List Str)
 |[]=>some []
 | .str b::r=>(mJ r).map (b::·)
 |_=>none
theorem vf{K:PySem.W.Frag}{H:Hp}:∀{ps:List PV} {bs:List Str} {vs:List V},mJ ps=some bs->Dvs K H ps vs->vs=bs.map V.str
 |[],bs,vs,h,d=>by cases h;exact d
 |p::ps,bs,vs,h,d=>by
  obtain⟨v,r,rfl,d1,d2⟩:=d;cases p with
  |str b=>
   unfold mJ at h
   cases e:mJ ps with
   |none=>rw[e]at h;cases h
   |some cs=>
    rw[e]at h
    cases h
    obtain rfl:v= .str b:=d1
    rw[vf e d2]
    rfl
  |_=>cases h
theorem wO(ns:List Str):mJ (ns.map PV.str)=some ns:=by
 induction ns with
 |nil=>rfl
 |cons n ns ih=>rw[aU];unfold mJ;rw[ih];rfl
def sY:M2:=λp ps G Q=>match p,ps with
 | .str z,[.ref a]=>match lk G a with
  |some xs=>match mJ xs with
   |some ys=>(ys.map (·.length)).sum+ys.length*z.length<=16000000/\Q (.str (gs z ys)) G
   |none=>False
  |none=>False
 |_,_=>False
theorem J6:AX X "str.join" (vM X.K sY):=by
 intro pins s σ H x xs v us Q I rx rs h;obtain⟨p,ps,G,Q2,d,ds,rp,h,cl⟩:=h;unfold sY at h;split at h
 ·rename_i z a;split at h
  ·rename_i ws e;split at h
   ·rename_i ys ey;obtain rfl:x= .str z:=d;obtain⟨w,rfl,dw⟩:=en ds;obtain rfl:w= .ref a:=dw;obtain⟨vs,sa,da⟩:=gp rp e;obtain rfl:=vf ey da;exact FR pins s σ H _ _ v us Q I rx rs ⟨z,a,ys,rfl,rfl,sa,bj h.1 (by decide),cl _ _ _ _ h.2 rfl rp .refl⟩
   ·exact h.elim
  ·exact h.elim
 ·exact h.elim
end
abbrev O2:=jE->Gp->(Option Int->Gp->Prop)->Prop
def Pm(K:PySem.W.Frag)(t:O2):TO:=λσ H Q=>∃τ G Q2,RSt K H σ τ/\Rep K H G/\t τ G Q2/\∀o G' H',Q2 o G'->Rep K H' G'->Keep K H H'->Q o H'
structure JO(X:Cx)(e:Option Expr)(t:O2):Prop where
 h:PO X e (Pm X.K t)
abbrev oNo:O2:=λ_ G Q=>Q none G
abbrev CZ(t:E2):O2:=λτ G Q=>t τ G λx G1=>match x with
 | .int i=>Q (some i) G1
 |_=>False
def xN(xs:List PV)(lo hi:Option Int):List PV:=(xs.drop (HT.sIx xs.length 0 lo)).take (HT.sIx xs.length xs.length hi-HT.sIx xs.length 0 lo)
def EW:PV->Option Int->Option Int->Gp->K2->Prop:=λp lo hi G Q=>match p with
 | .tup xs=>¬(HT.sIx xs.length 0 lo=0/\HT.sIx xs.length xs.length hi=xs.length)/\Q (.tup (xN xs lo hi)) G
 | .ref a=>match lk G a with
  |some xs=>∀c,G c=none->Q (.ref c) (up G c (.lst (xN xs lo hi)))
  |none=>False
 | .str z=>z.length<=16000000/\Q (.str (bO z lo hi)) G
 |_=>False
def HJ(K:PySem.W.Frag)(r:PV->Option Int->Option Int->Gp->K2->Prop):V->Option Int->Option Int->Hp->VK->Prop:=λx lo hi H Q=>∃p G Q2,Dv K H p x/\Rep K H G/\r p lo hi G Q2/\Cl K H Q2 Q
section
variable{X:Cx}{e:Expr}{te:E2}{lo hi:Option Expr}
theorem Gj:JO X none oNo:=⟨λpins s σ H Q I ⟨τ,G,Q2,rs,rp,q,cl⟩=>Fk pins s σ H Q I (cl _ _ _ q rp .refl)⟩
theorem Gi(h:JE X e te):JO X (some e) (CZ te):=⟨λpins s σ H Q I ⟨τ,G,Q2,rs,rp,q,cl⟩=>Fj h.h pins s σ H Q I ⟨τ,G,_,rs,rp,q,λp G1 v H1 q1 d1 r1 k1=>by
 cases p with
 |int i=>
  obtain rfl:v= .int i:=d1
  exact⟨i,rfl,cl _ _ _ q1 r1 k1⟩
 |_=>exact bV q1⟩⟩
theorem HX{K:PySem.W.Frag}{H:Hp}{ps:List PV}{vs:List V}(d:Dvs K H ps vs)(lo hi:Option Int):Dvs K H (xN ps lo hi) (uG vs lo hi):=by
 unfold xN uG;rw[d.length];exact(d.drop _).take _
theorem Hz:LD X (HJ X.K EW):=by
 intro pins s σ H x v vl vu lo hi sl Q I rx hs pl pu h;obtain⟨p,G,Q2,d,rp,h,cl⟩:=h;unfold EW at h;split at h
 ·rename_i xs;obtain⟨a,vs,rfl,sa,da⟩:=d;refine IB pins s σ H _ v vl vu lo hi sl Q I rx hs pl pu ⟨a,vs,rfl,sa,by rw[da.length];exact h.1,λc hc=> ?_⟩;have kn:Keep X.K H (upd H c (.tup (uG vs lo hi))):=cf hc;exact cl _ _ _ _ h.2 ⟨c,_,rfl,.of eA,(HX da lo hi).keep kn⟩ (rp.tup hc) kn
 ·rename_i a;split at h
  ·rename_i xs e;obtain rfl:x= .ref a:=d;obtain⟨vs,sa,da⟩:=gp rp e;exact EV pins s σ H _ v vl vu lo hi sl Q I rx hs pl pu ⟨a,vs,rfl,sa,λc hc=>cl _ _ _ _ (h c (rp.none hc)) rfl (rp.new hc (HX da lo hi)) (cf hc)⟩
  ·exact h.elim
 ·rename_i z;obtain rfl:x= .str z:=d;exact IC pins s σ H _ v vl vu lo hi sl Q I rx hs pl pu ⟨z,rfl,wu h.1,cl _ _ _ _ h.2 rfl rp .refl⟩
 ·exact h.elim
end
theorem zV(its:Array ae):slicePick its none none (some (-1))=its.toList.reverse.toArray:=by
 rw[<-HT.pick_rev its];unfold slicePick;show(List.filterMap (λx=>its[x]?) (sliceRange ((its.size:Int)-1) (-1) (-1))).toArray=_;have e:sliceRange ((its.size:Int)-1) (-1) (-1)=(bQ its.size).map fun(k:Nat)=>((its.size:Int)-1+(-1)*(k:Int)).toNat:=by
  unfold sliceRange;have c:(if(-1:Int)>0 then(if((its.size:Int)-1)< -1 then(-1-((its.size:Int)-1)+ -1-1)/ -1 else 0)else(if((its.size:Int)-1)> -1 then(((its.size:Int)-1)- -1- -1-1)/(-(-1))else 0)).toNat=its.size:=by
   rw[if_neg (by decide),show(-(-1:Int))=1 from rfl,Int.ediv_one];split<;>ac_nf
  simp only[c]
 rw[e,List.filterMap_map];have f:((λx=>its[x]?)∘fun(k:Nat)=>((its.size:Int)-1+(-1)*(k:Int)).toNat)=fun(m:Nat)=>its[((its.size:Int)-1+(m:Int)*(-1)).toNat]? :=by
  funext m;show its[((its.size:Int)-1+(-1)*(m:Int)).toNat]? =_;rw[Int.mul_comm]
 rw[f]
abbrev PK(te:E2):E2:=λτ G Q=>te τ G λx G1=>match x with
 | .tup xs=>Q (.tup xs.reverse) G1
 | .ref a=>match lk G1 a with
  |some xs=>∀c,G1 c=none->Q (.ref c) (up G1 c (.lst xs.reverse))
  |none=>False
 |_=>False
section
variable{X:Cx}
theorem Nx{e:Expr}{te:E2}{k:Nat}{p1 p2 p3 pos:Pos}(he:JE X e te):JE X (.Subscript e (.Slice none none (some (.UnaryOp .USub (.Constant (.int 1) k p1) p3)) p2) pos) (PK te):=⟨by
 intro pins s σ H Q I h;obtain⟨τ,G,Q2,rs,rp,h,cl⟩:=h;refine PyProof.Rows.Subscript_ (fF (he.h pins s σ H (λv H1=>∃p G1,Dv X.K H1 p v/\Rep X.K H1 G1/\Keep X.K H H1/\(match p with
  | .tup xs=>Q2 (.tup xs.reverse) G1
  | .ref a=>match lk G1 a with
   |some xs=>∀c,G1 c=none->Q2 (.ref c) (up G1 c (.lst xs.reverse))
   |none=>False
  |_=>False)) I ⟨τ,G,_,rs,rp,h,λp G1 v H1 q d r k=>⟨p,G1,d,r,k,q⟩⟩) λv s1 ⟨x,H1,I1,r1,q,G1,d1,rp1,k1,q1⟩=> ?_)
 refine wpAny_Slice ?_;rw[evalPart_none];refine ah (ah ?_);have hm:PE X (.UnaryOp .USub (.Constant (.int 1) k p1) p3) (tUn (rU λi=> .int (-i)) (tC (.int 1))):=HE Bf Cg;refine fF (hm pins s1 σ H1 (λv H'=>v= .int (-1)/\H'=H1) I1 ⟨1,rfl,rfl,rfl⟩) λst s3 hPl=> ?_;obtain⟨v3,H3,I3,r3,e3,eh⟩:=hPl;subst e3 eh;obtain⟨tk,rfl⟩:=r3;have I4:=I3.kept (t':=s3.toks) (h':=s3.heap.push {cls:= .type "slice",data:= .fields #[.none,.none,.int (-1) tk]}) λb ob q=>ai _ q;have hfr:=I4.hok.fresh (ap _);cases q with
 |tup ps=>
  obtain⟨a,xs,rfl,hq,da⟩:=d1
  cases r1
  obtain⟨its,rv,pl,hz⟩:=I4.tuple hq
  have hl:=rv.length
  refine PyProof.Rows.tail_any (ops:=[.ref a,.ref s3.heap.objs.size]) pl.typeIs bx.lookup ?_ (by with_unfolding_all rfl)
  refine HT.getItem_tuple_rev pl (lf ..) ?_ (by rw[aq]<;>ac_nf)
  have kn:=cf (K:=X.K) (o:= .tup xs.reverse) hfr
  refine⟨.ref _,_,I4.laid (t':=s3.toks) (o:= .tup xs.reverse) (λb ob q=>ai _ q) (ap _) ?_,rfl,cl _ _ _ _ q1 ⟨_,_,rfl,.of eA,da.reverse.keep kn⟩ (rp1.tup hfr) (k1.trans kn)⟩
  exact⟨by rw[fI];exact hz,its.reverse,rv.reverse,⟨_,aF _ rfl,rfl,0,by simp⟩⟩
 |ref a=>
  dsimp only at q1
  split at q1
  ·rename_i ps e
   obtain rfl:x= .ref a:=d1
   cases r1
   obtain⟨xs,hq,da⟩:=gp rp1 e
   obtain⟨its,rv,pl,hz⟩:=I4.list hq
   have hl:=rv.length
   refine PyProof.Rows.tail_any (ops:=[.ref a,.ref s3.heap.objs.size]) pl.isList.typeIs ue.lookup ?_ (by with_unfolding_all rfl)
   refine Be pl.isList (lf ..) .none .none (.int (-1) tk) (by simp) ?_ (by rw[aq]<;>ac_nf)
   rw[zV]
   refine⟨.ref _,_,I4.laid (t':=s3.toks) (o:= .lst xs.reverse) (λb ob q=>ai _ q) (ap _) ?_,rfl,cl _ _ _ _ (q1 _ (rp1.none hfr)) rfl (rp1.new hfr da.reverse) (k1.trans (cf hfr))⟩
   exact⟨by rw[fI];exact hz,its.reverse,0,rv.reverse,by rw[aF _ rfl]⟩
  ·exact q1.elim
 |_=>exact bV q1⟩
end
def Oq(p:PV)(G:Gp):Option String:=match p with
 | .non=>some "NoneType"
 | .bl _=>some "bool"
 | .int _=>some "int"
 | .str _=>some "str"
 | .tup _=>some "tuple"
 | .ref a=>match G a with
  |some (.lst _)=>some "list"
  |some (.dK _)=>some "dict"
  |_=>none
 |_=>none
def NK(ty T:String):Bool:=ty==T||(ty== "bool" &&T== "int")
abbrev tys:List String:=["NoneType", "bool", "int", "str", "tuple", "list", "dict"]
abbrev Hc:List String:=["bool", "int", "str", "tuple", "list"]
theorem mU{K:PySem.W.Frag}{ty T:String}(h1:ty∈tys)(h2:T∈Hc):PySem.W.kitOne K (.type ty) (.type T)=some (NK ty T):=by
 simp only[aw,bu,or_false]at h1 h2;rcases h1 with rfl|rfl|rfl|rfl|rfl|rfl|rfl<;>rcases h2 with rfl|rfl|rfl|rfl|rfl<;>kernel_rfl
def vX:C2:=λps G Q=>match ps with
 |[p,.ty T]=>match Oq p G with
  |some ty=>T∈Hc/\Q (.bl (NK ty T)) G
  |none=>False
 |_=>False
section
variable{X:Cx}
theorem Ly:eT X (.builtin "isinstance") (kU X.K vX):=by
 intro pins s σ H xs us Q I rs h;obtain⟨ps,G,Q2,d,rp,h,cl⟩:=h;unfold vX at h;split at h
 ·rename_i p T;split at h
  ·rename_i ty e;obtain⟨hT,hq⟩:=h;obtain⟨v,w,rfl,dv,dw⟩:=tY d;obtain rfl:w= .ty T:=dw;cases rs with
   |cons r1 rs=>
    obtain⟨u,rfl,ru⟩:=Vals.one rs
    cases ru
    have fin:∀tk,EP X pins σ Q (.bool (NK ty T)) {s with toks:=tk}:=λtk=>⟨.bl _,H,I.tok tk,rfl,cl _ _ _ _ hq rfl rp .refl⟩
    unfold Oq at e
    split at e
    ·cases e;obtain rfl:v= .non:=dv;cases r1;exact PySem.W.kia_one PySem.W.kitx_none I.kIn fV (mU (by decide) hT) (λz=>nomatch z) fin
    ·cases e;rename_i b;obtain rfl:v= .bl b:=dv;cases r1;exact PySem.W.kia_one PySem.W.kitx_bool I.kIn fV (mU (by decide) hT) (λz=>nomatch z) fin
    ·cases e;rename_i b;obtain rfl:v= .int b:=dv;obtain⟨t,rfl⟩:=r1;exact PySem.W.kia_one PySem.W.kitx_int I.kIn fV (mU (by decide) hT) (λz=>nomatch z) fin
    ·cases e;rename_i b;obtain rfl:v= .str b:=dv;obtain⟨t,rfl⟩:=r1;exact PySem.W.kia_one PySem.W.kitx_str I.kIn fV (mU (by decide) hT) (λz=>nomatch z) fin
    ·cases e
     obtain⟨a,vs,rfl,sq,_⟩:=dv
     cases r1
     obtain⟨its,_,pl,_⟩:=I.tuple sq
     obtain⟨o,h1,h2,_⟩:=pl
     exact PySem.W.kia_one PySem.W.kitx_tuple I.kIn ⟨o,h1,h2⟩ (mU (by decide) hT) (λz=>nomatch z) fin
    ·rename_i a
     split at e
     ·cases e
      rename_i qs eg
      obtain rfl:v= .ref a:=dv
      cases r1
      obtain⟨vs,hv,_⟩:=rp.lst eg
      obtain⟨_,_,n,_,h1⟩:=(show ObjOk X.prog X.w H s.heap a (.lst vs)from I.hok a _ hv)
      exact PySem.W.kia_one PySem.W.kitx_list I.kIn ⟨_,h1,rfl⟩ (mU (by decide) hT) (λz=>nomatch z) fin
     ·cases e
      rename_i qs eg
      obtain rfl:v= .ref a:=dv
      obtain⟨vs,hv,_⟩:=rp a _ eg
      exact Ar I r1 (.dK hv) (mU (by decide) hT) fin
     ·cases e
    ·cases e
  ·exact h.elim
 ·exact h.elim
end
end L3
namespace PySem.SeqAt
open AutoSeq1 (wpAny_loadPart')
open MeetsSeq MeetsSeq2 MeetsSeq3 SeqRoads2
open Builtin Builtin.Range
end PySem.SeqAt
namespace L3
open PySem L2
section
end
section
end
abbrev Pl:U2:=λp G Q=>match p with
 | .int i=>Q (.int (-i)) G
 |_=>False
theorem LV{X:Cx}:Oi X (unaryOp .USub) (J9 X.K Pl):=by
 intro pins s σ H x v Q I rx h;obtain⟨p,G,Q2,d,rp,h,cl⟩:=h;cases p with
 |int i=>
  obtain rfl:x= .int i:=d
  exact Bf pins s σ H _ v Q I rx ⟨i,rfl,cl _ _ _ _ h rfl rp .refl⟩
 |_=>exact bV h
abbrev HN:B2:=EG λi j=> .int (i+j)
theorem sQ{X:Cx}:OB X .Add (gn X.K HN):=by
 intro pins s σ H x y v u Q I rx ry h;obtain⟨p,q,G,Q2,d1,d2,rp,h,cl⟩:=h;unfold HN EG at h;split at h
 ·rename_i i j;obtain rfl:x= .int i:=d1;obtain rfl:y= .int j:=d2;exact K7 pins s σ H _ _ v u Q I rx ry ⟨i,j,rfl,rfl,cl _ _ _ _ h rfl rp .refl⟩
 ·exact h.elim
theorem zG{prog:aG}{w:aX}{A:Around}{E:ae->ag->Prop}{s:ag}{z TI TO i1 i2:Addr}{k:Nat}{x y:Str}{t1 t2:Tok}{c1 c2:Nat}{a b:ae}{Q:ae->ag->Prop}
  (d:[z,TI,TO,i1,i2].Nodup) (hz:IsZip s.heap z TI TO .none) (hTI:fN s.heap TI (.ref i1) (.ref i2)) (hTO:fN s.heap TO a b)
  (h1:s.heap.IsStrIter i1 "str_ascii_iterator" x t1 k) (h2:s.heap.IsStrIter i2 "str_ascii_iterator" y t2 k) (hx:x.cps[k]? =some c1) (hy:y.cps[k]? =some c2)
  (hQ:∀h':Heap,IsZip h' z TI TO (jD ↑s.heap.objs.size)->(∃a b,fN h' TO a b)->h'.IsStrIter i1 "str_ascii_iterator" x t1 (k+1)->h'.IsStrIter i2 "str_ascii_iterator" y t2 (k+1)->
   fN h' s.heap.objs.size (.str ⟨#[c1]⟩ s.toks) (.str ⟨#[c2]⟩ (s.toks+1))->h'.objs.size=s.heap.objs.size+1->
   (∀c o,c≠z->c≠TO->c≠i1->c≠i2->s.heap.get? c=some o->h'.get? c=some o)->Q (.ref s.heap.objs.size) {s with heap:=h',toks:=s.toks+2}):
  wpAny (aK prog w) A (Builtin.«zip.__next__» {pos:=[.ref z]}) (λfin s'=>∃v,fin=Fin.done (Flow.ret v)/\Q v s') E s:=by
 simp only[dR,aw,bu,or_false,not_or]at d;obtain⟨⟨zTI,zTO,z1,z2⟩,⟨TITO,TI1,wk⟩,⟨TO1,TO2⟩,i12,_⟩:=d;refine aa (show wpAny _ _ (pure (aM z,([]:List ae))) _ _ _ from ah ?_);refine aa (cT hz rfl rfl ?_);refine aa (cT hz rfl rfl ?_);refine aa (gc hTI rfl ?_);refine aa (aa (cT hz rfl rfl (ah ?_)));simp only[if_true];refine aa (eP (aa (cT hz rfl rfl ?_)));refine aa (iZ hz (by simp) λh₁ hz₁ hs₁=> ?_);have hz1:IsZip h₁ z TI TO .ellipsis:=hz₁;refine aa ?_;simp only[List.zipIdx_cons,List.zipIdx_nil,List.forIn_cons,List.forIn_nil];refine aa (aa (rX ?_));change wpAny _ _ (bind (fO (aM i1)) λx=>pure (some x)) _ _ _;refine aa (mH (h1.extBut hs₁.extBut (aY z1)) hx λh₂ j2 sb2=>ah ?_);have hTO2:fN h₂ TO a b:=sb2.extBut _ _ TO1 (hs₁.extBut _ _ (aY zTO) hTO);refine aa (gc hTO2 rfl (aa (pG hTO2 λh₃ p3 sb3=>aa (wpAny_letGo (ah ?_)))));refine aa (aa (rX ?_));change wpAny _ _ (bind (fO (aM i2)) λx=>pure (some x)) _ _ _;have k2:h₃.IsStrIter i2 "str_ascii_iterator" y t2 k:=((h2.extBut hs₁.extBut (aY z2)).extBut sb2.extBut (aY i12)).extBut sb3.extBut (aY TO2);refine aa (mH k2 hy λh₄ j4 sb4=>ah ?_);have hTO4:fN h₄ TO (.str ⟨#[c1]⟩ s.toks) b:=sb4.extBut _ _ TO2 p3;refine aa (gc hTO4 rfl (aa (pG hTO4 λh₅ p5 sb5=>aa (wpAny_letGo (ah (ah ?_))))));have hTO5:fN h₅ TO (.str ⟨#[c1]⟩ s.toks) (.str ⟨#[c2]⟩ (s.toks+1)):=p5;refine aa (gc hTO5 rfl (aa (jf ?_)));have sz5:h₅.objs.size=s.heap.objs.size:=by rw[sb5.1,sb4.1,sb3.1,sb2.1,hs₁.1]
 have hz5:IsZip h₅ z TI TO .ellipsis:=sb5.extBut _ _ zTO (sb4.extBut _ _ z2 (sb3.extBut _ _ zTO (sb2.extBut _ _ z1 hz1)));rw[sz5];have zl:z<s.heap.objs.size:=aA hz;refine aa (aa (iZ (s:={s with heap:=h₅.push _,toks:=s.toks+2}) (ai _ hz5) (by simp) λh₆ hz6 sb6=> ?_));refine iZ hz6 (by simp) λh₇ hz7 sb7=>ah ⟨_,rfl,?_⟩;have up:∀c o,c≠z->h₅.get? c=some o->h₇.get? c=some o:=λc o n e=>sb7.extBut _ _ n (sb6.extBut _ _ n (ai _ e));have j1:h₅.IsStrIter i1 "str_ascii_iterator" x t1 (k+1):=((j2.extBut sb3.extBut (aY TO1)).extBut sb4.extBut i12).extBut sb5.extBut (aY TO1);have j2':h₅.IsStrIter i2 "str_ascii_iterator" y t2 (k+1):=j4.extBut sb5.extBut (aY TO2);refine hQ h₇ hz7 ⟨_,_,up _ _ (aY zTO) hTO5⟩ (j1.extBut (λc o n e=>up c o n e) (aY z1)) (j2'.extBut (λc o n e=>up c o n e) (aY z2)) ?_ ?_ ?_
 ·refine sb7.extBut _ _ (ie zl) (sb6.extBut _ _ (ie zl) ?_);rw[<-sz5];exact aF _ rfl
 ·rw[sb7.1,sb6.1,cb,sz5]
 ·intro c o n1 n2 n3 n4 e;exact up c o n1 (sb5.extBut _ _ n2 (sb4.extBut _ _ n4 (sb3.extBut _ _ n2 (sb2.extBut _ _ n3 (hs₁.extBut _ _ n1 e)))))
theorem A1{prog:aG}{w:aX}{A:Around}{E:ae->ag->Prop}{s:ag}{z TI TO i1 i2:Addr}{k:Nat}{x y:Str}{t1 t2:Tok}{c1:Nat}{a b:ae}{Q:Fin->ag->Prop}
  (hh:A.handled=none) (d:[z,TI,TO,i1,i2].Nodup) (hz:IsZip s.heap z TI TO .none) (hTI:fN s.heap TI (.ref i1) (.ref i2)) (hTO:fN s.heap TO a b)
  (h1:s.heap.IsStrIter i1 "str_ascii_iterator" x t1 k) (h2:s.heap.IsStrIter i2 "str_ascii_iterator" y t2 k) (hx:x.cps[k]? =some c1) (hy:y.cps[k]? =none)
  (hE:∀(h':Heap) (e:Addr),(∀c o,c≠z->c≠TO->c≠i1->c≠i2->s.heap.get? c=some o->h'.get? c=some o)->(∃o,h'.get? e=some o/\o.cls= .type "StopIteration")->E (.ref e) {s with heap:=h',toks:=s.toks+1}):
  wpAny (aK prog w) A (Builtin.«zip.__next__» {pos:=[.ref z]}) Q E s:=by
 simp only[dR,aw,bu,or_false,not_or]at d;obtain⟨⟨zTI,zTO,z1,z2⟩,⟨TITO,TI1,wk⟩,⟨TO1,TO2⟩,i12,_⟩:=d;refine aa (show wpAny _ _ (pure (aM z,([]:List ae))) _ _ _ from ah ?_);refine aa (cT hz rfl rfl ?_);refine aa (cT hz rfl rfl ?_);refine aa (gc hTI rfl ?_);refine aa (aa (cT hz rfl rfl (ah ?_)));simp only[if_true];refine aa (eP (aa (cT hz rfl rfl ?_)));refine aa (iZ hz (by simp) λh₁ hz₁ hs₁=> ?_);have hz1:IsZip h₁ z TI TO .ellipsis:=hz₁;refine aa ?_;simp only[List.zipIdx_cons,List.zipIdx_nil,List.forIn_cons,List.forIn_nil];refine aa (aa (rX ?_));change wpAny _ _ (bind (fO (aM i1)) λx=>pure (some x)) _ _ _;refine aa (mH (h1.extBut hs₁.extBut (aY z1)) hx λh₂ j2 sb2=>ah ?_);have hTO2:fN h₂ TO a b:=sb2.extBut _ _ TO1 (hs₁.extBut _ _ (aY zTO) hTO);refine aa (gc hTO2 rfl (aa (pG hTO2 λh₃ p3 sb3=>aa (wpAny_letGo (ah ?_)))));refine aa (aa (rX ?_));change wpAny _ _ (bind (fO (aM i2)) λx=>pure (some x)) _ _ _;have k2:h₃.IsStrIter i2 "str_ascii_iterator" y t2 k:=((h2.extBut hs₁.extBut (aY z2)).extBut sb2.extBut (aY i12)).extBut sb3.extBut (aY TO2);refine aa (wpAny_nextOf_ascii_end hh k2 hy λh₄ e sb4 he=> ?_);have hz4:IsZip h₄ z TI TO .ellipsis:=sb4 _ _ z2 (sb3.extBut _ _ zTO (sb2.extBut _ _ z1 hz1));obtain⟨o,ho,hc⟩:=he;refine iZ hz4 (by simp) λh₅ hz5 sb5=>hE h₅ e (λc u n1 n2 n3 n4 q=> ?_) ⟨o,sb5.extBut _ _ (λq=> ?_) ho,hc⟩
 ·exact sb5.extBut _ _ n1 (sb4 _ _ n4 (sb3.extBut _ _ n2 (sb2.extBut _ _ n3 (hs₁.extBut _ _ n1 q))))
 ·subst q;rw[show h₄.get? e=_ from hz4]at ho;cases ho;exact absurd (bE.inj hc) (by decide)
theorem sh{prog:aG}{w:aX}{A:Around}{E:ae->ag->Prop}{s:ag}{z TI TO i1 i2:Addr}{k:Nat}{x y:Str}{t1 t2:Tok}{c1 c2:Nat}{a b:ae}{Q:Option ae->ag->Prop}
  (d:[z,TI,TO,i1,i2].Nodup) (hz:IsZip s.heap z TI TO .none) (hTI:fN s.heap TI (.ref i1) (.ref i2)) (hTO:fN s.heap TO a b)
  (h1:s.heap.IsStrIter i1 "str_ascii_iterator" x t1 k) (h2:s.heap.IsStrIter i2 "str_ascii_iterator" y t2 k) (hx:x.cps[k]? =some c1) (hy:y.cps[k]? =some c2)
  (hQ:∀h':Heap,IsZip h' z TI TO (jD ↑s.heap.objs.size)->(∃a b,fN h' TO a b)->h'.IsStrIter i1 "str_ascii_iterator" x t1 (k+1)->h'.IsStrIter i2 "str_ascii_iterator" y t2 (k+1)->
   fN h' s.heap.objs.size (.str ⟨#[c1]⟩ s.toks) (.str ⟨#[c2]⟩ (s.toks+1))->h'.objs.size=s.heap.objs.size+1->
   (∀c o,c≠z->c≠TO->c≠i1->c≠i2->s.heap.get? c=some o->h'.get? c=some o)->Q (some (.ref s.heap.objs.size)) {s with heap:=h',toks:=s.toks+2}):
  wpAny (aK prog w) A (pyNext (.ref z)) Q E s:=by
 have hT:s.TypeIs (.ref z) "zip" :=⟨_,hz,rfl⟩;exact aa (fL (cu hT nz (cr nz hT F.entry_zip_next
  (zG d hz hTI hTO h1 h2 hx hy λh' a1 a2 a3 a4 a5 a6 a7=>ah (hQ h' a1 a2 a3 a4 a5 a6 a7)) (F.args_zip_next_1 (aM z)))))
theorem ur{prog:aG}{w:aX}{A:Around}{E:ae->ag->Prop}{s:ag}{z TI TO i1 i2:Addr}{k:Nat}{x y:Str}{t1 t2:Tok}{c1:Nat}{a b:ae}{Q:Option ae->ag->Prop}
  (hh:A.handled=none) (d:[z,TI,TO,i1,i2].Nodup) (hz:IsZip s.heap z TI TO .none) (hTI:fN s.heap TI (.ref i1) (.ref i2)) (hTO:fN s.heap TO a b)
  (h1:s.heap.IsStrIter i1 "str_ascii_iterator" x t1 k) (h2:s.heap.IsStrIter i2 "str_ascii_iterator" y t2 k) (hx:x.cps[k]? =some c1) (hy:y.cps[k]? =none)
  (hQ:∀h':Heap,(∀c o,c≠z->c≠TO->c≠i1->c≠i2->s.heap.get? c=some o->h'.get? c=some o)->Q none {s with heap:=h',toks:=s.toks+1}):
  wpAny (aK prog w) A (pyNext (.ref z)) Q E s:=by
 have hT:s.TypeIs (.ref z) "zip" :=⟨_,hz,rfl⟩;exact aa (fL (cu hT nz (cr nz hT F.entry_zip_next
  (A1 hh d hz hTI hTO h1 h2 hx hy λh' e hk ⟨o,ho,hc⟩=>aa (mI ⟨o,ho,hc⟩ isSubtype_stop (ah (hQ h' hk)))) (F.args_zip_next_1 (aM z)))))
theorem JR{M:Model}{A:Around}{E:ae->ag->Prop}{s:ag}{T:String}{vs:List ae}{Q:ae->ag->Prop}(h:Q (.ref s.heap.objs.size) {s with heap:=s.heap.push {cls:= .type T,dict:=none,data:= .fields vs.toArray}})(hs:sizeOk (.fields vs.toArray)):
  wpAny M A (Builtin.SmallTypes.newRecord (.type T) vs) Q E s:=by
 show wpAny M A (newObj (.type T) (.fields vs.toArray)) Q E s;exact bI h hs
theorem A0(x y:Str)(t1 t2:Tok)(ax:(x.cps.all λx=>decide (x<128))=true)(ay:(y.cps.all λx=>decide (x<128))=true):
  Meets (Builtin.«zip.__new__» {pos:=[.type "zip",.str x t1,.str y t2]}) λA R s=>
   ∀h':Heap,IsZip h' (s.heap.objs.size+4) (s.heap.objs.size+2) (s.heap.objs.size+3) .none->fN h' (s.heap.objs.size+2) (.ref s.heap.objs.size) (.ref (s.heap.objs.size+1))->fN h' (s.heap.objs.size+3) .none .none->
    h'.IsStrIter s.heap.objs.size "str_ascii_iterator" x t1 0->h'.IsStrIter (s.heap.objs.size+1) "str_ascii_iterator" y t2 0->h'.objs.size=s.heap.objs.size+5->(∀c o,s.heap.get? c=some o->h'.get? c=some o)->
    R (.ok (.ret (.ref (s.heap.objs.size+4)))) {s with heap:=h'}:=by
 refine Meets.of_wp λprog w A R s h=> ?_;refine aa (aa (show wpAny _ _ (pure _) _ _ _ from ah ?_));refine cq rfl (aa (pH sub_zip (cq rfl (ah (cq rfl ?_)))));refine aa (aa ?_);refine aa (aa (b6 (wpAny_pyIter_ascii ax (ah ?_))));refine aa (aa (b6 (wpAny_pyIter_ascii ay (ah ?_))));refine ah (ah ?_);refine aa (jf ?_ (show 2<=ba by decide));refine aa (jf ?_ (show 2<=ba by decide));refine aa (JR ?_ (show 5<=ba+2 by decide));have z1:=cb s.heap {cls:=bE "str_ascii_iterator",data:=eu #[fh x t1,cZ 0 0]};generalize e1:s.heap.push {cls:=bE "str_ascii_iterator",data:=eu #[fh x t1,cZ 0 0]}=g1 at*;have z2:=cb g1 {cls:=bE "str_ascii_iterator",data:=eu #[fh y t2,cZ 0 0]};have p1:g1.get? s.heap.objs.size=some {cls:=bE "str_ascii_iterator",data:=eu #[fh x t1,cZ 0 0]}:=by rw[<-e1];exact aF _ rfl
 have q1:∀c o,s.heap.get? c=some o->g1.get? c=some o:=λc o q=>by rw[<-e1];exact ai _ q
 have p2:=aF g1 (o:={cls:=bE "str_ascii_iterator",data:=eu #[fh y t2,cZ 0 0]}) rfl;have q2:∀c o,g1.get? c=some o->(g1.push {cls:=bE "str_ascii_iterator",data:=eu #[fh y t2,cZ 0 0]}).get? c=some o:=λc o q=>ai _ q;generalize g1.push {cls:=bE "str_ascii_iterator",data:=eu #[fh y t2,cZ 0 0]}=g2 at*;rw[z1]at z2 p2;refine ah ⟨_,rfl,?_⟩;have z3:=cb g2 {cls:=bE "tuple",data:=fz #[aM s.heap.objs.size,aM g1.objs.size]};have p3:=aF g2 (o:={cls:=bE "tuple",data:=fz #[aM s.heap.objs.size,aM g1.objs.size]}) rfl;have q3:∀c o,g2.get? c=some o->(g2.push {cls:=bE "tuple",data:=fz #[aM s.heap.objs.size,aM g1.objs.size]}).get? c=some o:=λc o q=>ai _ q;show R (Except.ok (Flow.ret (aM ((g2.push {cls:=bE "tuple",data:=fz #[aM s.heap.objs.size,aM g1.objs.size]}).push {cls:=bE "tuple",data:=fz #[bF,bF]}).objs.size))) {s with heap:=(((g2.push {cls:=bE "tuple",data:=fz #[aM s.heap.objs.size,aM g1.objs.size]}).push {cls:=bE "tuple",data:=fz #[bF,bF]}).push {cls:=bE "zip",data:=eu #[bF,fB false,fB false,aM g2.objs.size,aM (g2.push {cls:=bE "tuple",data:=fz #[aM s.heap.objs.size,aM g1.objs.size]}).objs.size]})};generalize g2.push {cls:=bE "tuple",data:=fz #[aM s.heap.objs.size,aM g1.objs.size]}=g3 at*;have z4:=cb g3 {cls:=bE "tuple",data:=fz #[bF,bF]};have p4:=aF g3 (o:={cls:=bE "tuple",data:=fz #[bF,bF]}) rfl;have q4:∀c o,g3.get? c=some o->(g3.push {cls:=bE "tuple",data:=fz #[bF,bF]}).get? c=some o:=λc o q=>ai _ q;generalize g3.push {cls:=bE "tuple",data:=fz #[bF,bF]}=g4 at*;have s2:g2.objs.size=s.heap.objs.size+2:=z2;have s3:g3.objs.size=s.heap.objs.size+3:=by rw[z3,s2]
 have s4:g4.objs.size=s.heap.objs.size+4:=by rw[z4,s3]
 rw[s2,s3,s4];have z5:=cb g4 {cls:=bE "zip",data:=eu #[bF,fB false,fB false,aM (s.heap.objs.size+2),aM (s.heap.objs.size+3)]};have p5:=aF g4 (o:={cls:=bE "zip",data:=eu #[bF,fB false,fB false,aM (s.heap.objs.size+2),aM (s.heap.objs.size+3)]}) rfl;have q5:∀c o,g4.get? c=some o->(g4.push {cls:=bE "zip",data:=eu #[bF,fB false,fB false,aM (s.heap.objs.size+2),aM (s.heap.objs.size+3)]}).get? c=some o:=λc o q=>ai _ q;rw[s4]at z5 p5;rw[s3]at p4;rw[s2,z1]at p3;exact h _ p5 (q5 _ _ (q4 _ _ p3)) (q5 _ _ p4) ⟨_,q5 _ _ (q4 _ _ (q3 _ _ (q2 _ _ p1))),rfl,rfl⟩ ⟨_,q5 _ _ (q4 _ _ (q3 _ _ p2)),rfl,rfl⟩ z5 λc o q=>q5 _ _ (q4 _ _ (q3 _ _ (q2 _ _ (q1 _ _ q))))
theorem AF{prog:aG}{w:aX}{A:Around}{E:ae->ag->Prop}{s:ag}{x y:Str}{t1 t2:Tok}{Q:ae->ag->Prop}(ax:(x.cps.all λx=>decide (x<128))=true)(ay:(y.cps.all λx=>decide (x<128))=true)
  (h:∀h':Heap,IsZip h' (s.heap.objs.size+4) (s.heap.objs.size+2) (s.heap.objs.size+3) .none->fN h' (s.heap.objs.size+2) (.ref s.heap.objs.size) (.ref (s.heap.objs.size+1))->fN h' (s.heap.objs.size+3) .none .none->
    h'.IsStrIter s.heap.objs.size "str_ascii_iterator" x t1 0->h'.IsStrIter (s.heap.objs.size+1) "str_ascii_iterator" y t2 0->h'.objs.size=s.heap.objs.size+5->(∀c o,s.heap.get? c=some o->h'.get? c=some o)->
    Q (.ref (s.heap.objs.size+4)) {s with heap:=h'}):
  wpAny (aK prog w) A (call (.type "zip") [.str x t1,.str y t2]) Q E s:=
 callType_new F.called_zip (by decide) (F.typeCall_zip_2 _ _) (F.newCall_zip_2 _ _) (λobj=>F.args_object_init_3 obj _ _) F.entry_zip_new (A0 x y t1 t2 ax ay)
  λh' a1 a2 a3 a4 a5 a6 a7=>⟨⟨_,a1,rfl⟩,h h' a1 a2 a3 a4 a5 a6 a7⟩
def P1(x y:Str):It:=
 ⟨λi _=>i<y.cps.size,λi H v H'=>∃p c d,H p=none/\v= .ref p/\x.cps[i]? =some c/\y.cps[i]? =some d/\H'=upd H p (.tup [.str ⟨#[c]⟩,.str ⟨#[d]⟩]),λi _=>i=y.cps.size⟩
theorem zI{P:aG}{w:aX}{K:PySem.W.Frag}{elts:List Expr}{x1:Nat}{pos:Pos}{x y:Str}{t1 t2:Tok}{z TI TO i1 i2:Addr}(d:[z,TI,TO,i1,i2].Nodup)(hlt:y.cps.size<x.cps.size):
  wj P w K (.Tuple elts x1 pos) (P1 x y) [z,TI,TO,i1,i2] z (λi h=>IsZip h z TI TO .none/\fN h TI (.ref i1) (.ref i2)/\(∃a b,fN h TO a b)/\h.IsStrIter i1 "str_ascii_iterator" x t1 i/\h.IsStrIter i2 "str_ascii_iterator" y t2 i) where
 mem:=by simp
 obj:=λi h st b hb=>by
  obtain⟨hz,hTI,⟨a,c,hTO⟩,⟨o1,e1,_,d1⟩,⟨o2,e2,_,d2⟩⟩:=st;have hb':b=z\/b=TI\/b=TO\/b=i1\/b=i2:=by simpa using hb
  rcases hb' with rfl|rfl|rfl|rfl|rfl
  ·exact⟨_,hz,λv q=>by cases (show eu _=Data.cell v from q)⟩
  ·exact⟨_,hTI,λv q=>by cases (show fz _ _=Data.cell v from q)⟩
  ·exact⟨_,hTO,λv q=>by cases (show fz _ _=Data.cell v from q)⟩
  ·exact⟨o1,e1,λv q=>by rw[d1]at q;cases q⟩
  ·exact⟨o2,e2,λv q=>by rw[d2]at q;cases q⟩
 keep:=λi h h' st k=>by
  obtain⟨hz,hTI,⟨a,c,hTO⟩,⟨o1,e1,c1,d1⟩,⟨o2,e2,c2,d2⟩⟩:=st;exact⟨k z (by simp) _ hz,k TI (by simp) _ hTI,⟨a,c,k TO (by simp) _ hTO⟩,⟨o1,k i1 (by simp) o1 e1,c1,d1⟩,⟨o2,k i2 (by simp) o2 e2,c2,d2⟩⟩
 item:=by
  intro X hP hw hK hc i pins s σ H E I hf st hg;subst hP hw hK;obtain⟨hz,hTI,⟨a,b,hTO⟩,h1,h2⟩:=st;have hi:i<y.cps.size:=hg;have hix:i<x.cps.size:=Nat.lt_trans hi hlt;have lts:∀b∈[z,TI,TO,i1,i2],b<s.heap.objs.size:=λb hb=>by
   have hb':b=z\/b=TI\/b=TO\/b=i1\/b=i2:=by simpa using hb
   rcases hb' with rfl|rfl|rfl|rfl|rfl
   ·exact aA hz
   ·exact aA hTI
   ·exact aA hTO
   ·obtain⟨o,e,_⟩:=h1;exact aA e
   ·obtain⟨o,e,_⟩:=h2;exact aA e
  refine sh d hz hTI hTO h1 h2 (c1:=x.cps[i]) (c2:=y.cps[i]) (by simp[hix]) (by simp[hi]) λg1 gz gTO gi1 gi2 gT gsz gk=> ?_;refine⟨_,rfl,wpAny_letOwnedTupleGo_zip gz λg2 hz2 hs2=> ?_⟩;replace hs2:cM z g1 g2:=hs2;have hpn:H s.heap.objs.size=none:=I.hok.fresh (ap _);have k2:∀b o,b∉[z,TI,TO,i1,i2]->s.heap.get? b=some o->g2.get? b=some o:=λb o n q=>by
   simp only[aw,bu,or_false,not_or]at n;exact hs2.extBut b o n.1 (gk b o n.1 n.2.2.1 n.2.2.2.1 n.2.2.2.2 q)
  have hTI2:fN g2 TI (.ref i1) (.ref i2):=by
   simp only[dR,aw,bu,or_false,not_or]at d;exact hs2.extBut _ _ (aY d.1.1) (gk _ _ (aY d.1.1) d.2.1.1 d.2.1.2.1 d.2.1.2.2 hTI)
  have ht2:g2.get? s.heap.objs.size=some {cls:= .type "tuple",data:= .seq #[.str ⟨#[x.cps[i]]⟩ s.toks,.str ⟨#[y.cps[i]]⟩ (s.toks+1)]}:=hs2.extBut _ _ (ie (lts z (by simp))) gT;have ne1:∀b o,H b=some o->b∉[z,TI,TO,i1,i2]:=λb o q hb=>by rw[(hf b hb).1]at q;cases q
  have lt:∀b o,s.heap.get? b=some o->b≠s.heap.objs.size:=λb o q=>aN (aA q);have hok:HOk X.prog X.w (upd H s.heap.objs.size (.tup [.str ⟨#[x.cps[i]]⟩,.str ⟨#[y.cps[i]]⟩])) g2:=λb o q=>by
   by_cases hb:b=s.heap.objs.size
   ·subst hb;rw[eA]at q;cases q;refine⟨(by show 2<=ba;decide),[.str ⟨#[x.cps[i]]⟩ s.toks,.str ⟨#[y.cps[i]]⟩ (s.toks+1)],.cons ⟨_,rfl⟩ (.cons ⟨_,rfl⟩ .nil),⟨_,ht2,rfl,_,rfl⟩⟩
   ·rw[bJ hb]at q;refine(I.hok b o q).stay (λc v hc' z=> ?_) (λc z=>by rw[bJ (cH z hpn)];exact z) λc xs z=>by rw[bJ (cH z hpn)];exact z
    refine k2 c v ?_ z;rcases hc' with rfl|hc'
    ·exact ne1 _ _ q
    ·exact ne1 _ _ hc'
  have un:Un (lW X.stack) [z,TI,TO,i1,i2] H (upd H s.heap.objs.size (.tup [.str ⟨#[x.cps[i]]⟩,.str ⟨#[y.cps[i]]⟩])) s.heap g2:=by
   refine⟨λb o q _ _ hb=>k2 b o hb q,λb o q _ _ hb=>⟨o.slots,k2 b o hb q⟩,λb o q n _=>by rw[bJ (lt b o q)];exact n,
    λb o q hb=>⟨o,k2 b o hb q⟩,λb xs q=>by rw[bJ (cH q hpn)];exact q,λb o xs q=>by rw[bJ (cH q hpn)];exact q,λb ps q=>⟨#[],by rw[bJ (cH q hpn),q];simp⟩⟩
  have I2:Inv X pins σ (upd H s.heap.objs.size (.tup [.str ⟨#[x.cps[i]]⟩,.str ⟨#[y.cps[i]]⟩])) {s with heap:=g2,toks:=s.toks+2}:=I.call' (s':={s with heap:=g2,toks:=s.toks+2}) rfl un hok I.bare λb hb=>by
   have q:=hf b hb;exact⟨q.2.2.2.1,q.2.1,q.2.2.2.2.1,q.2.2.2.2.2⟩
  obtain⟨a',b',gTO⟩:=gTO;have d':=d;simp only[dR,aw,bu,or_false,not_or]at d';refine⟨.ref s.heap.objs.size,_,I2,rfl,⟨s.heap.objs.size,x.cps[i],y.cps[i],hpn,rfl,by simp[hix],by simp[hi],rfl⟩,⟨hz2,hTI2,⟨_,_,hs2.extBut _ _ (aY d'.1.2.1) gTO⟩,gi1.extBut hs2.extBut (aY d'.1.2.2.1),gi2.extBut hs2.extBut (aY d'.1.2.2.2)⟩,λb hb=> ?_⟩;rw[bJ (aN (lts b hb))];exact(hf b hb).1
 done:=by
  intro X hP hw hK hc i pins s σ H E I hf st hg;subst hP hw hK;obtain⟨hz,hTI,⟨a,b,hTO⟩,h1,h2⟩:=st;have hi:i=y.cps.size:=hg;have hix:i<x.cps.size:=by ac_nf
  refine ur (I.ok.hd hc) d hz hTI hTO h1 h2 (c1:=x.cps[i]) (by simp[hix]) (by simp[hi]) λg2 gk=>⟨rfl,?_⟩;have k2:∀b o,b∉[z,TI,TO,i1,i2]->s.heap.get? b=some o->g2.get? b=some o:=λb o n q=>by
   simp only[aw,bu,or_false,not_or]at n;exact gk b o n.1 n.2.2.1 n.2.2.2.1 n.2.2.2.2 q
  have ne1:∀b o,H b=some o->b∉[z,TI,TO,i1,i2]:=λb o q hb=>by rw[(hf b hb).1]at q;cases q
  have hok:HOk X.prog X.w H g2:=λb o q=>by
   refine(I.hok b o q).stay (λc v hc' z=> ?_) (λc z=>z) λc xs z=>z;refine k2 c v ?_ z;rcases hc' with rfl|hc'
   ·exact ne1 _ _ q
   ·exact ne1 _ _ hc'
  have un:Un (lW X.stack) [z,TI,TO,i1,i2] H H s.heap g2:=by
   refine⟨λb o q _ _ hb=>k2 b o hb q,λb o q _ _ hb=>⟨o.slots,k2 b o hb q⟩,λb o q n _=>n,
    λb o q hb=>⟨o,k2 b o hb q⟩,λb xs q=>q,λb o xs q=>q,λb ps q=>⟨#[],by rw[q];simp⟩⟩
  exact I.call' (s':={s with heap:=g2,toks:=s.toks+1}) rfl un hok I.bare λb hb=>by
   have q:=hf b hb;exact⟨q.2.2.2.1,q.2.1,q.2.2.2.2.1,q.2.2.2.2.2⟩
 self:=λ_ _ _ _ _ st h=>wpAny_pyIter_zip st.1 h
theorem nd5(n:Nat):[n+4,n+2,n+3,n,n+1].Nodup:=by
 simp only[dR,aw,bu,or_false,not_or,not_false_eq_true,List.nodup_nil,and_true];ac_nf
def NO(ta:TA):TI:=λσ H R=>ta σ H λvs H1=>∃x y,vs=[.str x,.str y]/\(x.cps.all λx=>decide (x<128))=true/\(y.cps.all λx=>decide (x<128))=true/\y.cps.size<x.cps.size/\R (P1 x y) H1
theorem Fl{X:Cx}{a b:Expr}{ta:TA}{p pos:Pos}{elts:List Expr}{x1:Nat}{tp:Pos}(hg:Gl X "zip")(hm:X.mg "zip" =none)(ha:PA X [a,b] ta)(hs:autoParam (ao [a,b] X.env=(false,eval a X.env)::ao [b] X.env) Qa)(hpl:autoParam (((bZ pos (ao [b] X.env)).any λx=>x.fst)=false) Qa):
  PI X (.Tuple elts x1 tp) (.Call (.Name "zip" p) [a,b] [] pos) (NO ta):=by
 intro pins s σ H R I h;refine dH (mS (u:= .type "zip") I hg hm (by decide+kernel) ?_);refine fM (fF (ha pos pins s σ H _ I h) λus s1 hPl=> ?_) hs hpl;obtain⟨vs,H1,I1,r1,q1⟩:=hPl;obtain⟨x,y,rfl,ax,ay,hl,q⟩:=q1;obtain⟨u,v,rfl,⟨t1,rfl⟩,⟨t2,rfl⟩⟩:=r1.two;refine AF ax ay λh' hz hTI hTO hi1 hi2 hz' hk=> ?_;refine wpAny_pyIter_zip hz ?_;refine⟨s1.heap.objs.size+4,[s1.heap.objs.size+4,s1.heap.objs.size+2,s1.heap.objs.size+3,s1.heap.objs.size,s1.heap.objs.size+1],_,_,H1,rfl,I1.kept (t':=s1.toks) λb o e=>hk b o e,zI (t1:=t1) (t2:=t2) ?_ hl,⟨hz,hTI,⟨_,_,hTO⟩,hi1,hi2⟩,λb hb=> ?_,q⟩
 ·exact nd5 s1.heap.objs.size
 ·have hle:s1.heap.objs.size<=b:=by
   have hb':b=s1.heap.objs.size+4\/b=s1.heap.objs.size+2\/b=s1.heap.objs.size+3\/b=s1.heap.objs.size\/b=s1.heap.objs.size+1:=by simpa using hb
   rcases hb' with rfl|rfl|rfl|rfl|rfl<;>first|exact Nat.le_add_right _ _|exact ap _
  exact I1.fpOk hle (I1.hok.fresh hle)
end L3
namespace L2
open PySem PySem.Spec PyProof.Rows
abbrev Hk(x y:Str)(px py:Pos)(kt:Nat)(pt:Pos):Expr:= .Tuple [.Name x px,.Name y py] kt pt
structure qj(scope:gu)(M:List Str)(ix:List (Option Nat))(j2:Nat)(y:Str):Prop where
 tgt:M[j2]? =some y
 loc:scope.names.lookup y=some .local
 own:ix[j2]? =some none
theorem zP{c:St}{j j2:Nat}{v u:V}(h:c[j]? =some none)(h2:c[j2]? =some none):∀(i:Nat) (z:V),c[i]? =some (some z)->((c.set j (some v)).set j2 (some u))[i]? =some (some z):=λi z e=>by
 have n1:j≠i:=λq=>by subst q;rw[h]at e;cases e
 have n2:j2≠i:=λq=>by subst q;rw[h2]at e;cases e
 rw[dD n2,dD n1];exact e
def zF(K:PySem.W.Frag)(J:It)(ix:List (Option Nat))(j j2:Nat)(σ:St)(tf:TT)(te:TE)(Q:VK)(H1:Hp)(acc:Addr):Prop:=∃W:Nat->Nat->Hp->Prop,(∃m,W 0 m (upd H1 acc (.lst [])))/\∀i m H',W i m H'->
 (J.stop i H'/\Q (.ref acc) H')\/(J.go i H'/\∀x H2,J.yld i H' x H2->∃a u1 u2,x= .ref a/\SqT K H2 a [u1,u2]/\tf (((lF ix σ).set j (some u1)).set j2 (some u2)) H2 λb H3=>
  if b=true then te (((lF ix σ).set j (some u1)).set j2 (some u2)) H3 λy H4=>∃ys,H4 acc=some (.lst ys)/\ys.length<ba/\∃m',m'<m/\W (i+1) m' (upd H4 acc (.lst (ys++[y])))
  else∃m',m'<m/\W (i+1) m' H3)
def Bl(K:PySem.W.Frag)(wi:TI)(ix:List (Option Nat))(j j2:Nat)(tf:TT)(te:TE):TE:=λσ H Q=>wi σ H λJ H1=>∀acc,H1 acc=none->zF K J ix j j2 σ tf te Q H1 acc
section
variable{X:Cx}{scope:gu}{M:List Str}{ix:List (Option Nat)}{j:Nat}{x:Str}
theorem wb{elt iter:Expr}{px py pt:Pos}{kt j2:Nat}{y:Str}{ifs:List Expr}{pos:Pos}{tf:TT}{te:TE}{pins:List (Addr×Obj)}{σ:St}{H:Hp}{s:ag}{fp:List Addr}{it:Addr}{tn:Nat->Heap->Prop}{J:It}{h1:Heap}{tk:Nat}{Q:VK}{R:Result->ag->Prop}
  (S:iO X.env.scope X.N scope M ix j x) (S2:qj scope M ix j2 y) (hc:X.calm=true) (I:Inv X pins σ H s)
  (hF:PF (cm X M scope (s.heap.objs.size+1) s H fp) ifs tf) (hE:PE (cm X M scope (s.heap.objs.size+1) s H fp) elt te)
  (T:wj X.prog X.w X.K (Hk x y px py kt pt) J fp it tn) (st:tn 0 s.heap) (hf:∀b∈fp,pP X pins H b)
  (I0:Inv (cm X M scope (s.heap.objs.size+1) s H fp) [] (lF ix σ) (upd H s.heap.objs.size (.lst [])) {s with heap:=h1,toks:=tk}) (old:∀b o,s.heap.get? b=some o->h1.get? b=some o)
  (q:zF X.K J ix j j2 σ tf te Q H s.heap.objs.size)
  (hR:∀H' s',Inv (cm X M scope (s.heap.objs.size+1) s H fp) [] (lF ix σ) H' s'->Q (.ref s.heap.objs.size) H'->R (.ok .next) s'):
  codeAny (aK X.prog X.w) X.A (.compLoop (.ListComp elt [⟨Hk x y px py kt pt,iter,ifs,0⟩] scope pos) 0 (.ref it) (.ref s.heap.objs.size) (compEnvC scope (mh X.env.cells scope.names []) (s.heap.objs.size+1) X.env)) R {s with heap:=h1,toks:=tk}:=by
 obtain⟨W,⟨m0,w0⟩,turn⟩:=q;have hD:s.heap.objs.size∉fp:=λz=>by
  obtain⟨o,e,_⟩:=T.obj 0 s.heap st _ z;exact absurd (aA e) (dJ _)
 have hlt:∀b∈fp,b<s.heap.objs.size:=λb hb=>by
  obtain⟨o,e,_⟩:=T.obj 0 s.heap st b hb;exact aA e
 have stat:∀{H':Hp},(∀b∈fp,H' b=none)->∀b∈fp,pP (cm X M scope (s.heap.objs.size+1) s H fp) [] H' b:=λhn b hb=>
  ⟨hn b hb,aN (cc (hlt b hb)),I0.ok.exfs b hb,.inl hb,(I0.ok.exf b hb).2,λp hp=>absurd (show p∈([]:List (Addr×Obj))from hp) (by simp)⟩
 have own:=uH S.own σ;have own2:=uH S2.own σ;refine oq rfl (λn s'=>∃i H',Inv (cm X M scope (s.heap.objs.size+1) s H fp) [] (lF ix σ) H' s'/\tn i s'.heap/\(∀b∈fp,H' b=none)/\W i n H') ?_ m0
  ⟨0,_,I0,T.keep 0 _ _ st λb _ o e=>old b o e,λb hb=>by rw[bJ (aN (hlt b hb))];exact(hf b hb).1,w0⟩
 rintro n s3 ⟨i,H3,I3,st3,fr3,w3⟩;rcases turn i n H3 w3 with⟨stop,qn⟩|⟨go,step⟩
 ·refine bh (T.done (cm X M scope (s.heap.objs.size+1) s H fp) rfl rfl rfl hc i [] s3 (lF ix σ) H3 (λ_ _=>False) I3 (stat fr3) st3 stop) (λr s4 hPl=> ?_) (λ_ _ z=>z.elim);obtain⟨hr,I4⟩:=hPl;subst hr;exact hR H3 s4 I4 qn
 ·refine bh (T.item (cm X M scope (s.heap.objs.size+1) s H fp) rfl rfl rfl hc i [] s3 (lF ix σ) H3 (λ_ _=>False) I3 (stat fr3) st3 go) (λr s4 hPl=> ?_) (λ_ _ z=>z.elim);obtain⟨u,hr,h4⟩:=hPl;subst hr;refine bh h4 (λ_ s5 hPl=> ?_) (λ_ _ z=>z.elim);obtain⟨yv,H5,I5,r5,y5,st5,fr5⟩:=hPl;have I5':=I5.pinned (stat fr5) (T.obj _ _ st5);have pg:PG (cm X M scope (s.heap.objs.size+1) s H fp) (Hk x y px py kt pt) (NR X.K 2 (DW (rk j) (DW (rk j2) NT))):=
   Cc hc (nN (lQ S.nd S.tgt (.inl (by show(relabel scope X.env).names.lookup x=some .local;exact fH S.loc)) (.inr (by show(relabel scope X.env).names.lookup x=some .local;exact fH S.loc)))
    (nN (lQ S.nd S2.tgt (.inl (by show(relabel scope X.env).names.lookup y=some .local;exact fH S2.loc)) (.inr (by show(relabel scope X.env).names.lookup y=some .local;exact fH S2.loc))) yR))
  obtain⟨ta,u1,u2,et,sq,step⟩:=step yv _ y5;refine bh (pg _ s5 (lF ix σ) H5 yv u (λσ2 H2=>σ2=((lF ix σ).set j (some u1)).set j2 (some u2)/\H2=H5) I5' r5 ⟨ta,[u1,u2],et,sq,rfl,u1,[u2],rfl,u2,[],rfl,rfl,rfl,rfl⟩) (λ_ s6 hPl=> ?_) (λ_ _ z=>z.elim);obtain⟨σ6,H6,I6,e6,eh6⟩:=hPl;subst e6;subst eh6;have again:∀{H7:Hp} {s7:ag},Inv (cm X M scope (s.heap.objs.size+1) s H fp) ([]++oM fp s5.heap) (((lF ix σ).set j (some u1)).set j2 (some u2)) H7 s7->(∃m',m'<n/\W (i+1) m' H7)->
    ∃m,m<n/\∃i H',Inv (cm X M scope (s.heap.objs.size+1) s H fp) [] (lF ix σ) H' s7/\tn i s7.heap/\(∀b∈fp,H' b=none)/\W i m H':=fun{H7 s7} I7 ⟨m',hm,w7⟩=>by
   have Iw:Inv (cm X M scope (s.heap.objs.size+1) s H fp) [] (lF ix σ) H7 s7:=(Inv.unpinned (pins:=[]) I7).weak (by simp) (zP own own2);refine⟨m',hm,i+1,H7,Iw,T.keep _ _ _ st5 λb hb o e=>(I7.pin (b,o) (a8 _ (a8 _ (iJ hb e)))).1,λb hb=> ?_,w7⟩;obtain⟨o,e,d⟩:=T.obj _ _ st5 b hb;exact(I7.pin (b,o) (a8 _ (a8 _ (iJ hb e)))).2.1
  refine bh (hF _ s6 _ _ _ I6 step) (λb s7 hPl=> ?_) (λ_ _ z=>z.elim);obtain⟨H7,I7,q7⟩:=hPl;cases b with
  |false=>
   simp only[fX,if_false]at q7⊢
   exact again I7 q7
  |true=>
   simp only[if_true]at q7⊢
   refine bh (hE _ s7 _ H7 _ I7 q7) (λv s8 hPl=> ?_) (λ_ _ z=>z.elim)
   obtain⟨z,H8,I8,r8,ys,hy,hz,q8⟩:=hPl
   refine bh (oP (X:=cm X M scope (s.heap.objs.size+1) s H fp) _ s8 _ H8 (.ref s.heap.objs.size) [z] (.ref s.heap.objs.size) [v] (λ_ H'=>H'=upd H8 s.heap.objs.size (.lst (ys++[z]))) I8 rfl (.cons r8 .nil) ⟨s.heap.objs.size,ys,z,rfl,rfl,hy,hz,rfl⟩) (λw s9 hPl=> ?_) (λ_ _ z=>z.elim)
   obtain⟨_,H9,I9,_,e9⟩:=hPl
   subst e9
   exact again I9 q8
theorem Cj{elt iter:Expr}{px py pt:Pos}{kt j2:Nat}{y:Str}{ifs:List Expr}{pos:Pos}{wi:TI}{tf:TT}{te:TE}(S:iO X.env.scope X.N scope M ix j x)(S2:qj scope M ix j2 y)(hc:X.calm=true)(hi:PI X (Hk x y px py kt pt) iter wi)
  (hb:∀C s H fp,PF (cm X M scope C s H fp) ifs tf/\PE (cm X M scope C s H fp) elt te) (hs:autoParam (∀x,eN iter X.env x=pure x) Qe):
  PE X (.ListComp elt [⟨Hk x y px py kt pt,iter,ifs,0⟩] scope pos) (Bl X.K wi ix j j2 tf te):=by
 intro pins s σ H Q I h;rw[eval_ListComp];refine me (use:=none) rfl hs (jU λy hy e=>I.ok.has y.1 (S.free y hy e)) S.kind S.names (bh (hi pins s σ H _ I h) (λxv s₁ h₁=>bh h₁ (λit s₂ h₂=> ?_) λ_ _ e=>e) λ_ _ e=>e);obtain⟨it,fp,tn,J,H2,rfl,I2,T,st2,f2,q⟩:=h₂;refine bI (pI S.nocell (by intro y hy;simp at hy) (λh₁ hns₁ hsb₁=> ?_) S.kind);dsimp only at hns₁ hsb₁⊢;have hC:(s₂.heap.push {cls:= .type "list",dict:=none,data:= .seq ([]:List ae).toArray}).objs.size=s₂.heap.objs.size+1:=cb ..;rw[hC]at hns₁ hsb₁⊢;have below:∀b,b<s₂.heap.objs.size->b≠s₂.heap.objs.size+1:=λb hb=>aN (cc hb);have old:∀b o,s₂.heap.get? b=some o->h₁.get? b=some o:=λb o e=>hsb₁.extBut b o (below b (aA e)) (ai _ (ai _ e));have hD:h₁.get? s₂.heap.objs.size=some {cls:= .type "list",data:= .seq ([]:List ae).toArray 0}:=hsb₁.extBut _ _ (aN (dG _)) (ai _ (aF _ rfl));have ns:h₁.Ns (s₂.heap.objs.size+1) λ_=>none:=hns₁;have hft:∀b∈fp,b<s₂.heap.objs.size:=λb hb=>by
  obtain⟨o,e,_⟩:=T.obj 0 s₂.heap st2 b hb;exact aA e
 have I0:=(nk (h1:=h₁) S I2 f2 hft old hD ns).tok s₂.toks;have hfr:H2 s₂.heap.objs.size=none:=I2.hok.fresh (ap _);have loop:codeAny (aK X.prog X.w) X.A (.compLoop (.ListComp elt [⟨Hk x y px py kt pt,iter,ifs,0⟩] scope pos) 0 (.ref it) (.ref s₂.heap.objs.size) (compEnvC scope (mh X.env.cells scope.names []) (s₂.heap.objs.size+1) X.env))
   (compPost (aK X.prog X.w) X.A X.xe none (EP X pins σ Q) (.ref s₂.heap.objs.size) (s₂.heap.objs.size+1)) {s₂ with heap:=h₁,toks:=s₂.toks}:=by
  refine wb (Q:=Q) S S2 hc I2 (hb _ _ _ _).1 (hb _ _ _ _).2 T st2 f2 I0 old (q _ hfr) λH' s' I' qq=> ?_;obtain⟨m,hn,_⟩:=I'.loc;exact⟨m,hn,λh' hb'=>⟨.ref s₂.heap.objs.size,H',rF I2 (eR _) f2 I' hb',rfl,qq⟩⟩
 exact ot loop (T.self _ 0 _ _ _ (T.keep 0 _ _ st2 λb _ o e=>old b o e) loop)
end
end L2
namespace L3
open PySem L2
theorem eQ{k:Nat}{A:Around}(r:Room k A):A.units+200<cLine:=by have:=r.un;ac_nf
theorem jB{α:Type}{P Q:α->Prop}{t:α}(a:P t)(b:Q t):∃t,P t/\Q t:=⟨t,a,b⟩
theorem pC:bN "isinstance" =some (.builtin "isinstance"):=by decide+kernel
theorem rK:bN "int" =some (.type "int"):=by decide+kernel
theorem AN:bN "bool" =some (.type "bool"):=by decide+kernel
theorem wg:bN "str" =some (.type "str"):=by decide+kernel
theorem rJ:bN "tuple" =some (.type "tuple"):=by decide+kernel
theorem AM:bN "list" =some (.type "list"):=by decide+kernel
theorem El:bN "all" =some (.builtin "all"):=by decide+kernel
theorem Ek:bN "any" =some (.builtin "any"):=by decide+kernel
theorem Ej:bN "max" =some (.builtin "max"):=by decide+kernel
theorem Eg:bN "sum" =some (.builtin "sum"):=by decide+kernel
theorem pB:bN "sorted" =some (.builtin "sorted"):=by decide+kernel
def Em:List Str:=["isinstance", "int", "bool", "str", "tuple", "list", "range", "all", "any", "max", "sum", "sorted", "len", "enumerate", "min", "zip", "set", "dict"]
def BN(mg:Str->Option ae):Prop:=∀x:Str,Em.contains x=true->mg x=none
theorem BN.len{mg:Str->Option ae}(h:BN mg):mg "len" =none:=h _ (by decide+kernel)
theorem BN.isinstance{mg:Str->Option ae}(h:BN mg):mg "isinstance" =none:=h _ (by decide+kernel)
theorem BN.int{mg:Str->Option ae}(h:BN mg):mg "int" =none:=h _ (by decide+kernel)
theorem BN.bool{mg:Str->Option ae}(h:BN mg):mg "bool" =none:=h _ (by decide+kernel)
theorem BN.str{mg:Str->Option ae}(h:BN mg):mg "str" =none:=h _ (by decide+kernel)
theorem BN.tuple{mg:Str->Option ae}(h:BN mg):mg "tuple" =none:=h _ (by decide+kernel)
theorem BN.list{mg:Str->Option ae}(h:BN mg):mg "list" =none:=h _ (by decide+kernel)
theorem BN.range{mg:Str->Option ae}(h:BN mg):mg "range" =none:=h _ (by decide+kernel)
theorem BN.all{mg:Str->Option ae}(h:BN mg):mg "all" =none:=h _ (by decide+kernel)
theorem BN.any{mg:Str->Option ae}(h:BN mg):mg "any" =none:=h _ (by decide+kernel)
theorem BN.max{mg:Str->Option ae}(h:BN mg):mg "max" =none:=h _ (by decide+kernel)
theorem BN.sum{mg:Str->Option ae}(h:BN mg):mg "sum" =none:=h _ (by decide+kernel)
theorem BN.sorted{mg:Str->Option ae}(h:BN mg):mg "sorted" =none:=h _ (by decide+kernel)
section
variable{X:Cx}{e:Expr}{es:List Expr}{t:A2}{p pos:Pos}
theorem KA(B:BN X.mg)(ha:JA X (e::es) t)(hg:autoParam (Gl X "len") Qa)(he:autoParam (ao (e::es) X.env=(false,eval e X.env)::ao es X.env) Qa)(hpl:autoParam ((bZ pos (ao es X.env)).any (·.1)=false) Qa):JE X (.Call (.Name "len" p) (e::es) [] pos) (v7 uv t):=jj Oa B.len PySem.boot_len ha hg (by decide) (by decide) he hpl
theorem Gu(B:BN X.mg)(ha:JA X (e::es) t)(hg:autoParam (Gl X "isinstance") Qa)(he:autoParam (ao (e::es) X.env=(false,eval e X.env)::ao es X.env) Qa)(hpl:autoParam ((bZ pos (ao es X.env)).any (·.1)=false) Qa):JE X (.Call (.Name "isinstance" p) (e::es) [] pos) (v7 vX t):=jj Ly B.isinstance pC ha hg (by decide) (by decide) he hpl
theorem KD(B:BN X.mg)(hc:X.calm=true)(ha:JA X (e::es) t)(hg:autoParam (Gl X "all") Qa)(he:autoParam (ao (e::es) X.env=(false,eval e X.env)::ao es X.env) Qa)(hpl:autoParam ((bZ pos (ao es X.env)).any (·.1)=false) Qa):JE X (.Call (.Name "all" p) (e::es) [] pos) (v7 Ew t):=jj (Od hc) B.all El ha hg (by decide) (by decide) he hpl
theorem KC(B:BN X.mg)(hc:X.calm=true)(ha:JA X (e::es) t)(hg:autoParam (Gl X "any") Qa)(he:autoParam (ao (e::es) X.env=(false,eval e X.env)::ao es X.env) Qa)(hpl:autoParam ((bZ pos (ao es X.env)).any (·.1)=false) Qa):JE X (.Call (.Name "any" p) (e::es) [] pos) (v7 Et t):=jj (Oc hc) B.any Ek ha hg (by decide) (by decide) he hpl
theorem Ky(B:BN X.mg)(hc:X.calm=true)(ha:JA X (e::es) t)(hg:autoParam (Gl X "max") Qa)(he:autoParam (ao (e::es) X.env=(false,eval e X.env)::ao es X.env) Qa)(hpl:autoParam ((bZ pos (ao es X.env)).any (·.1)=false) Qa):JE X (.Call (.Name "max" p) (e::es) [] pos) (v7 yZ t):=jj (Lv hc) B.max Ej ha hg (by decide) (by decide) he hpl
theorem Kv(B:BN X.mg)(hc:X.calm=true)(ha:JA X (e::es) t)(hg:autoParam (Gl X "sum") Qa)(he:autoParam (ao (e::es) X.env=(false,eval e X.env)::ao es X.env) Qa)(hpl:autoParam ((bZ pos (ao es X.env)).any (·.1)=false) Qa):JE X (.Call (.Name "sum" p) (e::es) [] pos) (v7 zL t):=jj (N8 hc) B.sum Eg ha hg (by decide) (by decide) he hpl
theorem DF(B:BN X.mg)(ha:JA X (e::es) t)(hg:autoParam (Gl X "tuple") Qa)(he:autoParam (ao (e::es) X.env=(false,eval e X.env)::ao es X.env) Qa)(hpl:autoParam ((bZ pos (ao es X.env)).any (·.1)=false) Qa):JE X (.Call (.Name "tuple" p) (e::es) [] pos) (v7 qv t):=lz GW B.tuple rJ ha hg (by decide) (by decide) he hpl
theorem Kp(B:BN X.mg)(hg:autoParam (Gl X "int") Qa):JE X (.Name "int" pos) (eC (.ty "int")):=DH B.int rK hg
theorem Gk(B:BN X.mg)(hg:autoParam (Gl X "bool") Qa):JE X (.Name "bool" pos) (eC (.ty "bool")):=DH B.bool AN hg
theorem Ko(B:BN X.mg)(hg:autoParam (Gl X "str") Qa):JE X (.Name "str" pos) (eC (.ty "str")):=DH B.str wg hg
theorem DC(B:BN X.mg)(hg:autoParam (Gl X "tuple") Qa):JE X (.Name "tuple" pos) (eC (.ty "tuple")):=DH B.tuple rJ hg
end
section
variable{X:Cx}{a b:Expr}{ta tb:E2}{pos:Pos}
theorem KG(ha:JE X a ta)(hb:JE X b tb):JE X (.BinOp a .Sub b pos) (nr L9 ta tb):=vV MY ha hb
theorem KL(ha:JE X a ta)(hb:JE X b tb):JE X (.BinOp a .Mult b pos) (nr JV ta tb):=vV M0 ha hb
theorem KM(ha:JE X a ta)(hb:JE X b tb):JE X (.BinOp a .Mod b pos) (nr Na ta tb):=vV M1 ha hb
theorem Gw(ha:JE X a ta)(hb:JE X b tb):JE X (.BinOp a .FloorDiv b pos) (nr HU ta tb):=vV JN ha hb
theorem KH(ha:JE X a ta)(hb:JE X b tb):JE X (.BinOp a .Pow b pos) (nr Mx ta tb):=vV MZ ha hb
theorem Nu(hu:X.A.units+200<cLine)(ha:JE X a ta)(hb:JE X b tb):JE X (.Compare a [.Eq] [b] pos) (nr Li ta tb):=pz (Cq hu) ha hb (jS _)
theorem No(hu:X.A.units+200<cLine)(ha:JE X a ta)(hb:JE X b tb):JE X (.Compare a [.NotEq] [b] pos) (nr JU ta tb):=pz (Co hu) ha hb (jS _)
theorem Np(ha:JE X a ta)(hb:JE X b tb):JE X (.Compare a [.Lt] [b] pos) (nr LK ta tb):=pz FM ha hb (jS _)
theorem Nq(ha:JE X a ta)(hb:JE X b tb):JE X (.Compare a [.LtE] [b] pos) (nr Ka ta tb):=pz CY ha hb (jS _)
theorem Nt(ha:JE X a ta)(hb:JE X b tb):JE X (.Compare a [.Gt] [b] pos) (nr PC ta tb):=pz M6 ha hb (jS _)
theorem Nr(ha:JE X a ta)(hb:JE X b tb)(hm:eG .In b=false):JE X (.Compare a [.In] [b] pos) (nr (DP false) ta tb):=pz M5 ha hb hm
theorem DD(ha:JE X a ta)(hb:JE X b tb)(hm:eG .NotIn b=false):JE X (.Compare a [.NotIn] [b] pos) (nr (DP true) ta tb):=pz FL ha hb hm
theorem Nl(hu:X.A.units+200<cLine)(ha:JE X a ta)(hb:JE X b tb):JT X (.Compare a [.Eq] [b] pos) (zK (nr Li ta tb)):=mV (Cq hu) ha hb (jS _)
theorem Nh(hu:X.A.units+200<cLine)(ha:JE X a ta)(hb:JE X b tb):JT X (.Compare a [.NotEq] [b] pos) (zK (nr JU ta tb)):=mV (Co hu) ha hb (jS _)
theorem Ni(ha:JE X a ta)(hb:JE X b tb):JT X (.Compare a [.Lt] [b] pos) (zK (nr LK ta tb)):=mV FM ha hb (jS _)
theorem Nk(ha:JE X a ta)(hb:JE X b tb):JT X (.Compare a [.Gt] [b] pos) (zK (nr PC ta tb)):=mV M6 ha hb (jS _)
theorem Nj(ha:JE X a ta)(hb:JE X b tb)(hm:eG .In b=false):JT X (.Compare a [.In] [b] pos) (zK (nr (DP false) ta tb)):=mV M5 ha hb hm
theorem Kk(ha:JE X a ta)(hb:JE X b tb)(hm:eG .Is b=false):JT X (.Compare a [.Is] [b] pos) (zK (nr NL ta tb)):=mV M4 ha hb hm
theorem Gf(ha:JE X a ta)(hb:JE X b tb)(hm:eG .IsNot b=false):JT X (.Compare a [.IsNot] [b] pos) (zK (nr HM ta tb)):=mV JM ha hb hm
theorem ND(ha:JE X a ta)(hb:JE X b tb)(hs:uO b:=by exact λ_ _=>rfl):JE X (.Subscript a b pos) (nr EF ta tb):=Pu LQ ha hb hs
theorem Pp(h:JW X a tA):JT X a tA:=h.jt
end
section
variable{X:Cx}{o e:Expr}{to:E2}{t:A2}{apos cpos:Pos}
theorem Ap(ho:JE X o to)(ha:JA X [e] t)
  (hbase:autoParam (cU o "append" X.env (eval o X.env)=eval o X.env) Qa) (hfew:autoParam (((bZ cpos (ao [e] X.env)).all (λx=> !x.1)&&(im cpos (eI [] X.env)).all (λx=>x.1.isSome)&&decide (([e]:List Expr).length+([]:List gZ).length+(if([]:List gZ).isEmpty then 0 else 1)<30))=true) Qa)
  (hline:autoParam ((apos.endLine==cpos.line)=true) Qa) (hs:autoParam (ao [e] X.env=(false,eval e X.env)::ao [] X.env) Qa):JE X (.Call (.Attribute o "append" apos) [e] [] cpos) (Lm oy to t):=HL PySem.F.slot_list_append PySem.F.type_list_append De ho ha hbase hfew hline hs rfl
theorem Ao(ho:JE X o to)(ha:JA X [e] t)
  (hbase:autoParam (cU o "extend" X.env (eval o X.env)=eval o X.env) Qa) (hfew:autoParam (((bZ cpos (ao [e] X.env)).all (λx=> !x.1)&&(im cpos (eI [] X.env)).all (λx=>x.1.isSome)&&decide (([e]:List Expr).length+([]:List gZ).length+(if([]:List gZ).isEmpty then 0 else 1)<30))=true) Qa)
  (hline:autoParam ((apos.endLine==cpos.line)=true) Qa) (hs:autoParam (ao [e] X.env=(false,eval e X.env)::ao [] X.env) Qa):JE X (.Call (.Attribute o "extend" apos) [e] [] cpos) (Lm og to t):=HL PySem.F.slot_list_extend PySem.F.type_list_extend Dd ho ha hbase hfew hline hs rfl
theorem Gn(ho:JE X o to)(ha:JA X [e] t)
  (hbase:autoParam (cU o "join" X.env (eval o X.env)=eval o X.env) Qa) (hfew:autoParam (((bZ cpos (ao [e] X.env)).all (λx=> !x.1)&&(im cpos (eI [] X.env)).all (λx=>x.1.isSome)&&decide (([e]:List Expr).length+([]:List gZ).length+(if([]:List gZ).isEmpty then 0 else 1)<30))=true) Qa)
  (hline:autoParam ((apos.endLine==cpos.line)=true) Qa) (hs:autoParam (ao [e] X.env=(false,eval e X.env)::ao [] X.env) Qa):JE X (.Call (.Attribute o "join" apos) [e] [] cpos) (Ll sY to t):=HK PySem.F.slot_str_join PySem.F.type_str_join J6 ho ha hbase hfew hline hs rfl
theorem Kq(ho:JE X o to)(hbase:autoParam (cU o "pop" X.env (eval o X.env)=eval o X.env) Qa)(hline:autoParam ((apos.endLine==cpos.line)=true) Qa):JE X (.Call (.Attribute o "pop" apos) [] [] cpos) (HV Ca to):=KO PySem.F.slot_list_pop PySem.F.type_list_pop Nb ho hbase hline
end
def r9(x y:Str):List PV:=(bQ y.cps.size).map fun(i:Nat)=> .tup [.str ⟨#[(x.cps[i]?).getD 0]⟩,.str ⟨#[(y.cps[i]?).getD 0]⟩]
theorem pc(x y:Str):(r9 x y).length=y.cps.size:=by unfold r9;simp
theorem K0{K:PySem.W.Frag}{H1:Hp}{x y:Str}:AU K H1 (P1 x y) (r9 x y) (λ_=>True):=λi H G k r _=>by
 have hl:=pc x y;refine⟨λhi=>by rw[hl]at hi;exact hi,λhi=>by rw[hl]at hi;exact hi,λv H' hi h=> ?_⟩;obtain⟨p,c,d,hp,rfl,hc,hd,rfl⟩:=h;have kn:Keep K H (upd H p (.tup [.str ⟨#[c]⟩,.str ⟨#[d]⟩])):=cf hp;refine⟨.tup [.str ⟨#[c]⟩,.str ⟨#[d]⟩],?_,kn,r.tup hp,p,_,rfl,.of eA,.cons rfl (.cons rfl .nil)⟩;unfold r9;rw[br,jF (by ac_nf)];show some (PV.tup [.str ⟨#[(x.cps[i]?).getD 0]⟩,.str ⟨#[(y.cps[i]?).getD 0]⟩])=_;rw[hc,hd];rfl
abbrev itZ(t:A2):wk:=λτ G R=>t τ G λps G1=>match ps with
 |[.str x,.str y]=>(x.cps.all λx=>decide (x<128))=true/\(y.cps.all λx=>decide (x<128))=true/\y.cps.size<x.cps.size/\R (r9 x y) (λ_=>True) G1
 |_=>False
theorem Ks{X:Cx}{a b:Expr}{ta:A2}{p pos tp:Pos}{elts:List Expr}{x1:Nat}(hm:X.mg "zip" =none)(ha:JA X [a,b] ta)(hg:autoParam (Gl X "zip") Qa)(hs:autoParam (ao [a,b] X.env=(false,eval a X.env)::ao [b] X.env) Qa)(hpl:autoParam (((bZ pos (ao [b] X.env)).any λx=>x.fst)=false) Qa):
  JI X (.Tuple elts x1 tp) (.Call (.Name "zip" p) [a,b] [] pos) (itZ ta):= .of (Fl hg hm ha.h hs hpl) λσ H R ⟨τ,G,R2,rs,rp,h,cl⟩=>by
 refine⟨τ,G,_,rs,rp,h,λps G1 vs H1 q d r k=> ?_⟩;split at q
 ·rename_i x y;obtain⟨v,vr,rfl,d1,u,vr2,rfl,d2,d3⟩:=d;obtain rfl:vr2=[]:=d3;obtain rfl:v= .str x:=d1;obtain rfl:u= .str y:=d2;obtain⟨ax,ay,hl,q⟩:=q;exact⟨x,y,rfl,ax,ay,hl,cl _ _ _ _ _ q r k K0⟩
 ·exact q.elim
def Oe(items:List PV)(c:Gp->Prop)(ix:List (Option Nat))(j j2:Nat)(τ:jE)(tf:T2)(te:E2)(Q:K2)(G1:Gp)(acc:Addr):Prop:=
 ∃W:Nat->List PV->Gp->Prop,W 0 [] (up G1 acc (.lst []))/\(∀i ys G,i<=items.length->W i ys G->c G/\G acc=some (.lst ys)/\ys.length<16000000)/\
  (∀i ys G x,items[i]? =some x->W i ys G->∃p q,x= .tup [p,q]/\tf (st (st (lE ix τ) j (some p)) j2 (some q)) G λb G2=>kl b (te (st (st (lE ix τ) j (some p)) j2 (some q)) G2 λy G3=>G3 acc=some (.lst ys)/\W (i+1) (ys++[y]) (up G3 acc (.lst (ys++[y])))) (W (i+1) ys G2))/\∀ys G,W items.length ys G->Q (.ref acc) G
abbrev D5(ti:wk)(ix:List (Option Nat))(j j2:Nat)(tf:T2)(te:E2):E2:=λτ G Q=>ti τ G λitems c G1=>∀acc,G1 acc=none->Oe items c ix j j2 τ tf te Q G1 acc
section
variable{X:Cx}
theorem Aj{ti:wk}{ix:List (Option Nat)}{j j2:Nat}{tf:T2}{te:E2}{σ:L2.St}{H:Hp}{Q:VK}(q:kT X.K (D5 ti ix j j2 tf te) σ H Q):Bl X.K (FX X.K ti) ix j j2 (vL X.K tf) (kT X.K te) σ H Q:=by
 obtain⟨τ,G,Q2,rs,rp,q,cl⟩:=q;refine⟨τ,G,_,rs,rp,q,λitems c G1 J H1 q1 r1 k1 ok acc hacc=> ?_⟩;obtain⟨W,w0,hW,turn,done⟩:=q1 acc (r1.none hacc);have kn:Keep X.K H1 (upd H1 acc (.lst [])):=cf hacc;refine⟨λi m H'=>m=items.length-i/\i<=items.length/\∃ys G',W i ys G'/\Rep X.K H' G'/\Keep X.K H1 H',⟨_,rfl,c8 _,[],_,w0,r1.new hacc .nil,kn⟩,?_⟩;rintro i m H2 ⟨rfl,hi,ys,G2,w2,r2,k2⟩;obtain⟨hc,hacc2,hys⟩:=hW i ys G2 hi w2;obtain⟨o1,o2,o3⟩:=ok i H2 G2 k2 r2 hc;by_cases hlt:i<items.length
 ·refine .inr ⟨o1 hlt,λx H3 y=> ?_⟩;obtain⟨p,ep,k3,r3,d3⟩:=o3 x H3 hlt y;obtain⟨pa,pb,rfl,turn'⟩:=turn i ys G2 p ep w2;obtain⟨ta,vs,rfl,sq,u1,vr,rfl,du1,u2,vr2,rfl,du2,e3⟩:=d3;obtain rfl:vr2=[]:=e3;have k13:=k2.trans k3;refine⟨ta,u1,u2,rfl,sq,?_⟩;have rs3:RSt X.K H3 (((lF ix σ).set j (some u1)).set j2 (some u2)) (st (st (lE ix τ) j (some pa)) j2 (some pb)):=((zw ix (rs.keep (k1.trans k13))).set du1 j).set du2 j2;refine⟨_,G2,_,rs3,r3,turn',λb G4 H4 q4 r4 k4=> ?_⟩;have k14:=k13.trans k4;cases b with
  |false=>exact pK ⟨items.length-(i+1),by ac_nf,rfl,hlt,ys,G4,q4,r4,k14⟩
  |true=>
   refine q9 ⟨_,G4,_,rs3.keep k4,r4,q4,λy G5 v H5 q5 d5 r5 k5=> ?_⟩
   obtain⟨ea,w5⟩:=q5
   obtain⟨vs,hv,dv⟩:=r5.lst ea
   refine⟨vs,hv,by rw[dv.length];exact En (i5 hys),items.length-(i+1),by ac_nf,rfl,hlt,ys++[y],_,w5,r5.put hv (dv.append (.cons d5 .nil)),(k14.trans k5).trans (gQ hv)⟩
 ·have e:i=items.length:=by ac_nf
  subst e;exact .inl ⟨o2 rfl,cl _ _ _ _ (done ys G2 w2) rfl r2 (k1.trans k2)⟩
theorem GB{scope:gu}{M:List Str}{ix:List (Option Nat)}{j j2 kt:Nat}{x y:Str}{elt iter:Expr}{px py pt pos:Pos}{ifs:List Expr}{ti:wk}{tf:T2}{te:E2}(S:eF X.env.scope X.N scope M ix j x=true)(S2:qj scope M ix j2 y)(hc:X.calm=true)(hi:JI X (Hk x y px py kt pt) iter ti)
  (hb:∀C s H fp,JF (cm X M scope C s H fp) ifs tf/\JE (cm X M scope C s H fp) elt te) (hs:autoParam (∀x,eN iter X.env x=pure x) Qe):
  JE X (.ListComp elt [⟨Hk x y px py kt pt,iter,ifs,0⟩] scope pos) (D5 ti ix j j2 tf te):= .of (Cj (Eb S) S2 hc hi.h (λC s H fp=>⟨(hb C s H fp).1.h,(hb C s H fp).2.h⟩) hs) λσ H Q q=>Aj q
theorem AL{items:List PV}{c:Gp->Prop}{ix:List (Option Nat)}{j j2:Nat}{τ:jE}{te:E2}{Q:K2}{G1:Gp}{acc:Addr}(g:PV->PV)(hz:items.length<16000000)
  (hc:∀ys,c (up G1 acc (.lst ys)))
  (he:∀x ys (R:K2),x∈items->R (g x) (up G1 acc (.lst ys))->∃p q,x= .tup [p,q]/\te (st (st (lE ix τ) j (some p)) j2 (some q)) (up G1 acc (.lst ys)) R)
  (hq:Q (.ref acc) (up G1 acc (.lst (items.map g)))):Oe items c ix j j2 τ ml te Q G1 acc:=by
 refine⟨λi ys G=>ys=(items.take i).map g/\G=up G1 acc (.lst ys),⟨by simp,rfl⟩,?_,?_,?_⟩
 ·rintro i ys G hi ⟨rfl,rfl⟩;refine⟨hc _,aC,?_⟩;rw[av,aO];ac_nf
 ·rintro i ys G x hx ⟨rfl,rfl⟩;have hm:=cy hx;have tk:items.take (i+1)=items.take i++[x]:=by rw[cK,hx];rfl
  obtain⟨p,q,rfl,h⟩:=he x ((items.take i).map g) (λy G3=>G3 acc=some (.lst ((items.take i).map g))/\((items.take i).map g)++[y]=(items.take (i+1)).map g/\(up G3 acc (.lst (((items.take i).map g)++[y])))=up G1 acc (.lst (((items.take i).map g)++[y]))) hm ⟨aC,by rw[tk,a9];rfl,lg⟩;exact⟨p,q,rfl,iE rfl h⟩
 ·rintro ys G ⟨rfl,rfl⟩;rw[dZ];exact hq
end
abbrev oZ(r r':B2)(ta tb tc:E2):E2:=λτ G Q=>ta τ G λx G1=>tb τ G1 λy G2=>r x y G2 λz G3=>match z with
 | .bl k=>kl k (tc τ G3 λw G4=>r' y w G4 Q) (Q (.bl false) G3)
 |_=>False
section
variable{X:Cx}{a b c:Expr}{ta tb tc:E2}{pos:Pos}
theorem sW{r r':B2}{σ:L2.St}{H:Hp}{Q:VK}(q:kT X.K (oZ r r' ta tb tc) σ H Q):wN (gn X.K r) (gn X.K r') (kT X.K ta) (kT X.K tb) (kT X.K tc) σ H Q:=by
 obtain⟨τ,G,Q2,rs,rp,q,cl⟩:=q;refine⟨τ,G,_,rs,rp,q,λx G1 vx H1 q1 d1 r1 k1=>⟨τ,G1,_,rs.keep k1,r1,q1,λy G2 vy H2 q2 d2 r2 k2=>⟨x,y,G2,_,d1.keep k2,d2,r2,q2,λz G3 vz H3 q3 d3 r3 k3=> ?_⟩⟩⟩;split at q3
 ·rename_i k;obtain rfl:vz= .bl k:=d3;refine⟨k,rfl,?_⟩;cases k with
  |false=>exact pK (cl _ _ _ _ q3 rfl r3 ((k1.trans k2).trans k3))
  |true=>
   exact q9 ⟨τ,G3,_,rs.keep ((k1.trans k2).trans k3),r3,q3,λw' G4 vw H4 q4 d4 r4 k4=>⟨y,w',G4,Q2,d2.keep (k3.trans k4),d4,r4,q4,cl.keep (((k1.trans k2).trans k3).trans k4)⟩⟩
 ·exact q3.elim
theorem GC{op op':CmpOp}{r r':B2}(ho:ik X (bD op) (gn X.K r))(ho':ik X (bD op') (gn X.K r'))(ha:JE X a ta)(hb:JE X b tb)(hc:JE X c tc)(hm:autoParam (mT [op,op'] [b,c]=false) Qi):
  JE X (.Compare a [op,op'] [b,c] pos) (oZ r r' ta tb tc):= .of (Ck ho ho' ha.h hb.h hc.h hm) λσ H Q q=>sW q
theorem vR{op op':CmpOp}{r r':B2}(ho:ik X (bD op) (gn X.K r))(ho':ik X (bD op') (gn X.K r'))(ha:JE X a ta)(hb:JE X b tb)(hc:JE X c tc)(hm:autoParam (mT [op,op'] [b,c]=false) Qi):
  JT X (.Compare a [op,op'] [b,c] pos) (zK (oZ r r' ta tb tc)):= .of (B5 ho ho' ha.h hb.h hc.h hm) λσ H Q q=>ut (λσ H Q q=>sW q) q
theorem Gq(ha:JE X a ta)(hb:JE X b tb)(hc:JE X c tc)(hm:autoParam (mT [.LtE,.LtE] [b,c]=false) Qi):JE X (.Compare a [.LtE,.LtE] [b,c] pos) (oZ Ka Ka ta tb tc):=GC CY CY ha hb hc hm
theorem Gd(ha:JE X a ta)(hb:JE X b tb)(hc:JE X c tc)(hm:autoParam (mT [.LtE,.LtE] [b,c]=false) Qi):JT X (.Compare a [.LtE,.LtE] [b,c] pos) (zK (oZ Ka Ka ta tb tc)):=vR CY CY ha hb hc hm
end
def FW:B2:=λp q G Q=>match p,q with
 | .str x,.str y=>Q (.bl (decide (x.cps.toList<y.cps.toList))) G
 |_,_=>False
section
variable{X:Cx}{a b e:Expr}{ta tb:E2}{t:A2}{es:List Expr}{p pos:Pos}
theorem M3:ik X (bD .Lt) (gn X.K FW):=by
 intro pins s σ H x y v u Q I rx ry h;obtain⟨p,q,G,Q2,d1,d2,rp,h,cl⟩:=h;unfold FW at h;split at h
 ·rename_i i j;obtain rfl:x= .str i:=d1;obtain rfl:y= .str j:=d2;exact sR pins s σ H _ _ v u Q I rx ry ⟨i,j,rfl,rfl,cl _ _ _ _ h rfl rp .refl⟩
 ·exact h.elim
theorem Kr(ha:JE X a ta)(hb:JE X b tb):JE X (.Compare a [.Lt] [b] pos) (nr FW ta tb):=pz M3 ha hb (jS _)
def zh:C2:=λps G Q=>match ps with
 |[.bl k]=>Q (.int (if k then 1 else 0)) G
 |_=>False
theorem Lx:eT X (.type "int") (kU X.K zh):=by
 intro pins s σ H xs us Q I rs h;obtain⟨ps,G,Q2,d,rp,h,cl⟩:=h;unfold zh at h;split at h
 ·rename_i k;obtain⟨v,vr,rfl,d1,d2⟩:=d;obtain rfl:vr=[]:=d2;obtain rfl:v= .bl k:=d1;exact AI pins s σ H _ us Q I rs (.inr ⟨k,rfl,cl _ _ _ _ h rfl rp .refl⟩)
 ·exact h.elim
theorem DG(B:BN X.mg)(ha:JA X (e::es) t)(hg:autoParam (Gl X "int") Qa)(he:autoParam (ao (e::es) X.env=(false,eval e X.env)::ao es X.env) Qa)(hpl:autoParam ((bZ pos (ao es X.env)).any (·.1)=false) Qa):JE X (.Call (.Name "int" p) (e::es) [] pos) (v7 zh t):=lz Lx B.int rK ha hg (by decide) (by decide) he hpl
end
theorem Ei:bN "min" =some (.builtin "min"):=by decide+kernel
theorem BN.min{mg:Str->Option ae}(h:BN mg):mg "min" =none:=h _ (by decide+kernel)
theorem BN.zip{mg:Str->Option ae}(h:BN mg):mg "zip" =none:=h _ (by decide+kernel)
structure LH(P:aG)(w:aX)(K:PySem.W.Frag)(d:Addr)(f:Str->Option Int):Prop where
 ns:(d==sysModules)=false
 lk:∃o es ep,K.lookup d=some o/\o.ExactDict/\o.data= .dict es ep/\KeysOf (ku P w) es/\∀k:Str,(findBy pr es (.inr k)=none/\f k=none)\/∃n t,findBy pr es (.inr k)=some (.int n t)/\f k=some n
@[reducible] def DU (f:Str->Option Int) (p:PV) (G:Gp) (Q:K2):Prop:=match p with
 | .str k=>match f k with
  |some n=>Q (.int n) G
  |none=>Q .non G
 |_=>False
abbrev NZ(f:Str->Option Int)(te:E2):E2:=λτ G Q=>te τ G λp G1=>DU f p G1 Q
theorem KU{X:Cx}{x:Str}{e:Expr}{te:E2}{d:Addr}{f:Str->Option Int}{px apos cpos:Pos}(D:LH X.prog X.w X.K d f)(hm:X.mg x=some (.ref d))(he:JE X e te)(hg:autoParam (Gl X x) Qa)(hdb:autoParam ((x==("__debug__" :Str))=false) Qc)
  (hbase:autoParam (cU (.Name x px) "get" X.env (eval (.Name x px) X.env)=eval (.Name x px) X.env) Qa)
  (hfew:autoParam (((bZ cpos (ao [e] X.env)).all (λx=> !x.1)&&(im cpos (eI [] X.env)).all (λx=>x.1.isSome)
   &&decide (([e]:List Expr).length+([]:List gZ).length+(if([]:List gZ).isEmpty then 0 else 1)<30))=true) Qa)
  (hline:autoParam ((apos.endLine==cpos.line)=true) Qa) (hs:autoParam (bZ cpos (ao [e] X.env)=[(false,eval e X.env)]) Qa):
  JE X (.Call (.Attribute (.Name x px) "get" apos) [e] [] cpos) (NZ f te):=⟨by
 intro pins s σ H Q I h;obtain⟨τ,G,Q2,rs,rp,q,cl⟩:=h;obtain⟨o,es,ep,ho,ex,hdat,hk,hf⟩:=D.lk;refine wpAny_Call_method_late hbase hfew hline rfl (kx I hg hm ?_ hdb);refine⟨"dict", "dict.get",F.plainAttrs_dict,F.slot_dict_get,F.type_dict_get,⟨o,I.kIn d o ho,ex.1⟩,λa e=> ?_,?_⟩
 ·cases e;exact⟨o,I.kIn d o ho,ex.2.1⟩
 ·rw[hs];refine wpAny_dict_get1 (knd:=ku X.prog X.w) D.ns (fF (he.h pins s σ H (λy H1=>∃p G1,Dv X.K H1 p y/\Rep X.K H1 G1/\Keep X.K H H1/\DU f p G1 Q2) I ⟨τ,G,_,rs,rp,q,λp G1 y H1 q1 d1 r1 k1=>⟨p,G1,d1,r1,k1,q1⟩⟩) λu s1 hPl=> ?_);obtain⟨y,H1,I1,r1,p,G1,d1,rp1,k1,q1⟩:=hPl;unfold DU at q1;split at q1
  ·rename_i k;obtain rfl:y= .str k:=d1;obtain⟨t,rfl⟩:=r1;refine⟨.inr k,findBy pr es,by show jc k (.str k t)=true;simp[jc],⟨o,es,ep,I1.kIn d o ho,ex,hdat,hk,λk=>rfl⟩,?_⟩;rcases hf k with⟨e1,e2⟩|⟨n,t',e1,e2⟩
   ·rw[e1];rw[e2]at q1;exact⟨.non,H1,I1.tok _,rfl,cl _ _ _ _ q1 rfl rp1 k1⟩
   ·rw[e1];rw[e2]at q1;exact⟨.int n,H1,I1.tok _,⟨_,rfl⟩,cl _ _ _ _ q1 rfl rp1 k1⟩
  ·exact q1.elim⟩
theorem KT{X:Cx}{x:Str}{i:Int}{t:Tok}{pos:Pos}(hm:X.mg x=some (.int i t))(hg:autoParam (Gl X x) Qa)(hd:autoParam ((x==("__debug__" :Str))=false) Qc):JE X (.Name x pos) (eC (.int i)):=xH (v:= .int i) hm ⟨t,rfl⟩ (λ_=>rfl) hg hd
theorem KR{X:Cx}{x z:Str}{t:Tok}{pos:Pos}(hm:X.mg x=some (.str z t))(hg:autoParam (Gl X x) Qa)(hd:autoParam ((x==("__debug__" :Str))=false) Qc):JE X (.Name x pos) (eC (.str z)):=xH (v:= .str z) hm ⟨t,rfl⟩ (λ_=>rfl) hg hd
theorem ce{n:Nat}(h:autoParam (Nat.ble n 1000=true) Qa):n<=1000:=bP h
theorem bT{G:Gp}{a:Addr}{ps:List PV}(h:G a=some (.lst ps)):lk G a=some ps:=by unfold lk;rw[h]
theorem gG{G:Gp}{a:Addr}{ps:List PV}:lk (up G a (.lst ps)) a=some ps:=bT aC
theorem nG{G:Gp}{a b:Addr}{o:MO}(h:up G a o b=none):b≠a/\G b=none:=by
 have ne:b≠a:=λz=>by subst z;rw[aC]at h;cases h
 exact⟨ne,by rw[cz ne]at h;exact h⟩
theorem GE.mod{G0 G:Gp}{a:Addr}{o:MO}(h:GE G0 G)(n:G0 a=none):GE G0 (up G a o):=λb u q=>by
 have:b≠a:=λz=>by subst z;rw[n]at q;cases q
 rw[cz this];exact h b u q
theorem GE.at{G0 G:Gp}{a:Addr}{o:MO}(h:GE G0 G)(n:G a=some o):GE (up G0 a o) G:=λb u q=>by
 by_cases hb:b=a
 ·subst hb;rw[aC]at q;cases q;exact n
 ·rw[cz hb]at q;exact h b u q
section
variable{G:Gp}{a b:Addr}{xs ys:List PV}{x y:PV}{i k:Int}{j:Nat}{Q:K2}
theorem HD(h:G a=some (.lst (xs++[y])))(q:Q y (up G a (.lst xs))):Ca (.ref a) [] G Q:=by
 unfold Ca;simp only[h];rw[af,cn (by simp)];simp only[aj,bo,Nat.add_sub_cancel,Nat.sub_self,List.getElem?_cons_zero,List.dropLast_concat];exact q
theorem jz(h:G a=some (.lst xs))(hl:xs.length<16000000)(q:Q .non (up G a (.lst (xs++[y])))):oy (.ref a) [y] G Q:=by
 unfold oy;simp only[h];exact⟨hl,q⟩
theorem Lc(h:G a=some (.lst xs))(hl:xs.length+ys.length<=16000000)(q:Q .non (up G a (.lst (xs++ys)))):og (.ref a) [.tup ys] G Q:=by
 unfold og;simp only[h];exact⟨hl,q⟩
theorem y6(h:lk G a=some xs)(q:Q (.int xs.length) G):uv [.ref a] G Q:=by
 unfold uv;simp only[h];exact q
theorem fT(h:lk G a=some xs)(e:tL xs i=some x)(q:Q x G):EF (.ref a) (.int i) G Q:=by
 unfold EF;simp only[h,e];exact q
theorem fA(e:tL xs i=some x)(q:Q x G):EF (.tup xs) (.int i) G Q:=by
 unfold EF;simp only[e];exact q
theorem qZ{z:Str}{c:Nat}(hz:z.length<=16000000)(e:tL z.cps.toList i=some c)(q:Q (.str ⟨#[c]⟩) G):EF (.str z) (.int i) G Q:=by
 unfold EF;simp only[e];exact⟨hz,q⟩
theorem w9{v:PV}{R:Gp->Prop}(h:G a=some (.lst xs))(e:DK xs.length k=some j)(q:R (up G a (.lst (xs.set j v)))):E4 (.ref a) (.int k) v G R:=by
 unfold E4;simp only[h,e];exact q
theorem LA(h:lk G a=some xs)(h2:lk G b=some ys)(hl:xs.length+ys.length<=16000000)(q:∀c,G c=none->Q (.ref c) (up G c (.lst (xs++ys)))):Ex (.ref a) (.ref b) G Q:=by
 unfold Ex;simp only[h,h2];exact⟨hl,q⟩
theorem NV(h:lk G a=some xs)(h2:lk G b=some ys)(f1:eK 100 xs=true)(f2:eK 100 ys=true)(q:Q (.bl (jT xs ys)) G):Li (.ref a) (.ref b) G Q:=by
 unfold Li;simp only[h,h2];exact⟨f1,f2,q⟩
theorem M9(h:lk G a=some xs)(h2:lk G b=some ys)(f1:eK 100 xs=true)(f2:eK 100 ys=true)(q:Q (.bl (!jT xs ys)) G):JU (.ref a) (.ref b) G Q:=by
 unfold JU;simp only[h,h2];exact⟨f1,f2,q⟩
theorem qx(h:lk G a=some xs)(q:Q (.tup xs) G):qv [.ref a] G Q:=by
 unfold qv;simp only[h];exact q
theorem Ix{ns:List Int}(h:lk G a=some (ns.map PV.int))(q:Q (.int ns.sum) G):zL [.ref a] G Q:=by
 unfold zL;simp only[h,xI];exact q
theorem kH{bs:List Bool}(h:lk G a=some (bs.map PV.bl))(q:Q (.bl (bs.all id)) G):Ew [.ref a] G Q:=by
 unfold Ew;simp only[h,tG];exact q
theorem Er{bs:List Bool}(h:lk G a=some (bs.map PV.bl))(q:Q (.bl (bs.any id)) G):Et [.ref a] G Q:=by
 unfold Et;simp only[h,tG];exact q
theorem nW{z:Str}{zs:List Str}(h:lk G a=some (zs.map PV.str))(hl:(zs.map (·.length)).sum+zs.length*z.length<=16000000)(q:Q (.str (gs z zs)) G):sY (.str z) [.ref a] G Q:=by
 unfold sY;simp only[h,wO];exact⟨hl,q⟩
end
theorem u0{c:Bool}{A B:Prop}(hB:B)(hA:c=true->B->A):kl c A B:=by
 cases c with
 |true=>exact hA rfl hB
 |false=>exact hB
def Ch(l:List Addr)(G G':Gp):Prop:=∀c o,c∉l->G c=some o->G' c=some o
theorem Ch.refl{l:List Addr}{G:Gp}:Ch l G G:=λ_ _ _ h=>h
theorem Ch.trans{l:List Addr}{G G1 G2:Gp}(a:Ch l G G1)(b:Ch l G1 G2):Ch l G G2:=λc o n h=>b c o n (a c o n h)
theorem Ch.new{l:List Addr}{G G1:Gp}{a:Addr}{o:MO}(h:Ch l G G1)(n:G1 a=none):Ch l G (up G1 a o):=λb u hb q=>by
 have:=h b u hb q;have ne:b≠a:=λz=>by subst z;rw[n]at this;cases this
 rw[cz ne];exact this
theorem Ch.put{l:List Addr}{G G1:Gp}{a:Addr}{o:MO}(h:Ch l G G1)(n:a∈l):Ch l G (up G1 a o):=λb u hb q=>by
 have ne:b≠a:=λz=>by subst z;exact hb n
 rw[cz ne];exact h b u hb q
theorem Ch.mod'{l:List Addr}{G G1:Gp}{a:Addr}{o:MO}(h:Ch l G G1)(n:G a=none):Ch l G (up G1 a o):=λb u hb q=>by
 have ne:b≠a:=λz=>by subst z;rw[n]at q;cases q
 rw[cz ne];exact h b u hb q
theorem Ch.mono{l l':List Addr}{G G1:Gp}(h:Ch l G G1)(s:∀a∈l,a∈l'):Ch l' G G1:=λb u hb q=>h b u (λz=>hb (s b z)) q
theorem Ch.ge{l:List Addr}{G G1:Gp}(h:Ch l G G1)(n:∀a∈l,G a=none):GE G G1:=λb u q=>h b u (λz=>by rw[n b z]at q;cases q) q
theorem GE.ch{l:List Addr}{G G1:Gp}(h:GE G G1):Ch l G G1:=λb u _ q=>h b u q
def Pool(G:Gp)(a:Addr):Prop:=∃x y z:Int,G a=some (.lst [.int x,.int y,.int z])/\0<=x
theorem Pool.new{G:Gp}{a b:Addr}{o:MO}(h:Pool G a)(n:G b=none):Pool (up G b o) a:=by
 obtain⟨x,y,z,e,hx⟩:=h;exact⟨x,y,z,by rw[cz (λq=>by subst q;rw[n]at e;cases e)];exact e,hx⟩
theorem Pool.ne{G:Gp}{a b:Addr}{o:MO}(h:Pool G a)(n:b≠a):Pool (up G b o) a:=by
 obtain⟨x,y,z,e,hx⟩:=h;exact⟨x,y,z,by rw[cz (aY n)];exact e,hx⟩
theorem gF{G:Gp}{a b:Addr}{o:MO}(h:G a=some o)(n:G b=none):a≠b:=λz=>by subst z;rw[h]at n;cases n
theorem Pool.some{G:Gp}{a:Addr}(h:Pool G a):∃o,G a=some o:=by obtain⟨x,y,z,e,_⟩:=h;exact⟨_,e⟩
theorem qQ{P:aG}{w:aX}{K:PySem.W.Frag}{mg:Str->Option ae}{base:Heap}{k:Nat}{f:Addr}{fd:bb}{ps:List Str}{sp:i8}(h:∀as G Q,¬sp as G Q):jd P w K mg base k f fd ps sp:=
 ⟨λvs H Q E ⟨as,G,Q2,_,_,q,_⟩=>absurd q (h as G Q2),λA outer s H args us vs Q E _ _ _ _ ⟨as,G,Q2,_,_,q,_⟩=>absurd q (h as G Q2)⟩
def wT:i8:=λps G Q=>∃c:Int,ps=[.int c]/\∀a G',G a=none->Pool G' a->Ch [a] G G'->Q (.ref a) G'
def lh:i8:=λps G Q=>∃(a:Addr) (b:Int),ps=[.ref a,.int b]/\Pool G a/\1<=b/\b<=1000000/\∀(n:Int) G',0<=n->n<b->Pool G' a->Ch [a] G G'->Q (.int n) G'
inductive Pt where
 |none|blank|sign (s:Str)|row (ps:List Pt)|pick (ps:List Pt)|again (p:Pt)|held (n:Str) (p:Pt)|price (n:Int) (p:Pt)
mutual
def dh:Pt->PV
 | .none=> .tup [.str "none"]
 | .blank=> .tup [.str "blank"]
 | .sign s=> .tup [.str "sign",.str s]
 | .row ps=> .tup [.str "row",.tup (b9 ps)]
 | .pick ps=> .tup [.str "pick",.tup (b9 ps)]
 | .again p=> .tup [.str "again",dh p]
 | .held n p=> .tup [.str "held",.str n,dh p]
 | .price n p=> .tup [.str "price",.int n,dh p]
def b9:List Pt->List PV
 |[]=>[]
 |p::ps=>dh p::b9 ps
end
theorem dF:∀ps:List Pt,b9 ps=ps.map dh
 |[]=>rfl
 |p::ps=>by show dh p::b9 ps=_;rw[dF ps];rfl
theorem jL(ps qs:List Pt):b9 (ps++qs)=b9 ps++b9 qs:=by rw[dF,dF,dF,a9]
theorem uA(ps:List Pt):b9 ps.reverse=(b9 ps).reverse:=by rw[dF,dF,List.map_reverse]
theorem bU(ps:List Pt):(b9 ps).length=ps.length:=by rw[dF,av]
def dE:Pt->List Pt
 | .row ps=>ps
 | .pick ps=>ps
 | .again p=>[p]
 | .held _ p=>[p]
 | .price _ p=>[p]
 |_=>[]
mutual
def size:Pt->Nat
 | .row ps=>1+bL ps
 | .pick ps=>1+bL ps
 | .again p=>1+size p
 | .held _ p=>1+size p
 | .price _ p=>1+size p
 |_=>1
def bL:List Pt->Nat
 |[]=>0
 |p::ps=>size p+bL ps
end
theorem cS(p:Pt):size p=1+bL (dE p):=by
 cases p<;>simp[size,dE,bL]
theorem iw(p:Pt):0<size p:=by rw[cS];ac_nf
theorem gD(ps qs:List Pt):bL (ps++qs)=bL ps+bL qs:=by
 induction ps with
 |nil=>simp[bL]
 |cons p ps ih=>simp[bL,ih];ac_nf
theorem cA:∀ps:List Pt,ps.length<=bL ps
 |[]=>c8 _
 |p::ps=>by
  have:=cA ps;have:=iw p;simp[bL];ac_nf
mutual
def makes:Pt->List Pt
 | .row ps=> .row ps::fG ps
 | .pick ps=> .pick ps::fG ps
 | .again p=> .again p::makes p
 | .held n p=> .held n p::makes p
 | .price n p=> .price n p::makes p
 |p=>[p]
def fG:List Pt->List Pt
 |[]=>[]
 |p::ps=>makes p++fG ps
end
theorem fE(p:Pt):makes p=p::fG (dE p):=by
 cases p<;>simp[makes,dE,fG]
theorem si(ps qs:List Pt):fG (ps++qs)=fG ps++fG qs:=by
 induction ps with
 |nil=>simp[fG]
 |cons p ps ih=>simp[fG,ih]
mutual
theorem iz:∀p:Pt,(makes p).length=size p
 | .row ps=>by simp[makes,size,iV ps];ac_nf
 | .pick ps=>by simp[makes,size,iV ps];ac_nf
 | .again p=>by simp[makes,size,iz p];ac_nf
 | .held n p=>by simp[makes,size,iz p];ac_nf
 | .price n p=>by simp[makes,size,iz p];ac_nf
 | .none=>rfl
 | .blank=>rfl
 | .sign s=>rfl
theorem iV:∀ps:List Pt,(fG ps).length=bL ps
 |[]=>rfl
 |p::ps=>by simp[fG,bL,iz p,iV ps]
end
def c9(c:Nat):Str:=⟨#[c]⟩
theorem vT:∀zs:List Str,(lJ (al "") zs).cps.toList=(zs.map λz=>z.cps.toList).flatten
 |[]=>rfl
 |[z]=>by simp[lJ]
 |z::y::r=>by
  show(z++al "" ++lJ (al "") (y::r)).cps.toList=_;have h:=vT (y::r);rw[aU,cL,<-h];show(z.cps++(al "").cps++(lJ (al "") (y::r)).cps).toList=_;rw[dM,dM];simp[show(al "").cps.toList=[]from rfl]
theorem An(zs:List Str):(gs (al "") zs).cps.toList=(zs.map λz=>z.cps.toList).flatten:=by
 have e:gs (al "") zs=lJ (al "") zs:=StrLaws.glued_eq_join _ _;rw[e,vT]
theorem jx(cs:List Nat):(gs (al "") (cs.map c9)).cps.toList=cs:=by
 rw[An];induction cs with
 |nil=>rfl
 |cons c cs ih=>rw[aU,aU,cL,ih];rfl
theorem lj{z:Str}{i:Nat}{x:PV}(h:(dA z)[i]? =some x):∃c,z.cps.toList[i]? =some c/\x= .str (c9 c):=by
 unfold dA at h;rw[br]at h;cases e:z.cps.toList[i]? with
 |none=>rw[e]at h;cases h
 |some c=>rw[e]at h;cases h;exact⟨c,rfl,rfl⟩
theorem qA(cs:List Nat):((cs.map c9).map (·.length)).sum=cs.length:=by
 induction cs with
 |nil=>rfl
 |cons c cs ih=>rw[aU,aU,jm,ih,aj];show 1+cs.length=_;ac_nf
mutual
def depth:Pt->Nat
 | .row ps=>1+bX ps
 | .pick ps=>1+bX ps
 | .again p=>1+depth p
 | .held _ p=>1+depth p
 | .price _ p=>1+depth p
 |_=>1
def bX:List Pt->Nat
 |[]=>0
 |p::ps=>max (depth p) (bX ps)
end
mutual
def eL:Pt->Bool
 | .none=>false
 | .blank=>true
 | .sign _=>false
 | .row ps=>AS ps
 | .pick ps=>Es ps
 | .again _=>true
 | .held _ p=>eL p
 | .price _ p=>eL p
def AS:List Pt->Bool
 |[]=>true
 |p::ps=>eL p&&AS ps
def Es:List Pt->Bool
 |[]=>false
 |p::ps=>eL p||Es ps
end
theorem mB(ps qs:List Pt):bX (ps++qs)=max (bX ps) (bX qs):=by
 induction ps with
 |nil=>simp[bX]
 |cons p ps ih=>simp[bX,ih,Nat.max_assoc]
theorem bM(p:Pt):depth p=1+bX (dE p):=by
 cases p<;>simp[depth,dE,bX]
mutual
theorem lD:∀(p:Pt) (n:Nat),2*depth p<=n->eB n (dh p)=true
 | .none,n,h=>by
  simp[depth]at h;obtain⟨n,rfl⟩:∃m,n=m+1:=⟨n-1,by ac_nf⟩;simp[dh,eB,eK]
 | .blank,n,h=>by
  simp[depth]at h;obtain⟨n,rfl⟩:∃m,n=m+1:=⟨n-1,by ac_nf⟩;simp[dh,eB,eK]
 | .sign s,n,h=>by
  simp[depth]at h;obtain⟨n,rfl⟩:∃m,n=m+1:=⟨n-1,by ac_nf⟩;simp[dh,eB,eK]
 | .row ps,n,h=>by
  simp[depth]at h;obtain⟨n,rfl⟩:∃m,n=m+2:=⟨n-2,by ac_nf⟩;simp[dh,eB,eK,oY ps n (by ac_nf)]
 | .pick ps,n,h=>by
  simp[depth]at h;obtain⟨n,rfl⟩:∃m,n=m+2:=⟨n-2,by ac_nf⟩;simp[dh,eB,eK,oY ps n (by ac_nf)]
 | .again p,n,h=>by
  simp[depth]at h;obtain⟨n,rfl⟩:∃m,n=m+1:=⟨n-1,by ac_nf⟩;simp[dh,eB,eK,lD p n (by ac_nf)]
 | .held s p,n,h=>by
  simp[depth]at h;obtain⟨n,rfl⟩:∃m,n=m+1:=⟨n-1,by ac_nf⟩;simp[dh,eB,eK,lD p n (by ac_nf)]
 | .price s p,n,h=>by
  simp[depth]at h;obtain⟨n,rfl⟩:∃m,n=m+1:=⟨n-1,by ac_nf⟩;simp[dh,eB,eK,lD p n (by ac_nf)]
theorem oY:∀(ps:List Pt) (n:Nat),2*bX ps<=n->eK n (b9 ps)=true
 |[],n,h=>by simp[b9,eK]
 |p::ps,n,h=>by
  simp[bX]at h;simp[b9,eK,lD p n (by ac_nf),oY ps n (by ac_nf)]
end
theorem Eo{α:Type}{xs:List α}{n:Int}(h0:0<=n)(h1:n<xs.length):∃x,tL xs n=some x/\x∈xs:=by
 have hl:n.toNat<xs.length:=by ac_nf
 refine⟨xs[n.toNat],?_,lc hl⟩;have:=kF (xs:=xs) (j:=n.toNat) (v:=xs[n.toNat]) (au hl);rwa [show((n.toNat:Nat):Int)=n by ac_nf]at this
theorem ij(p:Pt):1<=depth p:=by rw[bM];ac_nf
mutual
theorem v9:∀(n:Nat) (p:PV),eB n p=true->i7 p p=true
 |_,.non,_=>rfl
 |_,.bl b,_=>by unfold i7;simp
 |_,.int b,_=>by unfold i7;simp
 |_,.str b,_=>by unfold i7;simp
 |n,.tup xs,h=>by
  cases n with
  |zero=>cases h
  |succ n=>unfold i7;exact tw n xs h
 |n,.ref _,h=>by cases n<;>cases h
 |n,.ty _,h=>by cases n<;>cases h
 |n,.ro _,h=>by cases n<;>cases h
theorem tw:∀(n:Nat) (xs:List PV),eK n xs=true->jT xs xs=true
 |_,[],_=>rfl
 |n,x::xs,h=>by
  unfold eK at h;rw[aB]at h;unfold jT;rw[v9 n x h.1,tw n xs h.2];rfl
end
section
variable{G:Gp}{a:Addr}{x y p:PV}{Q:K2}
theorem fQ{ty T:String}(h:Oq p G=some ty)(hT:T∈Hc)(q:Q (.bl (NK ty T)) G):vX [p,.ty T] G Q:=by
 unfold vX;simp only[h];exact⟨hT,q⟩
theorem qR(f1:eB 100 x=true)(f2:eB 100 y=true)(q:Q (.bl (!i7 x y)) G):JU x y G Q:=by
 cases x with
 |ref a=>cases f1
 |ty a=>cases f1
 |ro a=>cases f1
 |_=>cases y with
  |ref a=>cases f2
  |ty a=>cases f2
  |ro a=>cases f2
  |_=>exact⟨f1,f2,q⟩
theorem cV(f1:eB 100 x=true)(f2:eB 100 y=true)(q:Q (.bl (i7 x y)) G):Li x y G Q:=by
 cases x with
 |ref a=>cases f1
 |ty a=>cases f1
 |ro a=>cases f1
 |_=>cases y with
  |ref a=>cases f2
  |ty a=>cases f2
  |ro a=>cases f2
  |_=>exact⟨f1,f2,q⟩
end
end L3
namespace PyProof.Rows
open PySem
section
end
end PyProof.Rows
namespace PySem
open Sem (wp)
open Builtin
end PySem
namespace L3
open PySem L2
theorem Bo{K:PySem.W.Frag}{H:Hp}:∀(l:List Str),Dvs K H (l.map PV.str) (l.map V.str)
 |[]=>rfl
 |i::l=>⟨_,_,rfl,rfl,Bo l⟩
section
end
end L3
namespace PySem
open PyProof.Rows (StrsAre)
theorem xE(t:bw)(es:Array (Int×ae))(h:Int)(x:ae):(layNew t es h x).2.1.led=t.led:=by
 unfold layNew;split
 ·simp only[bw.orStandIn];split<;>rfl
 ·rfl
theorem uh(t:bw)(es:Array (Int×ae))(n:Nat):(kR t es n).2.1.led=t.led/\(t.plain=false->(kR t es n).2.1.plain=false):=by
 unfold kR;split
 ·rename_i t' order hr;have key:t'.led=t.led/\t'.plain=t.plain:=by
   unfold bw.relaid bw.laid at hr;cases hc:bw.layClean (bw.sizeAbove n-1) (es.map (·.1))with
   |none=>rw[hc]at hr;cases hr
   |some owner=>
    rw[hc]at hr
    simp only[Option.bind_eq_bind,Option.bind_some,Option.pure_def,wv,kc]at hr
    rw[<-hr.1]
    exact⟨rfl,rfl⟩
  dsimp only;split
  ·exact⟨key.1,λh=>key.2.trans h⟩
  ·exact⟨rfl,λ_=>rfl⟩
 ·exact⟨rfl,λ_=>rfl⟩
section
end
end PySem
namespace PySem
open PyProof.Rows (StrsAre)
section
end
section
variable{prog:aG}{w:aX}{A:Around}{E:ae->ag->Prop}{s:ag}
theorem so(a:ae){Q₁:ae->ag->Prop}
  (h:Q₁ (.ref s.heap.objs.size) {s with heap:=s.heap.push {cls:= .type "set",dict:=none,data:= .set #[] 0 (.fresh 0 0 (!w.params.followText "set-order"))}}):
  codeAny (aK prog w) A (.call (.builtin "set.__new__") ⟨[.type "set",a],[]⟩) (wants Q₁ E) s:=by
 refine codeAny_of_tree ?_;show wpAny _ A.in1 (do checkBuiltinCall "set.__new__" ⟨[.type "set",a],[]⟩;again (.builtin "set.__new__" ⟨[.type "set",a],[]⟩)) _ _ s;refine aa (pH (F.newCall_set_1 a) (ah ⟨rZ F.plain_set_new _,gM F.entry_set_new ?_⟩));rw[gI F.plain_set_new _];unfold Builtin.«set.__new__» Builtin.Frozenset.newClass;have hsub:=sub_set_self;obtain⟨hp,g,d,tk,os⟩:=s;dsimp only;wp_walk;refine iq (ah ?_);dsimp only;simp only[newObj];refine aa (wpAny_alloc (ah ?_));exact ah h
end
end PySem
namespace PySem
open PyProof.Rows (StrsAre)
theorem ni{α:Type}:∀{l:List α} {i:Nat} {x:α},l[i]? =some x->(x::l.eraseIdx i).Perm l
 |a::l,0,x,h=>by
  have:a=x:=by simpa using h
  subst this;exact .refl _
 |a::l,i+1,x,h=>by
  have h':l[i]? =some x:=by simpa using h
  show(x::a::l.eraseIdx i).Perm (a::l);exact(List.Perm.swap _ _ _).trans ((ni h').cons a)
theorem pj{α:Type}(f:Nat->Nat):∀(fuel k:Nat) (left:List α) (out:Array α),left.length<=fuel->(fD.go f fuel k left out).toList.Perm (out.toList++left)
 |0,k,left,out,h=>by
  have:left=[]:=cY (by ac_nf);subst this;rw[dz];exact .refl _
 |fuel+1,k,left,out,h=>by
  unfold fD.go;cases hl:left with
  |nil=>simp
  |cons a l=>
   have hlt:f k%left.length<left.length:=Nat.mod_lt _ (by rw[hl];simp)
   have hx:left[f k%left.length]? =some (left[f k%left.length]):=au hlt
   rw[<-hl,hx]
   dsimp only
   have he:=ni hx
   have hlen:(left.eraseIdx (f k%left.length)).length+1=left.length:=by
    have:=he.length_eq;rwa [aj]at this
   refine(pj f fuel (k+1) _ _ (by ac_nf)).trans ?_
   rw[iP,aI]
   exact kZ _ he
theorem oN{α:Type}(f:Nat->Nat)(xs:Array α):(fD f xs).toList.Perm xs.toList:=by
 unfold fD;exact pj f xs.size 0 xs.toList #[] (by simp)
section
variable{M:Model}{A:Around}{E:ae->ag->Prop}
theorem tX{src:Source}{n:Nat}{s:ag}{Q:Nat->ag->Prop}(hn:n≠0)(h:∀i d,i<n->Q i {s with drawn:=d}):wpAny M A (choose src n) Q E s:=by
 intro p st hs;unfold choose;rw[Sem.wp_choose];refine⟨hn,?_⟩;exact h _ _ (Nat.mod_lt _ (Nat.pos_of_ne_zero hn))
theorem oi{α:Type}:∀(n:Nat) (xs:List α) (s:ag) (Q:List α->ag->Prop),xs.length<=n->(∀ys d,ys.Perm xs->Q ys {s with drawn:=d})->wpAny M A (drawOrder n xs) Q E s
 |0,xs,s,Q,h,hq=>by
  have:xs=[]:=cY (by ac_nf);subst this;unfold drawOrder;exact ah (hq [] s.drawn (.refl _))
 |n+1,[],s,Q,h,hq=>by
  unfold drawOrder;exact ah (hq [] s.drawn (.refl _))
 |n+1,x::xs,s,Q,h,hq=>by
  unfold drawOrder;refine aa (tX (by simp) λi d hi=> ?_);have hx:(x::xs)[i]? =some ((x::xs)[i]):=au hi;rw[hx];dsimp only;have he:=ni hx;have hlen:((x::xs).eraseIdx i).length+1=(x::xs).length:=by
   have:=he.length_eq;rwa [aj]at this
  refine aa (oi n _ _ _ (by simp only[aj]at hlen h;ac_nf) λys d' hp=> ?_);exact ah (hq _ _ ((hp.cons _).trans he))
end
namespace F
theorem slot_setiter_next:Slot "set_iterator" "__next__" "set_iterator.__next__" :=
 .of (owner:= "set_iterator") (n:= "__next__") (by rw[typeLookup_type,builtinLookup_eq_fast];kernel_rfl) (by decide+kernel) (by decide+kernel) (by decide+kernel)
  (by first|exact .inl (by decide+kernel)|exact .inr (by decide+kernel)) (by rw[isSubtype_type];kernel_rfl)
theorem entry_setiter_next:entryFor table "set_iterator.__next__" =some Builtin.«set_iterator.__next__»:=entryFor_of_tree (by kernel_rfl)
theorem args_setiter_next(a:ae):argsOk "set_iterator.__next__" ⟨[a],[]⟩:=by unfold argsOk;kernel_rfl
theorem slot_setiter_iter:Slot "set_iterator" "__iter__" "set_iterator.__iter__" :=
 .of (owner:= "set_iterator") (n:= "__iter__") (by rw[typeLookup_type,builtinLookup_eq_fast];kernel_rfl) (by decide+kernel) (by decide+kernel) (by decide+kernel)
  (by first|exact .inl (by decide+kernel)|exact .inr (by decide+kernel)) (by rw[isSubtype_type];kernel_rfl)
theorem entry_set_iter:entryFor table "set.__iter__" =some Builtin.«frozenset.__iter__»:=
 entryFor_alias (id':= "frozenset.__iter__") (by kernel_rfl) rfl (by decide+kernel) (by kernel_rfl)
theorem args_set_iter(a:ae):argsOk "set.__iter__" ⟨[a],[]⟩:=by unfold argsOk;kernel_rfl
end F
end PySem
namespace PySem
open PyProof.Rows (StrsAre)
abbrev EJ(h:Heap)(I:Addr)(f:ae)(i:Nat)(S:Addr)(n ep:Nat):Prop:=h.get? I=some {cls:= .type "set_iterator",dict:=none,data:= .fields #[f,.int i 0,.ref S,.int n 0,.int ep 0],slots:= #[]}
abbrev AV(h:Heap)(S:Addr)(es:Array (Int×ae))(ep:Nat)(t:bw):Prop:=h.get? S=some {cls:= .type "set",dict:=none,data:= .set es ep t,slots:= #[]}
section
variable{prog:aG}{w:aX}{A:Around}{E:ae->ag->Prop}{s:ag}{I S T:Addr}{i ep:Nat}{es:Array (Int×ae)}{t:bw}{ps:List Nat}
theorem ym{α:Type}{Q:α->ag->Prop}(hh:A.handled=none)(h:∀(h':Heap) (e:Addr),(∀b o,s.heap.get? b=some o->h'.get? b=some o)->(∃o,h'.get? e=some o/\o.cls= .type "StopIteration")->E (.ref e) {s with heap:=h'}):
  wpAny (aK prog w) A (do raiseNew (<-newExc (.type "StopIteration") []):Sem α) Q E s:=by
 refine aa ?_;simp only[newExc,newTuple];refine aa (bI ?_ (by size_fits));refine aa (m:=firstArgMember _ _) (pH (a:=bF) (by first|rfl|(simp only[firstArgMember];rfl)) ?_);refine bI ?_ (by size_fits);refine wpAny_raiseNew_none hh ?_;exact h _ _ (λb o e=>ai _ (ai _ e)) ⟨_,aF _ rfl,rfl⟩
theorem xo{p:Nat}{hx:Int}{x:ae}{n:Nat}{Q:Option ae->ag->Prop}(hit:EJ s.heap I (.ref T) i S es.size ep)(hS:AV s.heap S es ep t)(hf:t.fits es.size=true)
  (hT:s.heap.get? T=some {cls:= .type "tuple",dict:=none,data:= .seq (ps.map fun(p:Nat)=>cZ p 0).toArray n,slots:= #[]}) (hp:ps[i]? =some p) (he:es[p]? =some (hx,x))
  (hQ:∀h':Heap,EJ h' I (.ref T) (i+1) S es.size ep->cM I s.heap h'->Q (some x) {s with heap:=h'}):
  wpAny (aK prog w) A (pyNext (.ref I)) Q E s:=by
 have hTy:s.TypeIs (.ref I) "set_iterator" :=⟨_,hit,rfl⟩;refine aa (fL (cu hTy F.slot_setiter_next (cr F.slot_setiter_next hTy F.entry_setiter_next ?_ (F.args_setiter_next _))));refine aa (show wpAny _ _ (pure (aM I,([]:List ae))) _ _ _ from ah ?_);refine aa (pJ hit rfl ?_);refine aa (iD hS rfl hf ?_);refine cq (by simp) ?_;refine aa (gc hT rfl ?_);have e1:(ps.map fun(p:Nat)=>cZ p 0).toArray[(i:Int).toNat]? =some (.int p 0):=by
  rw[dP,List.getElem?_toArray,br,hp];rfl
 simp only[e1];refine aa ?_;unfold setNextDrawn;refine aa (gS hS rfl hf ?_);refine cq (by simp) ?_;simp only[dP,he];refine ah ?_;refine aa (fZ hit rfl (by simp) (ah ⟨x,rfl,ah (hQ _ ?_ (gA ..))⟩));exact de (jp (·.setIfInBounds 1 (jD ((i:Int)+1)))) hit (je (iF rfl _))
theorem Ag{n:Nat}{Q:Option ae->ag->Prop}(hh:A.handled=none)(hit:EJ s.heap I (.ref T) i S es.size ep)(hS:AV s.heap S es ep t)(hf:t.fits es.size=true)
  (hT:s.heap.get? T=some {cls:= .type "tuple",dict:=none,data:= .seq (ps.map fun(p:Nat)=>cZ p 0).toArray n,slots:= #[]}) (hp:ps[i]? =none)
  (hQ:∀h':Heap,(∀b o,b≠I->s.heap.get? b=some o->h'.get? b=some o)->Q none {s with heap:=h'}):
  wpAny (aK prog w) A (pyNext (.ref I)) Q E s:=by
 have hTy:s.TypeIs (.ref I) "set_iterator" :=⟨_,hit,rfl⟩;refine aa (fL (cu hTy F.slot_setiter_next (cr F.slot_setiter_next hTy F.entry_setiter_next ?_ (F.args_setiter_next _))));refine aa (show wpAny _ _ (pure (aM I,([]:List ae))) _ _ _ from ah ?_);refine aa (pJ hit rfl ?_);refine aa (iD hS rfl hf ?_);refine cq (by simp) ?_;refine aa (gc hT rfl ?_);have e1:(ps.map fun(p:Nat)=>cZ p 0).toArray[(i:Int).toNat]? =none:=by
  rw[dP,List.getElem?_toArray,br,hp];rfl
 simp only[e1];refine aa (fZ hit rfl (by simp) ?_);have h1:=de (jp (·.setIfInBounds 0 (jD 0))) hit (je (iF rfl _));refine aa (fZ h1 (iF rfl _) (by simp) ?_);refine ym hh λh' e hk hPl=> ?_;obtain⟨o,ho,hc⟩:=hPl;refine aa (mI ⟨o,ho,hc⟩ isSubtype_stop (ah (hQ h' λb ob hb q=>hk b ob ?_)));rw[bW _ _ (aY hb),bW _ _ (aY hb)];exact q
theorem qP{slot next:Nat}{x:ae}{Q:Option ae->ag->Prop}(hit:EJ s.heap I (.int slot 0) i S es.size ep)(hS:AV s.heap S es ep t)(hf:t.fits es.size=true)
  (hn:∀(R:Option (ae×Nat)->ag->Prop) (E':ae->ag->Prop) (B:Around),R (some (x,next)) s->wpAny (aK prog w) B (setNext S slot i ep) R E' s)
  (hQ:∀h':Heap,EJ h' I (.int next 0) (i+1) S es.size ep->cM I s.heap h'->Q (some x) {s with heap:=h'}):
  wpAny (aK prog w) A (pyNext (.ref I)) Q E s:=by
 have hTy:s.TypeIs (.ref I) "set_iterator" :=⟨_,hit,rfl⟩;refine aa (fL (cu hTy F.slot_setiter_next (cr F.slot_setiter_next hTy F.entry_setiter_next ?_ (F.args_setiter_next _))));refine aa (show wpAny _ _ (pure (aM I,([]:List ae))) _ _ _ from ah ?_);refine aa (pJ hit rfl ?_);refine aa (iD hS rfl hf ?_);refine cq (by simp) ?_;show wpAny _ _ (setNext S (slot:Int).toNat (i:Int).toNat (ep:Int).toNat>>=_) _ _ _;rw[dP,dP,dP];refine aa (hn _ _ _ ?_);refine aa (fZ hit rfl (by simp) ?_);have h1:EJ (s.heap.update I (jp (·.setIfInBounds 0 (jD next)))) I (.int next 0) i S es.size ep:=de (jp (·.setIfInBounds 0 (jD next))) hit (je (iF rfl _));refine aa (fZ h1 rfl (by simp) (ah ⟨x,rfl,ah (hQ _ ?_ ((gA ..).trans (gA ..)))⟩));exact de (jp (·.setIfInBounds 1 (jD ((i:Int)+1)))) h1 (je (iF rfl _))
theorem sU{slot:Nat}{Q:Option ae->ag->Prop}(hh:A.handled=none)(hit:EJ s.heap I (.int slot 0) i S es.size ep)(hS:AV s.heap S es ep t)(hf:t.fits es.size=true)
  (hn:∀(R:Option (ae×Nat)->ag->Prop) (E':ae->ag->Prop) (B:Around),R none s->wpAny (aK prog w) B (setNext S slot i ep) R E' s)
  (hQ:∀h':Heap,(∀b o,b≠I->s.heap.get? b=some o->h'.get? b=some o)->Q none {s with heap:=h'}):
  wpAny (aK prog w) A (pyNext (.ref I)) Q E s:=by
 have hTy:s.TypeIs (.ref I) "set_iterator" :=⟨_,hit,rfl⟩;refine aa (fL (cu hTy F.slot_setiter_next (cr F.slot_setiter_next hTy F.entry_setiter_next ?_ (F.args_setiter_next _))));refine aa (show wpAny _ _ (pure (aM I,([]:List ae))) _ _ _ from ah ?_);refine aa (pJ hit rfl ?_);refine aa (iD hS rfl hf ?_);refine cq (by simp) ?_;show wpAny _ _ (setNext S (slot:Int).toNat (i:Int).toNat (ep:Int).toNat>>=_) _ _ _;rw[dP,dP,dP];refine aa (hn _ _ _ ?_);refine aa (fZ hit rfl (by simp) ?_);refine ym hh λh' e hk hPl=> ?_;obtain⟨o,ho,hc⟩:=hPl;refine aa (mI ⟨o,ho,hc⟩ isSubtype_stop (ah (hQ h' λb ob hb q=>hk b ob ?_)));rw[bW _ _ (aY hb)];exact q
end
end PySem
namespace PySem
open PyProof.Rows (StrsAre)
section
variable{prog:aG}{w:aX}{A:Around}{E:ae->ag->Prop}{s:ag}{I S T:Addr}{i ep:Nat}{es:Array (Int×ae)}{t:bw}{ps:List Nat}
theorem nK{slot:Nat}{R:Option (ae×Nat)->ag->Prop}(hby:w.params.followText "set-order" =true)(hS:AV s.heap S es ep t)(hf:t.fits es.size=true)
  (h:R (((fD (w.params.setOrder S ep) es)[i]?).map λe=>(e.2,slot)) s):wpAny (aK prog w) A (setNext S slot i ep) R E s:=by
 unfold setNext;refine aa (gS hS rfl hf ?_);refine aa ?_;unfold setsByText;refine aa (iq (ah ?_));refine wpAny_ite_true (decide_eq_true hby) ?_;refine cq (by simp) ?_;refine aa ?_;unfold setWalk;refine aa (gS hS rfl hf ?_);refine aa ?_;unfold setsByText;refine aa (iq (ah ?_));refine wpAny_ite_true (decide_eq_true hby) ?_;refine aa (iq (ah ?_));exact ah h
inductive SMode where
 |D (T:Addr) (n:Nat) (ps:List Nat)|B|U
def SMode.tup:SMode->Heap->Prop
 | .D T n ps,h=>h.get? T=some {cls:= .type "tuple",dict:=none,data:= .seq (ps.map fun(p:Nat)=>cZ p 0).toArray n,slots:= #[]}
 |_,_=>True
def SMode.fp(I S:Addr):SMode->List Addr
 | .D T _ _=>[I,S,T]
 |_=>[I,S]
def SMode.ord(w:aX)(S:Addr)(ep:Nat)(es:Array (Int×ae)):SMode->List (Int×ae)
 | .D _ _ ps=>ps.filterMap λp=>es[p]?
 | .B=>(fD (w.params.setOrder S ep) es).toList
 | .U=>es.toList
theorem vI{ps:List Nat}(hp:ps.Perm (bQ es.size)):∀{i p:Nat},ps[i]? =some p->∃e,es[p]? =some e/\(ps.filterMap λp=>es[p]?)[i]? =some e:=by
 have hall:∀p∈ps,∃e,es[p]? =some e:=λp h=>by
  have:p<es.size:=by simpa using hp.mem_iff.mp h
  exact⟨es[p],by simp[this]⟩
 clear hp;induction ps with
 |nil=>intro i p h;simp at h
 |cons a l ih=>
  intro i p h
  obtain⟨e,he⟩:=hall a (by simp)
  rw[dO,he]
  cases i with
  |zero=>
   have:a=p:=by simpa using h
   subst this
   exact⟨e,he,rfl⟩
  |succ i=>exact ih (λp hp=>hall p (by simp[hp])) (by simpa using h)
theorem zZ{ps:List Nat}(hp:ps.Perm (bQ es.size)):(ps.filterMap λp=>es[p]?).length=ps.length:=by
 have hall:∀p∈ps,∃e,es[p]? =some e:=λp h=>by
  have:p<es.size:=by simpa using hp.mem_iff.mp h
  exact⟨es[p],by simp[this]⟩
 clear hp;induction ps with
 |nil=>rfl
 |cons a l ih=>
  obtain⟨e,he⟩:=hall a (by simp)
  rw[dO,he,aj,aj,ih λp hp=>hall p (by simp[hp])]
theorem zS(es:Array (Int×ae)):(bQ es.size).filterMap (λp=>es[p]?)=es.toList:=by
 apply qh;intro i;by_cases hi:i<es.size
 ·obtain⟨e,he,h⟩:=vI (es:=es) (ps:=bQ es.size) (.refl _) (i:=i) (p:=i) (jF hi);rw[h,<-he];simp
 ·rw[gw (by rw[zZ (.refl _),iY];ac_nf),gw (by simpa using hi)]
end
end PySem
namespace PySem
open PyProof.Rows (StrsAre)
section
end
end PySem
namespace PySem
open PyProof.Rows
section
end
end PySem
namespace L3
open PySem L2
section
end
end L3
namespace PySem
open Sem (wp)
open Builtin
end PySem
namespace L3
open PySem L2
section
end
def LL(z:Str):Prop:=(z.cps.all λx=>decide (x<128))=true
def okT(z:Str):Prop:=LL z/\z.length<=1000
@[reducible] def GG (S:Str):PV->Bool
 | .str i=> !(bq S i 0 S.length 1).isEmpty
 |_=>false
@[reducible] def Ow:PV->Bool
 | .tup [.str x,.str y]=>decide (x.cps.toList<y.cps.toList)
 |_=>false
def LN:Str:= "abcdefghijklmnopqrstuvwxyz"
def wm:Str:= " !\"#$&'()*+,-./0123456789:;<=>?@ABCDEFGHIJKLMNOPQRSTUVWXYZ[\\]^_`abcdefghijklmnopqrstuvwxyz{|}~"
def F0:List (Str×Int):=[("none",1),("blank",1),("sign",2),("row",2),("pick",2),("again",2),("held",3),("price",3)]
def xC(k:Str):Option Int:=(F0.find? λx=>x.1==k).map (·.2)
def jH(z:Str):Bool:=decide (1<=z.length)&&decide (z.length<=8)&&(dA z).all (GG LN)
def sB(z:Str):Bool:=(dA z).all (GG wm)
def jI(z:Str):Bool:=sB z&& !(z== "")&&(r9 z (bO z (some 1) none)).all Ow
def qt:PV->Bool
 | .str z=>jH z
 |_=>false
def ve:PV->Bool
 | .str z=>sB z
 |_=>false
def ll:PV->Bool
 | .str z=>jI z
 |_=>false
def qW:PV->Bool
 | .tup (.str k::xs)=>xC k==some ((xs.length:Int)+1)
 |_=>false
def dX:PV->Bool
 | .tup ys=>decide (2<=ys.length)&&decide (ys.length<=6)
 |_=>false
def lp:PV->Bool
 | .int n=>decide (0<=n)&&decide (n<=1000)
 |_=>false
def k9:PV->Bool
 | .tup [.str k]=>k== "none" ||k== "blank"
 | .tup [.str k,y]=>(k== "sign" &&ll y)||(k== "row" &&dX y)||(k== "pick" &&dX y)||k== "again"
 | .tup [.str k,y,_]=>(k== "held" &&qt y)||(k== "price" &&lp y)
 |_=>false
inductive uU:PV->List PV->Prop
 |none:uU (.tup [.str "none"]) []
 |blank:uU (.tup [.str "blank"]) []
 |sign (s:Str):uU (.tup [.str "sign",.str s]) []
 |row (ys:List PV):uU (.tup [.str "row",.tup ys]) ys
 |pick (ys:List PV):uU (.tup [.str "pick",.tup ys]) ys
 |again (y:PV):uU (.tup [.str "again",y]) [y]
 |held (n:Str) (y:PV):uU (.tup [.str "held",.str n,y]) [y]
 |price (n:Int) (y:PV):uU (.tup [.str "price",.int n,y]) [y]
inductive Hf:PV->Prop
 |none:Hf (.tup [.str "none"])
 |blank:Hf (.tup [.str "blank"])
 |sign (y:PV):Hf (.tup [.str "sign",y])
 |row (y:PV):Hf (.tup [.str "row",y])
 |pick (y:PV):Hf (.tup [.str "pick",y])
 |again (y:PV):Hf (.tup [.str "again",y])
 |held (n:PV) (y:PV):Hf (.tup [.str "held",n,y])
 |price (n:PV) (y:PV):Hf (.tup [.str "price",n,y])
theorem Al{k:Str}{n:Int}(h:xC k=some n):(k,n)∈F0:=by
 unfold xC at h;obtain⟨x,hx,rfl⟩:=Option.map_eq_some_iff.mp h;have h1:=List.find?_some hx;have h2:=List.mem_of_find?_eq_some hx;have:x.1=k:=by simpa using h1
 subst this;exact h2
theorem Kb{v:PV}(h:qW v=true):Hf v:=by
 match v,h with
 | .tup (.str k::xs),h=>
  have h':xC k=some ((xs.length:Int)+1):=by simpa [qW]using h
  have hm:=Al h'
  simp only[F0,aw,kc,bu,or_false]at hm
  have l0:∀{xs:List PV},((xs.length:Int)+1=1)->xs=[]:=fun{xs} e=>fK.mp (by ac_nf)
  have l1:∀{xs:List PV},((xs.length:Int)+1=2)->∃y,xs=[y]:=fun{xs} e=>List.length_eq_one_iff.mp (by ac_nf)
  have l2:∀{xs:List PV},((xs.length:Int)+1=3)->∃y z,xs=[y,z]:=fun{xs} e=>match xs,e with
   |[y,z],_=>⟨y,z,rfl⟩
   |[],e=>absurd e (by simp)
   |[_],e=>absurd e (by simp)
   |_::_::_::_,e=>absurd e (by simp only[aj];ac_nf)
  rcases hm with⟨rfl,e⟩|⟨rfl,e⟩|⟨rfl,e⟩|⟨rfl,e⟩|⟨rfl,e⟩|⟨rfl,e⟩|⟨rfl,e⟩|⟨rfl,e⟩
  ·cases l0 e;exact .none
  ·cases l0 e;exact .blank
  ·obtain⟨y,rfl⟩:=l1 e;exact .sign y
  ·obtain⟨y,rfl⟩:=l1 e;exact .row y
  ·obtain⟨y,rfl⟩:=l1 e;exact .pick y
  ·obtain⟨y,rfl⟩:=l1 e;exact .again y
  ·obtain⟨y,z,rfl⟩:=l2 e;exact .held y z
  ·obtain⟨y,z,rfl⟩:=l2 e;exact .price y z
theorem JY{v:PV}(h:k9 v=true):∃ys,uU v ys/\ys.length<=6:=by
 match v,h with
 | .tup [.str k],h=>
  have:k= "none" \/k= "blank" :=by simpa [k9]using h
  rcases this with rfl|rfl
  ·exact⟨_,.none,by simp⟩
  ·exact⟨_,.blank,by simp⟩
 | .tup [.str k,y],h=>
  have:(((k= "sign" /\ll y=true)\/(k= "row" /\dX y=true))\/(k= "pick" /\dX y=true))\/k= "again" :=by simpa [k9]using h
  rcases this with((⟨rfl,hp⟩|⟨rfl,hp⟩)|⟨rfl,hp⟩)|rfl
  ·match y,hp with
   | .str s,_=>exact⟨_,.sign s,by simp⟩
  ·match y,hp with
   | .tup ys,hp=>
    have h':dX (.tup ys)=true:=hp
    have:2<=ys.length/\ys.length<=6:=by simpa [dX]using h'
    exact⟨_,.row ys,this.2⟩
  ·match y,hp with
   | .tup ys,hp=>
    have h':dX (.tup ys)=true:=hp
    have:2<=ys.length/\ys.length<=6:=by simpa [dX]using h'
    exact⟨_,.pick ys,this.2⟩
  ·exact⟨_,.again y,by simp⟩
 | .tup [.str k,y,z],h=>
  have:(k= "held" /\qt y=true)\/(k= "price" /\lp y=true):=by simpa [k9]using h
  rcases this with⟨rfl,h⟩|⟨rfl,h⟩
  ·match y,h with
   | .str s,_=>exact⟨_,.held s z,by simp⟩
  ·match y,h with
   | .int s,_=>exact⟨_,.price s z,by simp⟩
theorem E1(p:Pt):uU (dh p) (b9 (dE p)):=by
 cases p with
 |none=>exact .none
 |blank=>exact .blank
 |sign s=>exact .sign s
 |row ps=>exact .row _
 |pick ps=>exact .pick _
 |again p=>exact .again _
 |held n p=>exact .held _ _
 |price n p=>exact .price _ _
def PB:PV->List PV
 | .tup [.str k,y]=>if k== "again" then[y]else(match y with| .tup ys=>ys|_=>[])
 | .tup [_,_,y]=>[y]
 |_=>[]
theorem yy{v:PV}{ys:List PV}(h:uU v ys):ys=PB v:=by
 cases h<;>rfl
theorem EZ{v:PV}{ys zs:List PV}(h1:uU v ys)(h2:uU v zs):ys=zs:=(yy h1).trans (yy h2).symm
theorem BA{v:PV}{qs:List Pt}(h:uU v (b9 qs)):∃p,v=dh p/\dE p=qs:=by
 generalize hy:b9 qs=ys at h;cases h with
 |none=>cases qs with
  |nil=>exact⟨.none,rfl,rfl⟩
  |cons a b=>cases hy
 |blank=>cases qs with
  |nil=>exact⟨.blank,rfl,rfl⟩
  |cons a b=>cases hy
 |sign s=>cases qs with
  |nil=>exact⟨.sign s,rfl,rfl⟩
  |cons a b=>cases hy
 |row=>subst hy;exact⟨.row qs,rfl,rfl⟩
 |pick=>subst hy;exact⟨.pick qs,rfl,rfl⟩
 |again y=>match qs,hy with
  |[q],hy=>injection hy with hy;subst hy;exact⟨.again q,rfl,rfl⟩
 |held n y=>match qs,hy with
  |[q],hy=>injection hy with hy;subst hy;exact⟨.held n q,rfl,rfl⟩
 |price n y=>match qs,hy with
  |[q],hy=>injection hy with hy;subst hy;exact⟨.price n q,rfl,rfl⟩
theorem fe:∀{ps:List Pt} {c:Pt},c∈ps->size c<=bL ps
 |p::ps,c,h=>by
  rcases aw.mp h with rfl|h
  ·simp only[bL];ac_nf
  ·have:=fe h;simp only[bL];ac_nf
theorem eZ:∀{ps:List Pt} {c:Pt},c∈ps->depth c<=bX ps
 |p::ps,c,h=>by
  rcases aw.mp h with rfl|h
  ·simp only[bX];ac_nf
  ·have:=eZ h;simp only[bX];ac_nf
theorem tD{n:Nat}:∀{ps:List Pt},(∀c∈ps,depth c<=n)->bX ps<=n
 |[],_=>c8 _
 |p::ps,h=>by
  simp only[bX];exact Nat.max_le.mpr ⟨h p (by simp),tD λc hc=>h c (by simp[hc])⟩
theorem iK:∀{ps:List Pt} {c:Pt},c∈fG ps↔∃p∈ps,c∈makes p
 |[],c=>by simp[fG]
 |p::ps,c=>by
  show c∈makes p++fG ps↔_;rw[aH,iK (ps:=ps)];simp
theorem xw(p:Pt):p∈makes p:=by rw[fE];simp
theorem xx{p c d:Pt}(hc:c∈dE p)(hd:d∈makes c):d∈makes p:=by
 rw[fE];exact aw.mpr (.inr (iK.mpr ⟨c,hc,hd⟩))
abbrev MX(p:Pt):Prop:=∀c∈makes p,k9 (dh c)=true
def LF(v:PV):Prop:=∃p,v=dh p/\depth p<=9/\size p<=40/\MX p
def D4(x:Pt×Int):PV×Int:=(dh x.1,x.2)
def wn(st:List (PV×Int))(sn:Int):Prop:=∃ps:List (Pt×Int),st=ps.map D4/\(∀x∈ps,(depth x.1:Int)+x.2<=10/\MX x.1)/\(bL (ps.map (·.1)):Int)+sn<=40
theorem B0{sn:Int}(h:sn<=40):wn [] sn:=⟨[],rfl,by simp,by simpa [bL]using h⟩
theorem BZ{v:PV}:wn [(v,1)] 0↔LF v:=by
 constructor
 ·rintro⟨ps,e,h1,h2⟩;match ps,e,h1,h2 with
  |[],e,_,_=>cases e
  |_::_::_,e,_,_=>simp at e
  |[x],e,h1,h2=>
   have hx:=h1 x (by simp)
   simp only[D4,aU,fW,List.cons.injEq,kc,and_true]at e
   refine⟨x.1,e.1,?_,?_,hx.2⟩
   ·have:=hx.1;rw[<-e.2]at this;ac_nf
   ·simp only[aU,fW,bL]at h2;ac_nf
 ·rintro⟨p,rfl,h1,h2,h3⟩;refine⟨[(p,1)],rfl,?_,?_⟩
  ·intro x hx;cases ar.mp hx;exact⟨by show(depth p:Int)+1<=10;ac_nf,h3⟩
  ·simp only[aU,fW,bL];ac_nf
theorem pZ{st:List (PV×Int)}{x:PV}{d sn:Int}(h:wn (st++[(x,d)]) sn):d<=9/\sn+1<=40/\k9 x=true/\∀ys,uU x ys->wn (st++ys.map λy=>(y,d+1)) (sn+1):=by
 obtain⟨ps,e,h1,h2⟩:=h;obtain⟨ps',qs,rfl,e1,e2⟩:=zD.mp e.symm;match qs,e2 with
 |[y],e2=>
 simp only[D4,aU,fW,List.cons.injEq,kc,and_true]at e2;obtain⟨e3,e4⟩:=e2;have hy:=h1 y (by simp);have dp:=ij y.1;have sp:=iw y.1;simp only[a9,gD,aU,fW,bL]at h2;refine⟨by ac_nf,by ac_nf,by rw[<-e3];exact hy.2 _ (xw _),λys hs=> ?_⟩;rw[<-e3]at hs;have hys:=EZ hs (E1 y.1);refine⟨ps'++(dE y.1).map λc=>(c,d+1),?_,?_,?_⟩
 ·rw[a9,e1,hys,dF,bB,bB];rfl
 ·intro z hz;rcases aH.mp hz with hz|hz
  ·exact h1 z (by simp[hz])
  ·obtain⟨c,hc,rfl⟩:=bA.mp hz;have:=eZ hc;have:=bM y.1;refine⟨?_,λc' hc'=>hy.2 c' (xx hc hc')⟩;show(depth c:Int)+(d+1)<=10;ac_nf
 ·have:=cS y.1;rw[a9,gD,bB];have e5:(dE y.1).map ((λx:Pt×Int=>x.1)∘λc=>(c,d+1))=dE y.1:=by
   rw[show((λx:Pt×Int=>x.1)∘λc=>(c,d+1))=id from rfl,List.map_id]
  rw[e5];ac_nf
theorem zR{st:List (PV×Int)}{x:PV}{ys:List PV}{d sn:Int}(hd:d<=9)(hm:k9 x=true)(hs:uU x ys)(h:wn (st++ys.map λy=>(y,d+1)) (sn+1)):wn (st++[(x,d)]) sn:=by
 obtain⟨ps,e,h1,h2⟩:=h;obtain⟨ps',qs,rfl,e1,e2⟩:=zD.mp e.symm;have e3:ys=b9 (qs.map (·.1)):=by
  have:=congrArg (List.map Prod.fst) e2;rw[bB,bB]at this;rw[dF,bB];have e4:ys.map (Prod.fst∘λy=>(y,d+1))=ys:=by
   rw[show((Prod.fst:PV×Int->PV)∘λy=>(y,d+1))=id from rfl,List.map_id]
  rw[<-e4,<-this];rfl
 have e5:∀z∈qs,z.2=d+1:=λz hz=>by
  have:D4 z∈qs.map D4:=bA.mpr ⟨z,hz,rfl⟩;rw[e2]at this;obtain⟨y,_,hy⟩:=bA.mp this;have:=congrArg Prod.snd hy;exact this.symm
 rw[e3]at hs;obtain⟨p,rfl,hi⟩:=BA hs;refine⟨ps'++[(p,d)],by rw[a9,e1];rfl,?_,?_⟩
 ·intro z hz;rcases aH.mp hz with hz|hz
  ·exact h1 z (by simp[hz])
  ·cases ar.mp hz;refine⟨?_,?_⟩
   ·have h3:∀c∈dE p,(depth c:Int)+(d+1)<=10:=by
     rw[hi];intro c hc;obtain⟨z,hz,rfl⟩:=bA.mp hc;have:=(h1 z (by simp[hz])).1;rw[e5 z hz]at this;exact this
    have h4:=tD (n:=(9-d).toNat) (ps:=dE p) λc hc=>by have:=h3 c hc;ac_nf
    have:=bM p
    show(depth p:Int)+d<=10
    ac_nf
   ·intro c hc;rw[fE]at hc;rcases aw.mp hc with rfl|hc
    ·exact hm
    ·obtain⟨q,hq,hc⟩:=iK.mp hc;rw[hi]at hq;obtain⟨z,hz,rfl⟩:=bA.mp hq;exact(h1 z (by simp[hz])).2 c hc
 ·have:=cS p;rw[hi]at this;rw[a9,gD]at h2⊢;simp only[aU,fW,bL]at h2⊢;ac_nf
def uT:Nat->PV->Option Pt
 |0,_=>none
 |n+1,.tup [.str k]=>if k== "none" then some .none else if k== "blank" then some .blank else none
 |n+1,.tup [.str k,x]=>if k== "again" then(uT n x).map .again else match x with
   | .str s=>if k== "sign" then some (.sign s)else none
   | .tup xs=>if k== "row" then(xs.mapM (uT n)).map .row else if k== "pick" then(xs.mapM (uT n)).map .pick else none
   |_=>none
 |n+1,.tup [.str k,.str m,x]=>if k== "held" then(uT n x).map (.held m)else none
 |n+1,.tup [.str k,.int m,x]=>if k== "price" then(uT n x).map (.price m)else none
 |_,_=>none
theorem lZ:∀(n:Nat) (p:Pt),depth p<=n->uT n (dh p)=some p
 |0,p,h=>by have:=ij p;ac_nf
 |n+1,p,h=>by
  have hi:=bM p;have key:∀ps:List Pt,bX ps<=n->(b9 ps).mapM (uT n)=some ps:=by
   intro ps;induction ps with
   |nil=>intro _;rfl
   |cons a l ih=>
    intro h
    simp only[bX]at h
    show(dh a::b9 l).mapM (uT n)=_
    rw[List.mapM_cons,lZ n a (by ac_nf),ih (by ac_nf)]
    rfl
  cases p with
  |none=>rfl
  |blank=>rfl
  |sign s=>rfl
  |row ps=>
   have:uT (n+1) (dh (.row ps))=((b9 ps).mapM (uT n)).map .row:=rfl
   rw[this,key ps (by simp only[depth]at h;ac_nf)]
   rfl
  |pick ps=>
   have:uT (n+1) (dh (.pick ps))=((b9 ps).mapM (uT n)).map .pick:=rfl
   rw[this,key ps (by simp only[depth]at h;ac_nf)]
   rfl
  |again p=>
   have:uT (n+1) (dh (.again p))=(uT n (dh p)).map .again:=rfl
   rw[this,lZ n p (by simp only[depth]at h;ac_nf)]
   rfl
  |held m p=>
   have:uT (n+1) (dh (.held m p))=(uT n (dh p)).map (.held m):=rfl
   rw[this,lZ n p (by simp only[depth]at h;ac_nf)]
   rfl
  |price m p=>
   have:uT (n+1) (dh (.price m p))=(uT n (dh p)).map (.price m):=rfl
   rw[this,lZ n p (by simp only[depth]at h;ac_nf)]
   rfl
theorem GO{p q:Pt}(h:dh p=dh q):p=q:=by
 have h1:=lZ (depth p+depth q) p (by ac_nf);have h2:=lZ (depth p+depth q) q (by ac_nf);rw[h]at h1;rw[h1]at h2;exact bt h2
def Ia:Pt->Bool
 | .again p=> !eL p
 |_=>true
abbrev Pk(p:Pt):Prop:=∀c∈makes p,Ia c=true
def P2(v:PV):Prop:=∃p,v=dh p/\depth p<=9/\size p<=40/\MX p/\Pk p
theorem lV{p:Pt}:P2 (dh p)↔depth p<=9/\size p<=40/\MX p/\Pk p:=
 ⟨λ⟨q,e,h⟩=>by cases GO e;exact h,λh=>⟨p,rfl,h⟩⟩
theorem qz{z:Str}(h:1<=z.length):(bO z (some 1) none).cps.toList=z.cps.toList.drop 1:=by
 have e:=PyProof.Rows.slice_from_eq (x:=z) (i:=1) (b:=z.length) (by decide) (by ac_nf) rfl;rw[e];show(List.take _ (List.drop 1 z.cps.toList))=_;refine cE ?_;have:z.cps.toList.length=z.length:=by simp[mi]
 rw[aW];ac_nf
theorem oG{z:Str}(h:1<=z.length):(bO z (some 1) none).cps.size=z.length-1:=by
 have:=congrArg cX (qz h);rw[aW]at this;have e:z.cps.toList.length=z.length:=by simp[mi]
 rw[e]at this;simpa using this
theorem J8{a b:Nat}(h:a<b):[a]<[b]:=List.Lex.rel h
theorem E8{s:Str}(h1:s.cps.toList≠[])(h2:s.cps.toList.Pairwise (· <·))(h3:∀c∈s.cps.toList,GG wm (.str (c9 c))=true):jI s=true:=by
 have el:s.cps.toList.length=s.length:=by simp[mi]
 have l1:1<=s.length:=by
  rw[<-el];exact List.length_pos_iff.mpr h1
 unfold jI;rw[aB,aB];refine⟨⟨?_,?_⟩,?_⟩
 ·unfold sB;rw[bv];intro x hx;unfold dA at hx;obtain⟨c,hc,rfl⟩:=bA.mp hx;exact h3 c hc
 ·have:¬s= "" :=λe=>by rw[e]at h1;exact h1 rfl
  simpa using this
 ·rw[bv];intro x hx;unfold r9 at hx;obtain⟨i,hi,rfl⟩:=bA.mp hx;rw[iX,oG l1]at hi;have e2:(bO s (some 1) none).cps[i]? =s.cps[i+1]? :=by
   have:=congrArg (λl=>l[i]?) (qz l1);simp only[aZ,pE]at this;rw[this,Nat.add_comm]
  rw[e2];have hi1:i+1<s.cps.toList.length:=by ac_nf
  have g1:s.cps[i]? =some s.cps.toList[i]:=by rw[<-aZ];exact au (by ac_nf)
  have g2:s.cps[i+1]? =some s.cps.toList[i+1]:=by rw[<-aZ];exact au hi1
  rw[g1,g2];show decide ([s.cps.toList[i]]<[s.cps.toList[i+1]])=true;exact decide_eq_true (J8 (bd.mp h2 i (i+1) (by ac_nf) hi1 (by ac_nf)))
mutual
def pk:PV->Prop
 | .str z=>okT z
 | .int _=>True
 | .tup xs=>Ae xs
 |_=>False
def Ae:List PV->Prop
 |[]=>True
 |x::xs=>pk x/\Ae xs
end
theorem iy:∀{xs:List PV},Ae xs↔∀x∈xs,pk x
 |[]=>by simp[Ae]
 |p::ps=>by rw[Ae,iy (xs:=ps)];simp
theorem ID{v:PV}{ys:List PV}(h:uU v ys)(hv:pk v):∀y∈ys,pk y:=by
 cases h with
 |none=>intro y hy;cases hy
 |blank=>intro y hy;cases hy
 |sign s=>intro y hy;cases hy
 |row=>exact iy.mp (iy.mp hv (.tup ys) (by simp))
 |pick=>exact iy.mp (iy.mp hv (.tup ys) (by simp))
 |again y=>intro z hz;cases ar.mp hz;exact iy.mp hv y (by simp)
 |held n y=>intro z hz;cases ar.mp hz;exact iy.mp hv y (by simp)
 |price n y=>intro z hz;cases ar.mp hz;exact iy.mp hv y (by simp)
theorem ji{s:Str}(h:autoParam ((s.cps.all λx=>decide (x<128))=true) Qo)(h2:autoParam (s.length<=1000) Qo):pk (.str s):=⟨h,h2⟩
def ya:List DictEntry->List (Str×Int)->Prop
 |[],[]=>True
 |e::es,x::xs=>(∃t,e.key= .str x.1 t)/\(∃t,e.val= .int x.2 t)/\ya es xs
 |_,_=>False
def Oj(P:aG)(w:aX)(o:Obj)(l:List (Str×Int)):Prop:=o.ExactDict/\∃es ep,o.data= .dict es ep/\KeysOf (ku P w) es/\ya es.toList l
theorem key_ok{P:aG}{w:aX}(x:Str)(t:Tok):∃k,(ku P w).is k (.str x t)=true/\PyData.keyHash w.params x=(ku P w).hash k:=⟨.inr x,by show jc x (.str x t)=true;simp[jc],rfl⟩
theorem tu(k:Str):∀{es:List DictEntry} {l:List (Str×Int)},ya es l->
  ((es.find? λe=>pr (.inr k) e.key).map (·.val)=none/\(l.find? λx=>x.1==k).map (·.2)=none)\/∃n t,(es.find? λe=>pr (.inr k) e.key).map (·.val)=some (.int n t)/\(l.find? λx=>x.1==k).map (·.2)=some n
 |[],[],_=> .inl ⟨rfl,rfl⟩
 |[],_::_,h=>h.elim
 |_::_,[],h=>h.elim
 |e::es,x::xs,⟨⟨t,hk⟩,⟨t',hv⟩,h⟩=>by
  have e1:pr (.inr k) e.key=(x.1==k):=by rw[hk];rfl
  rw[List.find?_cons,List.find?_cons,e1];cases hb:(x.1==k)with
  |true=>exact .inr ⟨x.2,t',by show some e.val=_;rw[hv],rfl⟩
  |false=>exact tu k h
theorem FZ{P:aG}{w:aX}{K:PySem.W.Frag}{d:Addr}{o:Obj}{l:List (Str×Int)}(h:Oj P w o l)(hk:K.lookup d=some o)(hs:(d==sysModules)=false):LH P w K d λk=>(l.find? λx=>x.1==k).map (·.2):=by
 obtain⟨ex,es,ep,hd,hks,hv⟩:=h;refine⟨hs,o,es,ep,hk,ex,hd,hks,λk=> ?_⟩;have:=tu k hv;unfold findBy;rw[<-Array.find?_toList];exact this
theorem yx:wm.cps.toList.length=94:=by decide+kernel
section
end
end L3
namespace L2
open PySem PySem.Spec PyProof.Rows
section
end
end L2
namespace L3
open PySem L2
section
end
section
end
section
end
section
end
section
end
section
end
def jb:B2:=λp q G Q=>match p,q with
 | .tup [],.tup ys=>Q (.tup ys) G
 |p,q=>Ex p q G Q
theorem Hb{xs ys:List PV}{G:Gp}{Q:K2}(hl:xs.length+ys.length<=16000000)(q:Q (.tup (xs++ys)) G):jb (.tup xs) (.tup ys) G Q:=by
 cases xs with
 |nil=>exact q
 |cons x xs=>exact⟨by simp,hl,q⟩
theorem eH{x y:Str}{G:Gp}{Q:K2}(hl:x.length+y.length<=16000000)(q:Q (.str (x++y)) G):jb (.str x) (.str y) G Q:=⟨hl,q⟩
theorem b8{x y:Int}{G:Gp}{Q:K2}(q:Q (.int (x+y)) G):jb (.int x) (.int y) G Q:=q
section
variable{X:Cx}{a b:Expr}{ta tb:E2}{pos:Pos}
theorem JP:ik X (dC .Add) (gn X.K jb):=by
 intro pins s σ H x y v u Q I rx ry h;obtain⟨p,q,G,Q2,d1,d2,rp,h,cl⟩:=h;unfold jb at h;split at h
 ·rename_i ys;obtain⟨a,vs,rfl,sa,da⟩:=d1;obtain⟨b,us,rfl,sb,db⟩:=d2;obtain rfl:vs=[]:=da;cases rx;cases ry;obtain⟨its,r1,p1,_⟩:=I.tuple sa;obtain⟨its2,r2,p2,_⟩:=I.tuple sb;obtain rfl:its=[]:=r1.nil_iff.mpr rfl;obtain⟨⟨cls,dd,data,sl⟩,ho,hc,n,hd⟩:=id p1;obtain⟨⟨cls2,dd2,data2,EW⟩,ho2,hc2,n2,hd2⟩:=id p2;simp only at hc hd hc2 hd2;subst hc hd hc2 hd2;exact PySem.concat_meets ⟨_,ho,rfl⟩ ⟨_,ho2,rfl⟩ PySem.noFill_tuple_add PySem.seq_tuple_add PySem.F.slot_tuple_add PySem.F.entry_tuple_add (PySem.F.args_tuple_add_2 _ _)
   (PyProof.Rows.tuple_addW0 a b _ _ n n2 dd dd2 sl EW rfl) ⟨ho,ho2,.ref b,H,I,rfl,cl _ _ _ _ h ⟨b,us,rfl,sb,db⟩ rp .refl⟩
 ·exact M7 pins s σ H x y v u Q I rx ry ⟨p,q,G,Q2,d1,d2,rp,h,cl⟩
theorem Gy(ha:JE X a ta)(hb:JE X b tb):JE X (.BinOp a .Add b pos) (nr jb ta tb):=vV JP ha hb
end
end L3
namespace PySem
open PyProof.Rows (StrsAre)
section
end
end PySem
namespace L3
open PySem L2
theorem yV{ss:List Str}(h:∀z∈ss,∃c,z=c9 c):∃cs:List Nat,ss=cs.map c9:=by
 induction ss with
 |nil=>exact⟨[],rfl⟩
 |cons z ss ih=>
  obtain⟨c,rfl⟩:=h z (by simp)
  obtain⟨cs,rfl⟩:=ih λy hy=>h y (by simp[hy])
  exact⟨c::cs,rfl⟩
theorem qM{a b:Nat}(h:c9 a=c9 b):a=b:=by
 have:=congrArg (λz:Str=>z.cps.getD 0 0) h;exact this
theorem iT{α:Type}[DecidableEq α]:∀{a b:List α},a.Nodup->(∀x∈a,x∈b)->a.length<=b.length
 |[],_,_,_=>c8 _
 |x::a,b,hn,h=>by
  obtain⟨h1,h2⟩:=dR.mp hn;have hx:=h x (by simp);have ih:=iT (a:=a) (b:=b.erase x) h2 λy hy=>by
   have hne:y≠x:=λe=>by subst e;exact h1 hy
   exact(List.mem_erase_of_ne hne).mpr (h y (by simp[hy]))
  rw[List.length_erase_of_mem hx]at ih;have:0<b.length:=List.length_pos_of_mem hx;rw[aj];ac_nf
theorem Eh:bN "set" =some (.type "set"):=by decide+kernel
theorem BN.set{mg:Str->Option ae}(h:BN mg):mg "set" =none:=h _ (by decide+kernel)
section
end
end L3
namespace L2
open PySem PySem.Spec PyProof.Rows
theorem zk(h:Heap):∀S:List Addr,∃b:Heap,(∀a∈S,b.get? a=none)/\∀a,a∉S->b.get? a=h.get? a
 |[]=>⟨h,by simp,λ_ _=>rfl⟩
 |x::S=>by
  obtain⟨b,h1,h2⟩:=zk h S;refine⟨b.update x λo=>{o with data:= .freed},λa ha=> ?_,λa ha=> ?_⟩
  ·by_cases e:x=a
   ·subst e;cases hq:(b.update x λo=>{o with data:= .freed}).get? x with
    |none=>rfl
    |some o=>
     obtain⟨e1,e2⟩:=Heap.get?_some_iff.mp hq
     obtain⟨objs,l⟩:=b
     have e3:(objs.modify x λo=>{o with data:= .freed})[x]? =some o:=e1
     rw[Array.getElem?_modify,if_pos rfl]at e3
     cases hx:objs[x]? with
     |none=>rw[hx]at e3;cases e3
     |some u=>
      rw[hx]at e3
      cases e3
      cases e2
   ·rw[bW _ _ e];exact h1 a ((aw.mp ha).resolve_left (aY e))
  ·rw[bW _ _ λe=>ha (by simp[e])];exact h2 a λhm=>ha (by simp[hm])
theorem lX{h base b:Heap}:∀{l:List Env},h.FunFrames base l->(∀a∈lW l,b.get? a=none)->h.FunFrames b l
 |[],_,_=>trivial
 |env::l,⟨hk,⟨L,o,hf,hn,ho,hd⟩,hr⟩,q=>by
  have e:lW (env::l)=L::lW l:=by unfold lW;rw[dO,hf]
  rw[e]at q;exact⟨hk,⟨L,o,hf,q L (by simp),ho,hd⟩,lX hr λa ha=>q a (by simp[ha])⟩
def Oh(h:Heap)(e T:Addr)(cls:ae):Prop:=∃oe vs oT ts,h.get? e=some oe/\oe.cls=cls/\oe.data= .fields vs/\vs[1]? =some (.ref T)/\T≠e/\h.get? T=some oT/\oT.data= .fields ts/\ts[3]? =some .none
def wo(l:List Env)(e:Addr)(S:List Addr)(cls:ae)(h h':Heap):Prop:=
 (∃T,Oh h' e T cls/\(T∈S\/h.get? T=none))/\(∀b o,b∉lW l->b≠e->b∉S->h.get? b=some o->h'.get? b=some o)/\∀b o,b∈lW l->h.get? b=some o->∃sl,h'.get? b=some {o with slots:=sl}
section
variable{M:Model}{A:Around}{E:ae->ag->Prop}{s:ag}
theorem qV{B base:Heap}{l:List Env}{e:Addr}{S:List Addr}{cls:ae}{h h':Heap}(b2:∀a,a∉e::(S++lW l)->B.get? a=h.get? a)(hl:h.FunFrames base l)(x:Heap.Left B l e cls h h'):wo l e S cls h h':=by
 obtain⟨x1,x2,⟨oe,vs,T,oT,ts,h1,h2,h3,h4,h5,h6,h7,h8,h9⟩,x4⟩:=x;refine⟨⟨T,⟨oe,vs,oT,ts,h1,h2,h3,h4,h6,h7,h8,h9⟩,?_⟩,λb o n1 n2 n3 q=>x1 b o ?_,λb o hb q=> ?_⟩
 ·by_cases hS:T∈S
  ·exact .inl hS
  ·refine .inr ?_;rw[<-b2 T ?_]
   ·exact h5
   ·intro hm;rcases aw.mp hm with e1|hm
    ·exact h6 e1
    ·rcases aH.mp hm with hm|hm
     ·exact hS hm
     ·obtain⟨_,o,ho,hnf⟩:=x2.mem hm;rw[h7]at ho;cases ho;exact hnf ts h8
 ·rw[b2 b (by simp[n1,n2,n3])];exact q
 ·obtain⟨_,o',ho',hnf⟩:=hl.mem hb;rw[q]at ho';cases ho';exact x4 b o q hnf
theorem xD{base:Heap}{env:Env}{outer:List Env}{e T:Addr}{cls:ae}{Q:Unit->ag->Prop}
  (hfr:A.frames=some (env::outer)) (hl:s.heap.FunFrames base (env::outer)) (ht:Oh s.heap e T cls)
  (h:∀h',wo (env::outer) e [T] cls s.heap h'->Q () {s with heap:=h'}):wpAny M A (leaving env (.ref e)) Q E s:=by
 obtain⟨B,b1,b2⟩:=zk s.heap (e::([T]++lW (env::outer)));obtain⟨oe,vs,oT,ts,h1,h2,h3,h4,h6,h7,h8,h9⟩:=ht;obtain⟨L,_,hf,_⟩:=hl.2.1;refine wpAny_leaving_next (base:=B) hfr (lX hl λa ha=>b1 a (by simp[ha])) hf ⟨oe,vs,T,oT,ts,h1,h2,h3,h4,b1 T (by simp),h6,h7,h8,h9⟩ (λb o q=> ?_) (b1 e (by simp)) λh' x=>h h' (qV b2 hl x);by_cases hm:b∈e::([T]++lW (env::outer))
 ·rw[b1 b hm]at q;cases q
 ·rw[<-b2 b hm];exact q
theorem vP{base:Heap}{env:Env}{outer:List Env}{e:Addr}{oe:Obj}{vs:Array ae}{Q:Unit->ag->Prop}
  (hfr:A.frames=some (env::outer)) (hl:s.heap.FunFrames base (env::outer)) (he:s.heap.get? e=some oe) (hd:oe.data= .fields vs) (h1:vs[1]? =some .none)
  (h:∀h',wo (env::outer) e [] oe.cls s.heap h'->Q () {s with heap:=h'}):wpAny M A (leaving env (.ref e)) Q E s:=by
 obtain⟨B,b1,b2⟩:=zk s.heap (e::([]++lW (env::outer)));obtain⟨L,_,hf,_⟩:=hl.2.1;refine wpAny_leaving_first (base:=B) hfr (lX hl λa ha=>b1 a (by simp[ha])) hf he (λb o q=> ?_) (b1 e (by simp)) hd h1 λh' x=>h h' (qV b2 hl x);by_cases hm:b∈e::([]++lW (env::outer))
 ·rw[b1 b hm]at q;cases q
 ·rw[<-b2 b hm];exact q
end
def oF(P:aG)(w:aX)(C:Addr):AY:=λouter H s E e s'=>∃x T H',e= .ref x/\Oh s'.heap x T (.ref C)/\s.heap.get? x=none/\s.heap.get? T=none/\H' x=none/\H' T=none/\s'.os=s.os/\l9 s'.gens/\
 Un (lW outer) [] H H' s.heap s'.heap/\HOk P w H' s'.heap/\E (.ref C) none H'
section
variable{X:Cx}{pins:List (Addr×Obj)}{σ:St}{H1:Hp}{s1:ag}{x:Addr}{S:List Addr}{C:Addr}{h':Heap}{E:XK}
theorem vO(J:Inv X pins σ H1 s1)(hex:X.ex=[])(hloc:X.s₀.heap.get? X.env.locals=none)(hx:H1 x=none)(hx0:X.s₀.heap.get? x=none)(hS:∀t∈S,H1 t=none/\X.s₀.heap.get? t=none)
  (hL:wo X.stack x S (.ref C) s1.heap h') (hE:E (.ref C) none H1):oF X.prog X.w C X.outer X.H₀ X.s₀ E (.ref x) {s1 with heap:=h'}:=by
 obtain⟨⟨T,tr,hT⟩,k1,k2⟩:=hL;have nst:∀b o,X.s₀.heap.get? b=some o->b∉X.fs->b∉lW X.stack:=λb o q n hm=>by
  rcases aw.mp (J.stkSub b hm)with e|hm
  ·rw[e,hloc]at q;cases q
  ·exact n hm
 have nx:∀b o,X.s₀.heap.get? b=some o->b≠x:=λb o q e=>by rw[e,hx0]at q;cases q
 have nS:∀b o,X.s₀.heap.get? b=some o->b∉S:=λb o q hm=>by rw[(hS b hm).2]at q;cases q
 have go:∀b o o1,X.s₀.heap.get? b=some o->s1.heap.get? b=some o1->∃sl,h'.get? b=some {o1 with slots:=sl}:=λb o o1 q q1=>by
  by_cases hm:b∈lW X.stack
  ·exact k2 b o1 hm q1
  ·exact⟨o1.slots,k1 b o1 hm (nx b o q) (nS b o q) q1⟩
 have hTn:H1 T=none/\X.s₀.heap.get? T=none:=by
  rcases hT with hT|hT
  ·exact hS T hT
  ·refine⟨J.hok.none_of hT,?_⟩;cases q:X.s₀.heap.get? T with
   |none=>rfl
   |some o=>
    obtain⟨o',q'⟩:=J.base.there T o q (by rw[hex];simp)
    rw[hT]at q';cases q'
 refine⟨x,T,H1,rfl,tr,hx0,hTn.2,hx,hTn.1,J.os,J.bare,⟨λb o q n nf _=> ?_,λb o q n hb _=> ?_,λb o q n _=>J.base.free b o q n (by rw[hex];simp),λb o q _=> ?_,J.base.tups,J.base.frzs,J.base.tbls⟩,λa o e=> ?_,hE⟩
 ·exact k1 b o (nst b o q nf) (nx b o q) (nS b o q) (J.base.keep b o q n nf (by rw[hex];simp))
 ·obtain⟨sl,q1⟩:=J.base.slot b o q n hb (by rw[hex];simp);obtain⟨sl',q2⟩:=go b o _ q q1;exact⟨sl',q2⟩
 ·obtain⟨o',q1⟩:=J.base.there b o q (by rw[hex];simp);obtain⟨sl',q2⟩:=go b o _ q q1;exact⟨_,q2⟩
 ·have nn:∀b,(b=a\/H1 b=some (.own a))->H1 b≠none:=λb hb z=>by
   rcases hb with rfl|hb
   ·rw[e]at z;cases z
   ·rw[hb]at z;cases z
  exact(J.hok a o e).stay (λb u hb q=>k1 b u (λhm=>nn b hb (J.stkFree b hm)) (λz=>nn b hb (by rw[z];exact hx)) (λhm=>nn b hb (hS b hm).1) q) (λ_ q=>q) λ_ _ q=>q
end
section
variable{P:aG}{w:aX}{K:PySem.W.Frag}{mg:Str->Option ae}{base:Heap}{N:List Str}{qual:Str}{scope:gu}{f:Addr}{cdv:ae}{A:Around}{outer:List Env}{s:ag}{H:Hp}{E:XK}{C:Addr}
theorem sI(h:Heap):h.get? h.objs.size=none:=by
 cases q:h.get? h.objs.size with
 |none=>rfl
 |some o=>exact absurd (aA q) (dJ _)
theorem yT:jA (oF P w C) (iM (oF P w C) P w K mg base N qual scope f cdv A outer s H E) E:=by
 rintro pins σ H1 s1 e s' I ⟨x,T,H',rfl,tr,nx,nT,hx,hT,os,bare,un,hok,hE⟩;have J:=I.call' (ch:=[]) os un hok bare (λb z=>absurd z (by simp));have hn:∀a,s1.heap.get? a=none->s.heap.get? a=none:=λa q=>by
  cases q0:s.heap.get? a with
  |none=>rfl
  |some o=>
   obtain⟨o',q'⟩:=I.base.there a o q0 (by show a∉[];simp)
   rw[q]at q';cases q'
 refine xD (base:=base) J.ok.frames J.stack tr λh' hL=> ?_;exact vO (X:=iM (oF P w C) P w K mg base N qual scope f cdv A outer s H E) J rfl (sI _) hx (hn x nx) (λt ht=>by cases ar.mp ht;exact⟨hT,hn _ nT⟩) hL hE
theorem E9{pins:List (Addr×Obj)}{σ:St}{H1:Hp}{s1:ag}{h':Heap}{x:Addr}{us:List ae}(I:Inv (iM (oF P w C) P w K mg base N qual scope f cdv A outer s H E) pins σ H1 s1)(m:Heap.MadeExcOf s1.heap h' x (.ref C) us)(hE:E (.ref C) none H1):
  (iM (oF P w C) P w K mg base N qual scope f cdv A outer s H E).xe (.ref x) {s1 with heap:=h'}:=by
 have J:=I.kept (t':=s1.toks) m.keeps;have hn:s.heap.get? x=none:=by
  cases q0:s.heap.get? x with
  |none=>rfl
  |some o=>
   obtain⟨o',q'⟩:=I.base.there x o q0 (by show x∉[];simp)
   rw[m.new]at q';cases q'
 obtain⟨t,he,_,_⟩:=m.there;refine vP (base:=base) J.ok.frames J.stack he rfl rfl λh'' hL=> ?_;exact vO (X:=iM (oF P w C) P w K mg base N qual scope f cdv A outer s H E) J rfl (sI _) (I.hok.none_of m.new) hn (λt ht=>by cases ht) hL hE
theorem wM{h h':Heap}{bmB tl:List ae}(T:OwnTail h bmB tl)(k:∀b o,h.get? b=some o->h'.get? b=some o):OwnTail h' bmB tl:=by
 induction T with
 |base=>exact .base
 |own e n i _ ih=>exact .own (k _ _ e) (n.keeps k) i ih
def Iq(C:Addr)(t:TA)(E:XK):TS:=λ_ σ H=>t σ H λvs H1=>vs.length<=ba/\E (.ref C) none H1
theorem B9{xn:Str}{np cpos pos:Pos}{e:Expr}{es:List Expr}{t:TA}(q:PySem.W.excIn K C su "ValueError.__new__" =true)
  (hg:Gl (iM (oF P w C) P w K mg base N qual scope f cdv A outer s H E) xn) (hm:mg xn=some (.ref C))
  (ha:PA (iM (oF P w C) P w K mg base N qual scope f cdv A outer s H E) (e::es) t) (hdb:autoParam ((xn==("__debug__" :Str))=false) Qc)
  (he:autoParam (ao (e::es) (iM (oF P w C) P w K mg base N qual scope f cdv A outer s H E).env=(false,eval e (iM (oF P w C) P w K mg base N qual scope f cdv A outer s H E).env)::ao es (iM (oF P w C) P w K mg base N qual scope f cdv A outer s H E).env) Qa)
  (hpl:autoParam ((bZ cpos (ao (e::es) (iM (oF P w C) P w K mg base N qual scope f cdv A outer s H E).env)).any (·.1)=false) Qa):
  PS (iM (oF P w C) P w K mg base N qual scope f cdv A outer s H E) (.Raise (some (.Call (.Name xn np) (e::es) [] cpos)) none pos) (Iq C t E):=by
 intro pins s1 σ H1 D I h;obtain⟨bm,ns,nm,qn,bs,hd,sn,sub,ab,col,dd,k0,k1,k2,k3,k5,mN,e1,e2,e3,e4⟩:=oX I.ok.mod.kin q;refine wpAny_Raise_call_subT F.excBase_ValueError (C:=C) (bm:=bm) (nm:=nm) (q:=qn) (N:=ns) (bs:=bs) (hdct:=hd) (sn:=sn) (sub:=sub) (ab:=ab) (col:=col) (dd:=dd) (k0:=k0) (k1:=k1) (k2:=k2) (k3:=k3) (k5:=k5) (e4.hasType (by decide)) (I.ok.hd rfl) hpl e3 ?_;refine kx I hg hm ⟨rfl,?_⟩ hdb;have hz:=ha cpos pins s1 σ H1 _ I h;rw[he]at hz⊢;refine PySem.Calls.evalArgs_plain (bh hz (λus s2 h2=> ?_) λ_ _ z=>z);obtain⟨vs,H2,I2,r2,hl,hE⟩:=h2;exact⟨rfl,by rw[<-r2.length];exact hl,I2.bk _ _ e1,e2.keeps I2.bk,wM e4 I2.bk,λh' x hmade=>E9 I2 hmade hE⟩
end
section
variable{M:Model}{A:Around}{E:ae->ag->Prop}{s:ag}
theorem FQ{base:Heap}{env:Env}{outer:List Env}{e T:Addr}{cls:ae}{Q:Unit->ag->Prop}
  (hfr:A.frames=some (env::outer)) (hl:s.heap.FunFrames base (env::outer)) (ht:Oh s.heap e T cls)
  (h:∀h',wo (env::outer) e [T] cls s.heap h'->Q () {s with heap:=h'}):wpAny M A (noteFrame (.ref e) env) (λ_ s₂=>wpAny M A (setFlight (.ref e) none) Q E s₂) E s:=by
 obtain⟨B,b1,b2⟩:=zk s.heap (e::([T]++lW (env::outer)));obtain⟨oe,vs,oT,ts,he,hcls,hd,h1,hTe,hT,hdT,h3⟩:=ht;subst hcls;obtain⟨L,_,hf,_⟩:=hl.2.1;have hl':=lX (b:=B) hl λa ha=>b1 a (by simp[ha]);have hkb:B.StaysIn s.heap:=λb o q=>by
  by_cases hm:b∈e::([T]++lW (env::outer))
  ·rw[b1 b hm]at q;cases q
  ·rw[<-b2 b hm];exact q
 have hnT:B.get? T=none:=b1 T (by simp);unfold noteFrame;simp only[hf];refine aa (cT he hd h1 ?_);rw[if_pos (show(aM T !=bF)=true from by simp)];refine aa (cT hT hdT h3 ?_);rw[if_neg (show¬((bF==jD L)=true)from by simp[jD])];refine aa (fZ hT hdT (eY.mp h3).1 ?_);have other:∀b,b≠T->(s.heap.update T (jp (·.setIfInBounds 3 bF))).get? b=s.heap.get? b:=λb hb=>bW _ _ (aY hb);have noRecord:∀b o,s.heap.get? b=some o->(∀vs,o.data≠ .fields vs)->b≠T:=λb o hb hnf q=>by
  rw[q,hT]at hb;injection hb with hb;subst hb;exact hnf ts hdT
 refine wpAny_newEntry (base:=B) hfr (hl'.of_keeps λb o hb hnf=>⟨o,(other b (noRecord b o hb hnf)).trans hb,rfl⟩) hf ((other e (aY hTe)).trans he)
  (λb o hbo=>(other b λq=>by rw[q,hnT]at hbo;cases hbo).trans (hkb b o hbo)) (b1 e (by simp)) hd (eY.mp h1).1
  λh' hPl=>by obtain⟨x1,x2,x3,x4⟩:=hPl;exact h h' (qV b2 hl ⟨x1,x2,x3,λb o hb hnf=>x4 b o ((other b (noRecord b o hb hnf)).trans hb) hnf⟩)
theorem Ax{e T:Addr}{cls:ae}{Q:Unit->ag->Prop}(ht:Oh s.heap e T cls)
  (h:∀h',(∀b o,b≠T->s.heap.get? b=some o->h'.get? b=some o)->Q () {s with heap:=h'}):wpAny M A (setFlight (.ref e) none) Q E s:=by
 obtain⟨oe,vs,oT,ts,he,hcls,hd,h1,hTe,hT,hdT,h3⟩:=ht;unfold setFlight;refine aa (cT he hd h1 ?_);rw[if_pos (show(aM T !=bF)=true from by simp)];exact fZ hT hdT (eY.mp h3).1 (h _ λb o hb q=>by rw[bW _ _ (aY hb)];exact q)
end
theorem yk{fs:List Addr}{H H':Hp}{h h1 h2:Heap}{x:Addr}{S:List Addr}(u:Un fs [] H H' h h1)(hx:h.get? x=none)(hS:∀t∈S,h.get? t=none)
  (k1:∀b o,b∉fs->b≠x->b∉S->h1.get? b=some o->h2.get? b=some o) (k2:∀b o,b∈fs->b≠x->b∉S->h1.get? b=some o->∃sl,h2.get? b=some {o with slots:=sl}):Un fs [] H H' h h2:=by
 have nx:∀b o,h.get? b=some o->b≠x:=λb o q e=>by rw[e,hx]at q;cases q
 have nS:∀b o,h.get? b=some o->b∉S:=λb o q hm=>by rw[hS b hm]at q;cases q
 have go:∀b o o1,h.get? b=some o->h1.get? b=some o1->∃sl,h2.get? b=some {o1 with slots:=sl}:=λb o o1 q q1=>by
  by_cases hm:b∈fs
  ·exact k2 b o1 hm (nx b o q) (nS b o q) q1
  ·exact⟨o1.slots,k1 b o1 hm (nx b o q) (nS b o q) q1⟩
 refine⟨λb o q n nf nx'=>k1 b o nf (nx b o q) (nS b o q) (u.keep b o q n nf nx'),λb o q n hb nx'=> ?_,u.free,λb o q nx'=> ?_,u.tups,u.frzs,u.tbls⟩
 ·obtain⟨sl,q1⟩:=u.slot b o q n hb nx';obtain⟨sl',q2⟩:=go b o _ q q1;exact⟨sl',q2⟩
 ·obtain⟨o',q1⟩:=u.there b o q nx';obtain⟨sl,q2⟩:=go b o _ q q1;exact⟨_,q2⟩
theorem vZ{P:aG}{w:aX}{H:Hp}{h1 h2:Heap}{x:Addr}{S fs:List Addr}(ok:HOk P w H h1)(hx:H x=none)(hS:∀t∈S,H t=none)(hf:∀b∈fs,H b=none)
  (k1:∀b o,b∉fs->b≠x->b∉S->h1.get? b=some o->h2.get? b=some o):HOk P w H h2:=λa o e=>by
 have nn:∀b,(b=a\/H b=some (.own a))->H b≠none:=λb hb z=>by
  rcases hb with rfl|hb
  ·rw[e]at z;cases z
  ·rw[hb]at z;cases z
 exact(ok a o e).stay (λb u hb q=>k1 b u (λhm=>nn b hb (hf b hm)) (λz=>nn b hb (by rw[z];exact hx)) (λhm=>nn b hb (hS b hm)) q) (λ_ q=>q) λ_ _ q=>q
section
end
end L2
namespace L3
open PySem L2 PySem.Spec PyProof.Rows
theorem Ga{K:PySem.W.Frag}{H H':Hp}(t:∀b xs,H b=some (.tup xs)->H' b=some (.tup xs))(f:∀b o u,H b=some (.frz o u)->H' b=some (.frz o u)):Keep K H H':=
 ⟨λa xs h=>by
  rcases h with(h|⟨o,h⟩)|h
  ·exact .inl (.inl (t a xs h))
  ·exact .inl (.inr ⟨o,f a o _ h⟩)
  ·exact .inr h,f⟩
abbrev uN:=List PV->Gp->K2->(Gp->Prop)->Prop
def O3(K:PySem.W.Frag)(C:Addr)(sp:uN):Sp:=λvs H Q E=>∃ps G Q2 EX,Dvs K H ps vs/\Rep K H G/\sp ps G Q2 EX/\Cl K H Q2 Q/\∀G' H',EX G'->Rep K H' G'->E (.ref C) none H'
abbrev AW(P:aG)(w:aX)(K:PySem.W.Frag)(mg:Str->Option ae)(base:Heap)(C:Addr)(k:Nat)(f:Addr)(fd:bb)(ps:List Str)(sp:uN):Prop:=FnOk P w K mg base (oF P w C) k f fd ps (O3 K C sp)
structure LI(P:aG)(w:aX)(K:PySem.W.Frag)(mg:Str->Option ae)(base:Heap)(C:Addr)(k:Nat)(x:Str)(f:Addr)(fd:bb)(ps:List Str)(sp:uN):Prop where
 ok:AW P w K mg base C k f fd ps sp
 b:Binds K fd ps []
 kp:PySem.W.keepIn K (.ref f)=true
 m:mg x=some (.ref f)
def XW(K:PySem.W.Frag)(C:Addr)(E:XK)(EX:Gp->Prop):Prop:=∀G' H',EX G'->Rep K H' G'->E (.ref C) none H'
section
variable{P:aG}{w:aX}{K:PySem.W.Frag}{mg:Str->Option ae}{base:Heap}{C:Addr}
theorem La{x qual:Str}{st:Stmt}{f:Addr}{fd:bb}{N ps:List Str}{k:Nat}{sp:uN}(F:Fun K x qual st f fd)(S:bp N ps (aJ st))(len:∀vs G Q EX,sp vs G Q EX->vs.length=ps.length)
  (hbody:∀(cdv:ae) (A:Around) (outer:List Env) (s:ag) (H:Hp) (E:XK) (as:List PV) (G:Gp) (Q:K2) (EX:Gp->Prop),Room k (A.deeper (PyProof.Rows.envOfC qual (aJ st) s.heap.objs.size f cdv))->sp as G Q EX->XW K C E EX->
   ∃t,JB (iM (oF P w C) P w K mg base N qual (aJ st) f cdv A outer s H E) (iB st) t/\t {nx:=λ_ G'=>∃G0,GE G0 G'/\Q .non G0,rt:=λp G'=>∃G0,GE G0 G'/\Q p G0} (jr N as) G):AW P w K mg base C (k+1) f fd ps sp:=by
 obtain⟨oc,od,kV,doc,pm,an,cdv,ct,osl,rfl,lk,hcd⟩:=F.ex;refine HP lk hcd S (λvs H Q E h=> ?_) (λA outer s H vs Q E hr h=> ?_)
 ·obtain⟨as,G,Q2,EX,d,_,h,_,_⟩:=h;rw[d.length];exact len _ _ _ _ h
 obtain⟨as,G,Q2,EX,d,rp,h,cl,hx⟩:=h;obtain⟨t,j,q⟩:=hbody cdv A outer s H E as G Q2 EX hr h hx;refine⟨_,j.h,jr N as,G,_,sC d (by rw[len _ _ _ _ h,<-S.pre,aO];ac_nf),rp,q,⟨λτ G' σ H' ⟨G0,e0,q1⟩ _ r1 k1=>cl _ _ _ _ q1 rfl (r1.sub e0) k1,λp G' v H' ⟨G0,e0,q1⟩ d1 r1 k1=>cl _ _ _ _ q1 d1 (r1.sub e0) k1,λ_ _ _ _ q1=>q1.elim,λ_ _ _ _ q1=>q1.elim⟩⟩
variable{N:List Str}{qual:Str}{scope:gu}{f:Addr}{cdv:ae}{A:Around}{outer:List Env}{s:ag}{H:Hp}{E:XK}{EX:Gp->Prop}
abbrev II(t:A2)(EX:Gp->Prop):S2:=λ_ τ G=>t τ G λps G1=>ps.length<=1000/\EX G1
theorem Dz{xn:Str}{np cpos pos:Pos}{e:Expr}{es:List Expr}{t:A2}(hX:XW K C E EX)(q:PySem.W.excIn K C su "ValueError.__new__" =true)(hm:mg xn=some (.ref C))
  (ha:JA (iM (oF P w C) P w K mg base N qual scope f cdv A outer s H E) (e::es) t) (hg:autoParam (Gl (iM (oF P w C) P w K mg base N qual scope f cdv A outer s H E) xn) Qa) (hdb:autoParam ((xn==("__debug__" :Str))=false) Qc)
  (he:autoParam (ao (e::es) (iM (oF P w C) P w K mg base N qual scope f cdv A outer s H E).env=(false,eval e (iM (oF P w C) P w K mg base N qual scope f cdv A outer s H E).env)::ao es (iM (oF P w C) P w K mg base N qual scope f cdv A outer s H E).env) Qa)
  (hpl:autoParam ((bZ cpos (ao (e::es) (iM (oF P w C) P w K mg base N qual scope f cdv A outer s H E).env)).any (·.1)=false) Qa):
  JS (iM (oF P w C) P w K mg base N qual scope f cdv A outer s H E) (.Raise (some (.Call (.Name xn np) (e::es) [] cpos)) none pos) (II t EX):=⟨λpins s1 σ H1 D I h=>by
 obtain⟨τ,G,D2,rs,rp,q2,_⟩:=h;refine B9 q hg hm ha.h hdb he hpl pins s1 σ H1 D I ⟨τ,G,_,rs,rp,q2,λps G1 vs H2 q3 d3 r3 k3=> ?_⟩;have hz:vs.length=ps.length:=d3.length;exact⟨by rw[hz];exact bj q3.1 (by decide),hX _ _ q3.2 r3⟩⟩
end
section
end
section
variable{K:PySem.W.Frag}{H:Hp}{G:Gp}{p C dx:Addr}
theorem rC:∀{fs:List (Str×PV)} {vs:List (Str×V)} {f:Str} {q:PV},DFv K H fs vs->fs.lookup f=some q->∃v,vs.lookup f=some v/\Dv K H q v
 |[],_,_,_,_,e=>by cases e
 |(k,q0)::fs,vs,f,q,h,e=>by
  obtain⟨v,r,rfl,d,z⟩:=h;rw[fJ]at e⊢;cases hk:(f==k)with
  |true=>rw[hk]at e;cases e;exact⟨v,rfl,d⟩
  |false=>rw[hk]at e;exact rC z e
theorem oj:∀{fs:List (Str×PV)} {vs:List (Str×V)} {f:Str},DFv K H fs vs->fs.lookup f=none->vs.lookup f=none
 |[],_,_,h,_=>by rw[show _=[]from h];rfl
 |(k,q0)::fs,vs,f,h,e=>by
  obtain⟨v,r,rfl,d,z⟩:=h;rw[fJ]at e⊢;cases hk:(f==k)with
  |true=>rw[hk]at e;cases e
  |false=>rw[hk]at e;exact oj z e
theorem uD:∀{fs:List (Str×PV)} {vs:List (Str×V)},DFv K H fs vs->vs.length=fs.length
 |[],_,h=>by rw[show _=[]from h];rfl
 |(k,q0)::fs,vs,h=>by
  obtain⟨v,r,rfl,d,z⟩:=h;rw[aj,aj,uD z]
theorem nU{vs:List (Str×V)}{o:HO}(h:H p=some (.ins C dx vs)):Keep K H (L2.upd H p o):=qX (λxs q=>by rcases q with q|⟨_,q⟩<;>(rw[h]at q;cases q)) λo u q=>by rw[h]at q;cases q
theorem Rep.putI{vs vs0:List (Str×V)}{fs:List (Str×PV)}(r:Rep K H G)(h:H p=some (.ins C dx vs0))(d:DFv K H fs vs):Rep K (L2.upd H p (.ins C dx vs)) (up G p (.ins C dx fs)):=by
 refine r.upd (nU h) (λa o e ne=>by rw[cz ne]at e;exact e) λo e=> ?_;rw[aC]at e;cases e;exact⟨vs,eA,DFv.keep (nU h) _ d⟩
end
def GJ(C:Addr)(f:Str)(x:PV)(G:Gp)(Q:K2):Prop:=match x with
 | .ref a=>match G a with
  |some (.ins C' _ fs)=>C'=C/\match fs.lookup f with
   |some q=>Q q G
   |none=>False
  |_=>False
 |_=>False
theorem gH{C a dx:Addr}{f:Str}{G:Gp}{Q:K2}{fs:List (Str×PV)}{q:PV}(h:G a=some (.ins C dx fs))(e:fs.lookup f=some q)(hq:Q q G):GJ C f (.ref a) G Q:=by
 unfold GJ;simp only[h,e];exact⟨trivial,hq⟩
abbrev Ln(C:Addr)(t:E2)(f:Str):E2:=λτ G Q=>t τ G λx G1=>GJ C f x G1 Q
theorem NG{X:Cx}{C:Addr}{e:Expr}{f:Str}{t:E2}{pos:Pos}(c:Cls X.K C)(n:NoAttr X.K C f)(he:JE X e t)(hb:autoParam (cU e f X.env (eval e X.env)=eval e X.env) Qa):JE X (.Attribute e f pos) (Ln C t f):=
 .of (Jj he.h hb) λσ H Q hPl=>by
  obtain⟨τ,G,Q2,rs,rp,q,cl⟩:=hPl;refine⟨τ,G,_,rs,rp,q,λp G1 v H1 q1 d1 r1 k1=> ?_⟩;unfold GJ at q1;split at q1
  ·rename_i a;split at q1
   ·rename_i C' dx fs hG;obtain⟨rfl,q1⟩:=q1;split at q1
    ·rename_i y hl;obtain rfl:v= .ref a:=d1;obtain⟨vs,hH,df⟩:=r1 a _ hG;obtain⟨w',hw,dw⟩:=rC df hl;exact⟨a,_,dx,vs,w',rfl,hH,c,n,hw,cl _ _ _ _ q1 dw r1 k1⟩
    ·exact q1.elim
   ·exact q1.elim
  ·exact q1.elim
def ph(f:Str)(v:PV):List (Str×PV)->List (Str×PV)
 |[]=>[(f,v)]
 |(g,x)::r=>if g=f then(g,v)::r else(g,x)::ph f v r
theorem uC{K:PySem.W.Frag}{H:Hp}{f:Str}{q:PV}{v:V}(d:Dv K H q v):∀{fs:List (Str×PV)} {vs:List (Str×V)},DFv K H fs vs->DFv K H (ph f q fs) (jP f v vs)
 |[],_,h=>by rw[show _=[]from h];exact⟨v,[],rfl,d,rfl⟩
 |(k,q0)::fs,vs,h=>by
  obtain⟨v0,r,rfl,d0,z⟩:=h;unfold ph jP;by_cases hk:k=f
  ·rw[if_pos hk,if_pos hk];exact⟨v,r,rfl,d,z⟩
  ·rw[if_neg hk,if_neg hk];exact⟨v0,_,rfl,d0,uC d z⟩
def yz(C:Addr)(f:Str)(x y:PV)(G:Gp)(Q:Gp->Prop):Prop:=match x with
 | .ref a=>match G a with
  |some (.ins C' dx fs)=>C'=C/\fs.length<1000/\Q (up G a (.ins C dx (ph f y fs)))
  |_=>False
 |_=>False
theorem BD{C a dx:Addr}{f:Str}{G:Gp}{Q:Gp->Prop}{fs:List (Str×PV)}{y:PV}(h:G a=some (.ins C dx fs))(hl:fs.length<1000)(hq:Q (up G a (.ins C dx (ph f y fs)))):yz C f (.ref a) y G Q:=by
 unfold yz;simp only[h];exact⟨trivial,hl,hq⟩
abbrev Ml(C:Addr)(ta tv:E2)(f:Str):S2:=λD τ G=>tv τ G λy G1=>ta τ G1 λx G2=>yz C f x y G2 λG3=>D.nx τ G3
theorem Kn{X:Cx}{C:Addr}{o value:Expr}{f:Str}{ta tv:E2}{pos pos':Pos}(c:Cls X.K C)(n:NoAttr X.K C f)(ha:JE X o ta)(hv:JE X value tv)(hs:autoParam (ir value (some (.Attribute o f pos')) pos.line X.env=pure false) Qa):
  JS X (.Assign [.Attribute o f pos'] value pos) (Ml C ta tv f):= .of (IX ha.h hv.h hs) λD σ H ⟨τ,G,D2,rs,rp,q,cl⟩=>by
 refine⟨τ,G,_,rs,rp,q,λy G1 v H1 q1 d1 r1 k1=>⟨τ,G1,_,rs.keep k1,r1,q1,λx G2 u H2 q2 d2 r2 k2=> ?_⟩⟩;unfold yz at q2;split at q2
 ·rename_i a;split at q2
  ·rename_i C' dx fs hG;obtain⟨rfl,hl,q2⟩:=q2;obtain rfl:u= .ref a:=d2;obtain⟨vs,hH,df⟩:=r2 a _ hG;have kk:Keep X.K H2 (L2.upd H2 a (.ins C' dx (jP f v vs))):=nU hH;refine⟨a,_,dx,vs,rfl,hH,c,n,by rw[uD df];exact hl,cl.nx _ _ _ _ q2 (rs.keep ((k1.trans k2).trans kk)) (r2.putI hH (uC (d1.keep k2) df)) ((k1.trans k2).trans kk)⟩
  ·exact q2.elim
 ·exact q2.elim
def zx(C:Addr)(f:Str)(x:PV)(tv:E2)(τ:jE)(G:Gp)(Q:Gp->Prop):Prop:=match x with
 | .ref a=>match G a with
  |some (.ins C' _ fs)=>C'=C/\match fs.lookup f with
   |some (.int i)=>tv τ G λy G1=>match y with
    | .int j=>match G1 a with
     |some (.ins C'' dx' fs')=>C''=C/\fs'.length<1000/\Q (up G1 a (.ins C dx' (ph f (.int (i+j)) fs')))
     |_=>False
    |_=>False
   |_=>False
  |_=>False
 |_=>False
abbrev BS(C:Addr)(ta tv:E2)(f:Str):S2:=λD τ G=>ta τ G λx G1=>zx C f x tv τ G1 λG3=>D.nx τ G3
theorem Am{X:Cx}{C:Addr}{o value:Expr}{f:Str}{ta tv:E2}{pos tpos:Pos}(c:Cls X.K C)(n:NoAttr X.K C f)(ha:JE X o ta)(hv:JE X value tv):
  JS X (.AugAssign (.Attribute o f tpos) .Add value pos) (BS C ta tv f):= .of (zT ha.h hv.h K8) λD σ H ⟨τ,G,D2,rs,rp,q,cl⟩=>by
 refine⟨τ,G,_,rs,rp,q,λx G1 u H1 q1 d1 r1 k1=> ?_⟩;unfold zx at q1;split at q1
 ·rename_i a;split at q1
  ·rename_i C' dx fs hG;obtain⟨rfl,q1⟩:=q1;split at q1
   ·rename_i i hl;obtain rfl:u= .ref a:=d1;obtain⟨vs,hH,df⟩:=r1 a _ hG;obtain⟨w',hw,dw⟩:=rC df hl;obtain rfl:w'= .int i:=dw;refine⟨a,_,dx,vs,_,rfl,hH,c,n,hw,τ,G1,_,rs.keep k1,r1,q1,λy G2 v H2 q2 d2 r2 k2=> ?_⟩;split at q2
    ·rename_i j;split at q2
     ·rename_i C'' dx' fs' hG2;obtain⟨rfl,hl2,q2⟩:=q2;obtain rfl:v= .int j:=d2;obtain⟨vs2,hH2,df2⟩:=r2 a _ hG2;have kk:Keep X.K H2 (L2.upd H2 a (.ins C'' dx' (jP f (.int (i+j)) vs2))):=nU hH2;exact⟨i,j,rfl,rfl,dx',vs2,hH2,by rw[uD df2];exact hl2,cl.nx _ _ _ _ q2 (rs.keep ((k1.trans k2).trans kk)) (r2.putI hH2 (uC (q:= .int (i+j)) rfl df2)) ((k1.trans k2).trans kk)⟩
     ·exact q2.elim
    ·exact q2.elim
   ·exact q1.elim
  ·exact q1.elim
 ·exact q1.elim
def Py(C:Addr)(m:Str)(x:PV)(G:Gp):Prop:=∃a dx fs,x= .ref a/\G a=some (.ins C dx fs)/\fs.lookup m=none
structure kY(P:aG)(w:aX)(K:PySem.W.Frag)(mg:Str->Option ae)(base:Heap)(D C:Addr)(k:Nat)(m:Str)(f:Addr)(fd:bb)(ps:List Str)(sp:uN):Prop where
 ok:AW P w K mg base D k f fd ps sp
 b:Binds K fd ps []
 c:Cls K C
 m:xV K C m f
structure xW(P:aG)(w:aX)(K:PySem.W.Frag)(mg:Str->Option ae)(base:Heap)(C:Addr)(k:Nat)(m:Str)(f:Addr)(fd:bb)(ps:List Str)(sp:i8):Prop where
 ok:jd P w K mg base k f fd ps sp
 b:Binds K fd ps []
 c:Cls K C
 m:xV K C m f
abbrev HW(C:Addr)(m:Str)(sp:uN)(EX:Gp->Prop)(to:E2)(t:A2):E2:=λτ G Q=>to τ G λx G1=>Py C m x G1/\t τ G1 λps G2=>sp (x::ps) G2 Q EX
abbrev NX(C:Addr)(m:Str)(sp:i8)(to:E2)(t:A2):E2:=λτ G Q=>to τ G λx G1=>Py C m x G1/\t τ G1 λps G2=>sp (x::ps) G2 Q
section
variable{K:PySem.W.Frag}{D C:Addr}{E:XK}{EX:Gp->Prop}
variable{m:Str}{ps:List Str}{to:E2}{t:A2}
theorem Dl{sp:uN}(hX:XW K D E EX){σ:L2.St}{H1:Hp}{Q:VK}(q:kT K (HW C m sp EX to t) σ H1 Q):Bk C m (O3 K D sp) [] E (kT K to) (Dr K t) σ H1 Q:=by
 obtain⟨τ,G,Q2,rs,rp,q,cl⟩:=q;refine⟨τ,G,_,rs,rp,q,λx G1 v H2 q1 d1 r1 k1=> ?_⟩;obtain⟨⟨a,dx,fs,rfl,hG,hl⟩,q1⟩:=q1;obtain rfl:v= .ref a:=d1;obtain⟨vs,hH,df⟩:=r1 a _ hG;refine⟨a,dx,vs,rfl,hH,oj df hl,τ,G1,_,rs.keep k1,r1,q1,λps G2 us H3 q2 d2 r2 k2=> ?_⟩;show O3 K D sp (.ref a::(us++[])) H3 Q E;rw[dz];exact⟨.ref a::ps,G2,Q2,EX,⟨.ref a,us,rfl,rfl,d2⟩,r2,q2,cl.keep (k1.trans k2),hX⟩
end
section
variable{X:Cx}{C:Addr}{k k':Nat}{x:Str}{f':Addr}{fd:bb}{ps:List Str}{o e:Expr}{es:List Expr}{t:A2}{pos p:Pos}
abbrev NY(C:Addr)(sp:i8)(t:A2):E2:=λτ G Q=>t τ G λps G1=>∀x dx,G1 x=none->G1 dx=none->dx≠x->sp (.ref x::ps) (up G1 x (.ins C dx [])) λv G2=>v= .non/\Q (.ref x) G2
theorem KQ{sp:i8}(M:Mk X.K C f')(ok:jd X.prog X.w X.K X.mg X.base k f' fd ps sp)(hb:Binds X.K fd ps [])(hr:Room k' X.A)(hk:k+1<=k')(hm:X.mg x=some (.ref C))(ha:JA X (e::es) t)(hg:autoParam (Gl X x) Qa)
  (hdb:autoParam ((x==("__debug__" :Str))=false) Qc) (he:autoParam (ao (e::es) X.env=(false,eval e X.env)::ao es X.env) Qa) (hpl:autoParam ((bZ pos (ao es X.env)).any (·.1)=false) Qa):
  JE X (.Call (.Name x p) (e::es) [] pos) (NY C sp t):= .of (Fm M ok (hr.mono hk) hg hm hb .nil yU ha.h hdb he hpl) λσ H Q q=>by
 obtain⟨τ,G,Q2,rs,rp,q,cl⟩:=q;refine⟨τ,G,_,rs,rp,q,λps G1 vs H1 q1 d1 r1 k1=>λa dx ha hdx ne=> ?_⟩;have k2:Keep X.K H1 (L2.upd H1 dx (.own a)):=cf hdx;have ha':L2.upd H1 dx (.own a) a=none:=by rw[bJ (aY ne)];exact ha
 have k3:Keep X.K (L2.upd H1 dx (.own a)) (L2.upd (L2.upd H1 dx (.own a)) a (.ins C dx [])):=cf ha';have rp2:Rep X.K (L2.upd H1 dx (.own a)) G1:=r1.upd k2 (λ_ _ e _=>e) λo e=>by rw[r1.none hdx]at e;cases e
 have rp3:Rep X.K (L2.upd (L2.upd H1 dx (.own a)) a (.ins C dx [])) (up G1 a (.ins C dx [])):=by
  refine rp2.upd k3 (λb o e ne=>by rw[cz ne]at e;exact e) λo e=> ?_;rw[aC]at e;cases e;exact⟨[],eA,rfl⟩
 show Hm X.K sp (.ref a::(vs++[])) _ _ _;rw[dz];refine⟨.ref a::ps,_,_,⟨.ref a,vs,rfl,rfl,d1.keep (k2.trans k3)⟩,rp3,q1 a dx (r1.none ha) (r1.none hdx) ne,λv G2 u H2 q2 d2 r2 k4=> ?_⟩;obtain⟨rfl,q2⟩:=q2;exact⟨d2,cl _ _ _ _ q2 rfl r2 (((k1.trans k2).trans k3).trans k4)⟩
end
end L3
namespace L2
open PySem PySem.Spec PyProof.Rows
section
end
section
end
section
end
end L2
namespace L3
open PySem L2 PySem.Spec PyProof.Rows
section
end
section
variable{X:Cx}{D C:Addr}{E:XK}{EX:Gp->Prop}
variable{k k':Nat}{m:Str}{f':Addr}{fd:bb}{ps:List Str}{o e:Expr}{es:List Expr}{to:E2}{t:A2}{pos apos:Pos}{pl:Sem Bool}
theorem DJ{sp:uN}(hp:jA (oF X.prog X.w D) X E)(hX:XW X.K D E EX)(Mt:kY X.prog X.w X.K X.mg X.base D C k m f' fd ps sp)(hr:Room k' X.A)(hk:k<=k')(ho:JE X o to)(ha:JA X (e::es) t)
  (hst:autoParam (ao (e::es) X.env=(false,eval e X.env)::ao es X.env) Qa) (hpl:autoParam ((bZ pos (ao es X.env)).any (·.1)=false) Qa)
  (ht:autoParam (eval (.Call (.Attribute o m apos) (e::es) [] pos) X.env=(do
   let ov <-eval o X.env
   standAt apos.atName
   let(fv,first) <-holding [ov] (mZ ov m pl)
   callWith pos fv first (bZ pos (ao (e::es) X.env)) (im pos (eI [] X.env)))) Qa):
  JE X (.Call (.Attribute o m apos) (e::es) [] pos) (HW C m sp EX to t):=
 .of (yS (pl:=pl) ho.h Mt.c Mt.m (Mt.ok.mono hk) hr Mt.b .nil hp ha.h hst hpl ht) λσ H1 Q q=>Dl hX q
end
section
end
end L3
namespace L2
open PySem PySem.Spec PyProof.Rows
theorem qu{prog:aG}{w:aX}{A:Around}{E:ae->ag->Prop}{s:ag}{t:Addr}{items:Array ae}{Q:Bool->ag->Prop}(ht:IsTup s.heap t items)(h:Q true s):wpAny (aK prog w) A (o7 (.ref t)) Q E s:=by
 unfold o7;exact aa (kj ht.typeIs (ah h))
theorem mf{prog:aG}{w:aX}{A:Around}{E:ae->ag->Prop}{s:ag}{t sl:Addr}{items:Array ae}{vl vu:ae}{lo hi:Option Int}{Q:ae->ag->Prop}(ht:IsTup s.heap t items)(hs:s.heap.IsSliceOf sl vl vu .none)(pl:IsPart vl lo)(pu:IsPart vu hi)
  (hw:HT.sIx items.size 0 lo=0/\HT.sIx items.size items.size hi=items.size) (h:Q (.ref t) s):wpAny (aK prog w) A (getItem (.ref t) (.ref sl)) Q E s:=by
 obtain⟨os,hos,hcs,hds⟩:=id hs;have hTs:s.TypeIs (.ref sl) "slice" :=⟨os,hos,hcs⟩;unfold getItem;try with_reducible refine b6 ?_
 first|refine aa (ah ?_)|skip
 refine aa (tU ht.typeIs (by decide) ?_);refine aa (cu (name:=al "__getitem__") ht.typeIs bx
  (cr bx ht.typeIs rA ?_ (sv _ _)))
 show wpAny _ _ (ja (.ref t)>>=_) _ _ s;refine aa (tupleItemsOf_ ht ?_);refine aa (kj hTs ?_);rw[if_pos (by decide)];refine aa (HT.sliceApplied_gen hs pl pu ?_);have hyes:(((HT.sIx items.size 0 lo:Nat):Int)==0&&(1:Int)==1&&(HT.sIx items.size items.size hi-HT.sIx items.size 0 lo)==items.size)=true:=by
  rw[hw.1,hw.2];simp
 show wpAny _ _ (if(((HT.sIx items.size 0 lo:Nat):Int)==0&&(1:Int)==1&&(HT.sIx items.size items.size hi-HT.sIx items.size 0 lo)==items.size)=true then _ else _) _ _ s;rw[if_pos hyes];refine aa (qu ht ?_);rw[if_pos rfl];first
  |exact aa (eP (ah ⟨_,rfl,ah h⟩))
  |exact aa (aa (eP (ah ⟨_,rfl,ah h⟩)))
  |exact aa (eP ⟨_,rfl,ah h⟩)
def O8(K:PySem.W.Frag):V->Option Int->Option Int->Hp->VK->Prop:=λx lo hi H Q=>∃a xs,x= .ref a/\SqT K H a xs/\(HT.sIx xs.length 0 lo=0/\HT.sIx xs.length xs.length hi=xs.length)/\Q (.ref a) H
theorem By{X:Cx}:LD X (O8 X.K):=by
 intro pins s σ H x v vl vu lo hi sl Q I rx hs pl pu h;obtain⟨a,xs,rfl,hx,hw,q⟩:=h;cases rx;obtain⟨its,r,ht,hz⟩:=I.tuple hx;have hlen:its.toArray.size=xs.length:=by rw[aq];exact r.length.symm
 refine⟨"tuple",_,bx.lookup,ht.typeIs,?_⟩;exact mf ht hs pl pu (by rw[hlen];exact hw) ⟨.ref a,H,I,rfl,q⟩
end L2
namespace L3
open PySem L2 PySem.Spec PyProof.Rows
def w8:PV->Option Int->Option Int->Gp->K2->Prop:=λp lo hi G Q=>match p with
 | .tup xs=>Q (.tup (xN xs lo hi)) G
 | .str z=>z.length<=16000000/\Q (.str (bO z lo hi)) G
 |_=>False
abbrev Lj(te:E2)(tl th:O2):E2:=λτ G Q=>te τ G λx G1=>tl τ G1 λl G2=>th τ G2 λu G3=>w8 x l u G3 Q
section
variable{X:Cx}{e:Expr}{te:E2}{lo hi:Option Expr}{tl th:O2}{pos p2:Pos}
theorem IE:LD X (HJ X.K w8):=by
 intro pins s σ H x v vl vu lo hi sl Q I rx hs pl pu h;obtain⟨p,G,Q2,d,rp,h,cl⟩:=h;unfold w8 at h;split at h
 ·rename_i xs;by_cases hw:HT.sIx xs.length 0 lo=0/\HT.sIx xs.length xs.length hi=xs.length
  ·have e:xN xs lo hi=xs:=by
    unfold xN;rw[hw.1,hw.2];simp
   rw[e]at h
   have d0:=d
   obtain⟨a,vs,rfl,sa,da⟩:=d
   exact By pins s σ H _ v vl vu lo hi sl Q I rx hs pl pu ⟨a,vs,rfl,sa,by rw[da.length];exact hw,cl _ _ _ _ h d0 rp .refl⟩
  ·exact Hz pins s σ H x v vl vu lo hi sl Q I rx hs pl pu ⟨.tup xs,G,Q2,d,rp,⟨hw,h⟩,cl⟩
 ·rename_i z;exact Hz pins s σ H x v vl vu lo hi sl Q I rx hs pl pu ⟨.str z,G,Q2,d,rp,h,cl⟩
 ·exact h.elim
theorem DI(he:JE X e te)(hl:JO X lo tl)(hu:JO X hi th):JE X (.Subscript e (.Slice lo hi none p2) pos) (Lj te tl th):= .of (Ce IE he.h hl.h hu.h) λσ H Q hPl=>by
 obtain⟨τ,G,Q2,rs,rp,q,cl⟩:=hPl;refine⟨τ,G,_,rs,rp,q,λp G1 v H1 q1 d1 r1 k1=>⟨τ,G1,_,rs.keep k1,r1,q1,λl G2 H2 q2 r2 k2=>⟨τ,G2,_,rs.keep (k1.trans k2),r2,q2,λu G3 H3 q3 r3 k3=> ?_⟩⟩⟩;exact⟨p,G3,Q2,d1.keep (k2.trans k3),r3,q3,cl.keep ((k1.trans k2).trans k3)⟩
end
end L3
namespace L3
open PySem L2
inductive eD:Prop
 |mk
section
variable{X:Cx}{a b e:Expr}{ta tb te:E2}{pos pos' p p2:Pos}{x y:Str}{i k:Nat}{lo hi:Option Expr}{tl th:O2}
theorem jaE(u:eD)(ha:JE X a ta)(hb:JE X b tb):JE X (.BinOp a .Add b pos) (nr jb ta tb):=Gy ha hb
theorem jsE(u:eD)(he:JE X e te)(hl:JO X lo tl)(hu:JO X hi th):JE X (.Subscript e (.Slice lo hi none p2) pos) (Lj te tl th):=DI he hl hu
theorem ED(i:Nat)(he:JE X e ta)(hN:X.N.Nodup)(hi:autoParam (X.N[i]? =some x) Qa)(hx:autoParam (zC X.env.scope x) Qk)(hs:autoParam (ir e (some (.Name x pos')) pos.line X.env=pure false) Qa)
  (hf:autoParam (X.fn x=true\/X.env.scope.names.lookup x=some .local) Qm):JS X (.Assign [.Name x pos'] e pos) (E6 ta (gN i)):=Kl he hN hi hx hs hf
theorem EE(i:Nat)(hN:X.N.Nodup)(hi:autoParam (X.N[i]? =some x) Qa)(hx:autoParam (zC X.env.scope x) Qk)(hf:autoParam (X.fn x=true\/X.env.scope.names.lookup x=some .local) Qm):JG X (.Name x pos) (gN i):=Gr hN hi hx hf
theorem vU(i:Nat)(hN:X.N.Nodup)(hc:autoParam (X.calm=true) Qa)(hi:autoParam (X.N[i]? =some x) Qa)(hx:autoParam (zC X.env.scope x) Qk)(hj:autoParam (X.N[i+1]? =some y) Qa)(hy:autoParam (zC X.env.scope y) Qk)
  (hf:autoParam (X.fn x=true\/X.env.scope.names.lookup x=some .local) Qm) (hf2:autoParam (X.fn y=true\/X.env.scope.names.lookup y=some .local) Qm):
  JG X (.Tuple [.Name x p,.Name y p2] k pos) (PH i (i+1)):=DE hc hN hi hx hj hy hf hf2
end
end L3
namespace L2
open PySem PySem.Spec PyProof.Rows
section
end
end L2
namespace L3
open PySem L2 PySem.Spec PyProof.Rows
section
variable{X:Cx}
def vE(z:Str)(i:Int):Str:=if i<1 then Str.empty else if(i==1||z.length==0)=true then z else qy z i.toNat
def yX:B2:=λp q G Q=>match p,q with
 | .str z,.int i=>0<=i/\i<=1000/\z.length<=10000/\Q (.str (vE z i)) G
 |_,_=>False
theorem JL:ik X (dC .Mult) (gn X.K yX):=by
 intro pins s σ H x y v u Q I rx ry h;obtain⟨p,q,G,Q2,d1,d2,rp,h,cl⟩:=h;unfold yX at h;split at h
 ·rename_i z i;obtain⟨h1,h2,h3,q⟩:=h;obtain rfl:x= .str z:=d1;obtain rfl:y= .int i:=d2;by_cases hi:i<1
  ·obtain⟨t,rfl⟩:=rx;obtain⟨t',rfl⟩:=ry;refine P.mul_str (by rw[decide_eq_false (by ac_nf),decide_eq_false (by ac_nf)];rfl) (λhn _=>absurd hi hn) (λhn _=>absurd hi hn) ?_;rw[if_pos hi];unfold vE at q;rw[if_pos hi]at q;exact⟨by decide,.str Str.empty,H,I.tok _,⟨_,rfl⟩,cl _ _ _ _ q rfl rp .refl⟩
  ·unfold vE at q;rw[if_neg hi]at q;exact xj pins s σ H _ _ v u Q I rx ry ⟨z,i,rfl,rfl,by ac_nf,h2,h3,cl _ _ _ _ q rfl rp .refl⟩
 ·exact h.elim
theorem jmS{a b:Expr}{ta tb:E2}{pos:Pos}(u:eD)(ha:JE X a ta)(hb:JE X b tb):JE X (.BinOp a .Mult b pos) (nr yX ta tb):=vV JL ha hb
def xB:C2:=λps G Q=>match ps with
 |[.str z]=>z.length<=16000000/\∀c,G c=none->Q (.ref c) (up G c (.lst (dA z)))
 |[.tup xs]=>∀c,G c=none->Q (.ref c) (up G c (.lst xs))
 |[.ref a]=>match G a with
  |some (.lst xs)=>∀c,G c=none->Q (.ref c) (up G c (.lst xs))
  |_=>False
 |_=>False
theorem vp{K:PySem.W.Frag}{H:Hp}:∀(cs:List Nat),Dvs K H (cs.map λc=> .str ⟨#[c]⟩) (cs.map λc=> .str ⟨#[c]⟩)
 |[]=>rfl
 |c::cs=>⟨_,_,rfl,rfl,vp cs⟩
theorem yj:∀{xs:List V} {us:List ae},us.length=xs.length->(∀(i:Nat) (x:V) (u:ae),xs[i]? =some x->us[i]? =some u->RelV x u)->Vals xs us
 |[],[],_,_=> .nil
 |x::xs,u::us,hl,h=> .cons (h 0 x u rfl rfl) (yj (by simpa using hl) λi y v hy hv=>h (i+1) y v (by simpa using hy) (by simpa using hv))
 |[],_::_,hl,_=>by cases hl
 |_::_,[],hl,_=>by cases hl
theorem GX(hc:X.calm=true):eT X (.type "list") (kU X.K xB):=by
 intro pins s σ H xs us Q I rs h;obtain⟨ps,G,Q2,d,rp,h,cl⟩:=h;unfold xB at h;split at h
 ·rename_i z;obtain⟨v,rfl,dv⟩:=en d;obtain rfl:v= .str z:=dv;obtain⟨u,rfl,ru⟩:=rs.one;obtain⟨t,rfl⟩:=ru;obtain⟨hz,h⟩:=h;have hzl:z.cps.size<=ba:=wu hz;refine call_list_str (I.ok.hd hc) z t (λh' tk acc' c' hk hS hacc=> ?_) hzl;have hfr:H s.heap.objs.size=none:=I.hok.fresh (ap _);have dd:Dvs X.K H (dA z) (z.cps.toList.map λc=> .str ⟨#[c]⟩):=vp _;refine⟨.ref s.heap.objs.size,upd H s.heap.objs.size (.lst (z.cps.toList.map λc=> .str ⟨#[c]⟩)),I.laid (t':=tk) (λb o e=>hk b o e) (ap _) ?_,rfl,cl _ _ _ _ (h _ (rp.none hfr)) rfl (rp.new hfr dd) (cf hfr)⟩;refine⟨by rw[av,aE];exact hzl,acc'.toList,c',yj ?_ λi x u hx hu=> ?_,by simpa using hS⟩
  ·rw[aE,av,aE];exact hacc.1
  ·obtain⟨c,tk',e1,rfl⟩:=hacc.2 i u (by simpa using hu);rw[br,show z.cps.toList[i]? =some c by simpa using e1]at hx;cases hx;exact⟨tk',rfl⟩
 ·rename_i ys;exact Ee hc pins s σ H xs us Q I rs ⟨[.tup ys],G,Q2,d,rp,h,cl⟩
 ·rename_i a;split at h
  ·rename_i ys e;refine Ee hc pins s σ H xs us Q I rs ⟨[.ref a],G,Q2,d,rp,?_,cl⟩;unfold Ds;simp only[e];exact h
  ·exact h.elim
 ·exact h.elim
theorem jlS{e:Expr}{es:List Expr}{t:A2}{p pos:Pos}(u:eD)(B:BN X.mg)(hc:X.calm=true)(ha:JA X (e::es) t)(hg:autoParam (Gl X "list") Qa)(he:autoParam (ao (e::es) X.env=(false,eval e X.env)::ao es X.env) Qa)(hpl:autoParam ((bZ pos (ao es X.env)).any (·.1)=false) Qa):JE X (.Call (.Name "list" p) (e::es) [] pos) (v7 xB t):=lz (GX hc) B.list AM ha hg (by decide) (by decide) he hpl
end
end L3
namespace L2
open PySem PySem.Spec PyProof.Rows
section
end
end L2
namespace L3
open PySem L2 PySem.Spec PyProof.Rows
theorem v8{K:PySem.W.Frag}{H:Hp}:∀{zs:List Str} {vs:List V},Dvs K H (zs.map PV.str) vs->vs=zs.map V.str
 |[],vs,h=>h
 |z::zs,vs,h=>by
  obtain⟨v,r,rfl,d,e⟩:=h;obtain rfl:v= .str z:=d;rw[v8 e];rfl
section
end
end L3
namespace PySem
open PyProof.Rows (StrsAre)
section
end
end PySem
namespace L3
open PySem L2
def yY:C2:=λps G Q=>match ps with
 |[.int i,.int j]=>Q (.int (if j<i then j else i)) G
 |_=>False
def Iy:C2:=λps G Q=>match ps with
 |[.int i]=>i.natAbs.log2<1920/\Q (.str (toString i)) G
 |[.str z]=>Q (.str z) G
 |_=>False
section
variable{X:Cx}{e:Expr}
theorem Lu(hc:X.calm=true):eT X (.builtin "min") (kU X.K yY):=by
 intro pins s σ H xs us Q I rs h;obtain⟨ps,G,Q2,d,rp,h,cl⟩:=h;unfold yY at h;split at h
 ·rename_i i j;obtain⟨v,u,rfl,dv,du⟩:=tY d;obtain rfl:v= .int i:=dv;obtain rfl:u= .int j:=du;exact AG hc pins s σ H _ us Q I rs ⟨i,j,rfl,cl _ _ _ _ h rfl rp .refl⟩
 ·exact h.elim
theorem Kx{es:List Expr}{t:A2}{p pos:Pos}(B:BN X.mg)(hc:X.calm=true)(ha:JA X (e::es) t)(hg:autoParam (Gl X "min") Qa)(he:autoParam (ao (e::es) X.env=(false,eval e X.env)::ao es X.env) Qa)(hpl:autoParam ((bZ pos (ao es X.env)).any (·.1)=false) Qa):JE X (.Call (.Name "min" p) (e::es) [] pos) (v7 yY t):=jj (Lu hc) B.min Ei ha hg (by decide) (by decide) he hpl
theorem N9:eT X (.type "str") (kU X.K Iy):=by
 intro pins s σ H xs us Q I rs h;obtain⟨ps,G,Q2,d,rp,h,cl⟩:=h;unfold Iy at h;split at h
 ·rename_i i;obtain⟨v,rfl,dv⟩:=en d;obtain rfl:v= .int i:=dv;exact uJ pins s σ H _ us Q I rs ⟨i,rfl,h.1,cl _ _ _ _ h.2 rfl rp .refl⟩
 ·rename_i z;obtain⟨v,rfl,dv⟩:=en d;obtain rfl:v= .str z:=dv;obtain⟨u,rfl,t,rfl⟩:=nE rs;exact PySem.P.str_of_str ⟨.str z,H,I,⟨t,rfl⟩,cl _ _ _ _ h rfl rp .refl⟩
 ·exact h.elim
theorem Kw{es:List Expr}{t:A2}{p pos:Pos}(B:BN X.mg)(ha:JA X (e::es) t)(hg:autoParam (Gl X "str") Qa)(he:autoParam (ao (e::es) X.env=(false,eval e X.env)::ao es X.env) Qa)(hpl:autoParam ((bZ pos (ao es X.env)).any (·.1)=false) Qa):JE X (.Call (.Name "str" p) (e::es) [] pos) (v7 Iy t):=lz N9 B.str wg ha hg (by decide) (by decide) he hpl
def rV:B2:=λp q G Q=>match p,q with
 | .ro ps,.ref b=>match lk G b with
  |some qs=>ps.length+qs.length<=16000000/\∀c,G c=none->Q (.ref c) (up G c (.lst (ps++qs)))
  |none=>False
 |_,_=>False
theorem Ha{G:Gp}{b:Addr}{ps qs:List PV}{Q:K2}(h:lk G b=some qs)(hl:ps.length+qs.length<=16000000)(q:∀c,G c=none->Q (.ref c) (up G c (.lst (ps++qs)))):rV (.ro ps) (.ref b) G Q:=by
 unfold rV;simp only[h];exact⟨hl,q⟩
theorem FN:ik X (dC .Add) (gn X.K rV):=by
 intro pins s σ H x y v u Q I rx ry h;obtain⟨p,q,G,Q2,d1,d2,rp,h,cl⟩:=h;unfold rV at h;split at h
 ·rename_i ps b;split at h
  ·rename_i qs e1;obtain⟨hl,hq⟩:=h;obtain⟨a,us,rfl,sb,db⟩:=d1;obtain rfl:y= .ref b:=d2;obtain⟨vs,sa,da⟩:=gp rp e1;refine uo pins s σ H _ _ v u Q I rx ry ⟨a,b,us,vs,rfl,rfl,sb.sq,sa,by rw[da.length,db.length];exact wu hl,λc hc=> ?_⟩;exact cl _ _ _ _ (hq c (rp.none hc)) rfl (rp.new hc (db.append da)) (cf hc)
  ·exact h.elim
 ·exact h.elim
theorem Pq{a b:Expr}{ta tb:E2}{pos:Pos}(ha:JE X a ta)(hb:JE X b tb):JE X (.BinOp a .Add b pos) (nr rV ta tb):=vV FN ha hb
theorem KW{k k':Nat}{x:Str}{f:Addr}{fd:bb}{ps:List Str}{sp:i8}{p pos:Pos}(C:cQ X.prog X.w X.K X.mg X.base k x f fd ps sp)(hr:Room k' X.A)(hk:k<=k')(hg:autoParam (Gl X x) Qa)
  (hdb:autoParam ((x==("__debug__" :Str))=false) Qc):JE X (.Call (.Name x p) [] [] pos) (mz sp sw):= .of (Cn (C.ok.mono hk) hr hg C.m C.kp C.b .nil yU hdb) λσ H Q hPl=>by obtain⟨τ,G,Q2,rs,rp,q,cl⟩:=hPl;exact⟨[],G,Q2,.nil,rp,q,cl⟩
end
section
end
end L3
namespace PySem
open AutoSeq1 (wpAny_loadPart')
section
end
end PySem
namespace L2
open PySem
section
end
end L2
namespace L3
open PySem L2
section
end
def DY:M2:=λp ps G Q=>match p,ps with
 | .str x,[.str y]=>Q (.int (Txt.find x y)) G
 |_,_=>False
section
variable{X:Cx}
theorem J7:AX X "str.find" (vM X.K DY):=by
 intro pins s σ H x xs v us Q I rx rs h;obtain⟨p,ps,G,Q2,d,ds,rp,h,cl⟩:=h;unfold DY at h;split at h
 ·rename_i z y;obtain rfl:x= .str z:=d;obtain⟨w,rfl,dw⟩:=en ds;obtain rfl:w= .str y:=dw;obtain⟨t,rfl⟩:=rx;obtain⟨u,rfl,t',rfl⟩:=nE rs;exact PySem.SC.find ⟨.int _,H,I.tok _,⟨_,rfl⟩,cl _ _ _ _ h rfl rp .refl⟩
 ·exact h.elim
theorem Go{o e:Expr}{to:E2}{t:A2}{apos cpos:Pos}(ho:JE X o to)(ha:JA X [e] t)
  (hbase:autoParam (cU o "find" X.env (eval o X.env)=eval o X.env) Qa) (hfew:autoParam (((bZ cpos (ao [e] X.env)).all (λx=> !x.1)&&(im cpos (eI [] X.env)).all (λx=>x.1.isSome)&&decide (([e]:List Expr).length+([]:List gZ).length+(if([]:List gZ).isEmpty then 0 else 1)<30))=true) Qa)
  (hline:autoParam ((apos.endLine==cpos.line)=true) Qa) (hs:autoParam (ao [e] X.env=(false,eval e X.env)::ao [] X.env) Qa):JE X (.Call (.Attribute o "find" apos) [e] [] cpos) (Ll DY to t):=HK PySem.F.slot_str_find PySem.F.type_str_find J7 ho ha hbase hfew hline hs rfl
end
section
end
end L3
namespace L2
open PySem PySem.Spec PyProof.Rows
section
end
end L2
namespace L3
open PySem L2
section
end
section
end
section
open PySem.SeqAt PySem.SeqRoads2
open PyProof.Rows (IntsAre)
open PySem.AutoSeq1 (wpAny_loadPart')
open PySem.MeetsSeq PySem.MeetsSeq2 PySem.MeetsSeq3
end
theorem re{K:PySem.W.Frag}{H:Hp}:∀{ns:List Int} {vs:List V},Dvs K H (ns.map PV.int) vs->vs=ns.map V.int
 |[],vs,h=>h
 |n::ns,vs,h=>by
  obtain⟨v,r,rfl,d,e⟩:=h;obtain rfl:v= .int n:=d;rw[re e];rfl
section
end
end L3
namespace L2
open PySem PySem.Spec PyProof.Rows PySem.W
section
end
end L2
namespace L3
open PySem L2 PyProof.Rows
section
end
end L3
namespace L3
open PySem L2 PySem.Spec PyProof.Rows
section
variable{X:Cx}{C D:Addr}{E:XK}{EX:Gp->Prop}{k k':Nat}{m x:Str}{f':Addr}{fd:bb}{ps:List Str}{o e:Expr}{es:List Expr}{to:E2}{t:A2}{pos apos:Pos}{pl:Sem Bool}
theorem KP{sp:i8}(M:xW X.prog X.w X.K X.mg X.base C k m f' fd ps sp)(hr:Room k' X.A)(hk:k<=k')(ho:JE X o to)(ha:JA X (e::es) t)
  (hst:autoParam (ao (e::es) X.env=(false,eval e X.env)::ao es X.env) Qa) (hpl:autoParam ((bZ pos (ao es X.env)).any (·.1)=false) Qa)
  (ht:autoParam (eval (.Call (.Attribute o m apos) (e::es) [] pos) X.env=(do
   let ov <-eval o X.env
   standAt apos.atName
   let(fv,first) <-holding [ov] (mZ ov m pl)
   callWith pos fv first (bZ pos (ao (e::es) X.env)) (im pos (eI [] X.env)))) Qa):
  JE X (.Call (.Attribute o m apos) (e::es) [] pos) (NX C m sp to t):=
 .of (yS (pl:=pl) ho.h M.c M.m (M.ok.mono hk) hr M.b .nil yU ha.h hst hpl ht) λσ H1 Q q=>by
  obtain⟨τ,G,Q2,rs,rp,q,cl⟩:=q;refine⟨τ,G,_,rs,rp,q,λx G1 v H2 q1 d1 r1 k1=> ?_⟩;obtain⟨⟨a,dx,fs,rfl,hG,hl⟩,q1⟩:=q1;obtain rfl:v= .ref a:=d1;obtain⟨vs,hH,df⟩:=r1 a _ hG;refine⟨a,dx,vs,rfl,hH,oj df hl,τ,G1,_,rs.keep k1,r1,q1,λps G2 us H3 q2 d2 r2 k2=> ?_⟩;show Hm X.K sp (.ref a::(us++[])) H3 Q _;rw[dz];exact⟨.ref a::ps,G2,Q2,⟨.ref a,us,rfl,rfl,d2⟩,r2,q2,cl.keep (k1.trans k2)⟩
theorem GA{sp:uN}(hp:jA (oF X.prog X.w D) X E)(hX:XW X.K D E EX)(M:kY X.prog X.w X.K X.mg X.base D C k m f' fd ps sp)(hr:Room k' X.A)(hk:k<=k')(ho:JE X o to)
  (ht:autoParam (eval (.Call (.Attribute o m apos) [] [] pos) X.env=(do
   let ov <-eval o X.env
   standAt apos.atName
   let(fv,first) <-holding [ov] (mZ ov m pl)
   callWith pos fv first (bZ pos (ao [] X.env)) (im pos (eI [] X.env)))) Qa):
  JE X (.Call (.Attribute o m apos) [] [] pos) (λτ G Q=>to τ G λx G1=>Py C m x G1/\sp [x] G1 Q EX):=
 .of (Cf (pl:=pl) ho.h M.c M.m (M.ok.mono hk) hr M.b .nil hp ht) λσ H1 Q q=>by
  obtain⟨τ,G,Q2,rs,rp,q,cl⟩:=q;refine⟨τ,G,_,rs,rp,q,λx G1 v H2 q1 d1 r1 k1=> ?_⟩;obtain⟨⟨a,dx,fs,rfl,hG,hl⟩,q1⟩:=q1;obtain rfl:v= .ref a:=d1;obtain⟨vs,hH,df⟩:=r1 a _ hG;exact⟨a,dx,vs,rfl,hH,oj df hl,[.ref a],G1,Q2,EX,⟨.ref a,[],rfl,rfl,rfl⟩,r1,q1,cl.keep k1,hX⟩
end
end L3
namespace L3
open PySem L2
def zg:C2:=λps G Q=>match ps with
 |[.str x]=>∃n,PySem.intText? x=some n/\x.length<=640/\Q (.int n) G
 |_=>False
section
variable{X:Cx}{e:Expr}{t:A2}{es:List Expr}{p pos:Pos}
theorem Lw:eT X (.type "int") (kU X.K zg):=by
 intro pins s σ H xs us Q I rs h;obtain⟨ps,G,Q2,d,rp,h,cl⟩:=h;unfold zg at h;split at h
 ·rename_i x;obtain⟨v,vr,rfl,d1,d2⟩:=d;obtain rfl:vr=[]:=d2;obtain rfl:v= .str x:=d1;obtain⟨n,hn,hl,q⟩:=h;obtain⟨u,rfl,ru⟩:=Vals.one rs;obtain⟨tk,rfl⟩:=ru;exact PySem.W.KIN.call_text hn hl ⟨.int n,H,I.tok _,⟨_,rfl⟩,cl _ _ _ _ q rfl rp .refl⟩
 ·exact h.elim
theorem Gs(B:BN X.mg)(ha:JA X (e::es) t)(hg:autoParam (Gl X "int") Qa)(he:autoParam (ao (e::es) X.env=(false,eval e X.env)::ao es X.env) Qa)(hpl:autoParam ((bZ pos (ao es X.env)).any (·.1)=false) Qa):JE X (.Call (.Name "int" p) (e::es) [] pos) (v7 zg t):=lz Lw B.int rK ha hg (by decide) (by decide) he hpl
end
theorem Ay{l:List Nat}(h:∀c∈l,48<=c/\c<=57)(hn:l≠[])(hl:l.length<=600):PySem.intText? ⟨l.toArray⟩=some ((l.foldl (λn c=>n*10+(c-48)) 0:Nat):Int):=by
 have e:(⟨l.toArray⟩:Str).cps.toList=l:=List.toList_toArray;have:=PySem.intText_digits (x:=⟨l.toArray⟩) (λc hc=>h c (by rw[e]at hc;exact hc)) (by rw[e];exact hn) (by show l.toArray.size<=4300;rw[aq];ac_nf);rw[e]at this;exact this
end L3
namespace L2
open PySem PySem.Spec PyProof.Rows
section
variable{M:Model}{A:Around}{E:ae->ag->Prop}
variable{nm q:Str}{C N:Addr}{bs bm:List ae}{hdct:Bool}{sn:List Str}{sub:List ae}{ab:Bool}{col:Option Bool}{dd:Option Addr}{k0 k1 k2 k3 k5:Option ae}{newId:String}
variable{nm' q':Str}{C' N':Addr}{bs' bm':List ae}{hdct':Bool}{sn':List Str}{sub':List ae}{ab':Bool}{col':Option Bool}{dd':Option Addr}{k0' k1' k2' k3' k5':Option ae}{newId':String}
theorem rq{h:Heap}{g:Array GenState}{d:Drawn}{t:Nat}{os:OsState}{e:Addr}{oe:Obj}{Q:Bool->ag->Prop}
  (hC:h.get? C=some (excClassObj nm q C N bs bm hdct sn sub ab col dd k0 k1 k2 k3 k5 newId)) (hG:h.get? C'=some (excClassObj nm' q' C' N' bs' bm' hdct' sn' sub' ab' col' dd' k0' k1' k2' k3' k5' newId'))
  (he:h.get? e=some oe) (hcls:oe.cls= .ref C) (hbase:bm'.contains (.type "BaseException")=true) (hin:(aM C::bm).contains (.ref C')=true)
  (hq:Q true ⟨h,g,d,t,os⟩):wpAny M A (excMatches (.ref e) (.ref C')) Q E ⟨h,g,d,t,os⟩:=by
 have hcB:(aM C'::bm').contains (.type "BaseException")=true:=by rw[List.contains_cons,hbase,Bool.or_true]
 have f:=tc_notTuple;unfold excMatches;repeat (first|(with_reducible refine tW he ?_;rw[hcls])|with_reducible refine tW hC ?_|with_reducible refine tW hG ?_|(with_reducible refine wpAny_isSubtype_exc hG ?_;rw[hcB])|(with_reducible refine wpAny_isSubtype_exc hC ?_;rw[hin])|wp_step)
 exact hq
end
def nh(K:PySem.W.Frag)(C G:Addr):Bool:=match K.lookup C with
 |some ⟨_,_,.cls cd,_⟩=>(cd.mro).contains (.ref G)
 |_=>false
def Cx.inX(X:Cx)(e:ae):Cx:={X with A:=X.A.mark (some e),calm:=false,xe:=λ_ _=>False}
section
variable{X:Cx}{pins:List (Addr×Obj)}{σ:St}{H:Hp}{s:ag}{e:ae}
theorem Inv.inX(I:Inv X pins σ H s)(e:ae):Inv (X.inX e) pins σ H s:=
 ⟨⟨I.ok.mod,I.ok.kind,I.ok.glob,I.ok.blt,I.ok.above,I.ok.inj,I.ok.has,I.ok.cab,(λz=>nomatch z),I.ok.frames,I.ok.stk,I.ok.exf,I.ok.bs,I.ok.bsz,I.ok.noex,I.ok.exfs,I.ok.funs,I.ok.frf⟩,I.os,I.bare,I.base,I.loc,I.cell,I.free,I.freeC,I.pin,I.hok,I.len⟩
theorem Inv.outX(ok:X.Ok)(I:Inv (X.inX e) pins σ H s):Inv X pins σ H s:=⟨ok,I.os,I.bare,I.base,I.loc,I.cell,I.free,I.freeC,I.pin,I.hok,I.len⟩
theorem Inv.gone{M:Model}{A:Around}{E:ae->ag->Prop}{j:Nat}{n:Str}{pos:Pos}{Q:Unit->ag->Prop}(I:Inv X pins σ H s)(hN:X.N.Nodup)(hi:X.N[j]? =some n)(hl:X.env.scope.names.lookup n=some .local)
  (h:∀s',Inv X pins (σ.set j none) H s'->Q () s'):wpAny M A (do bindName X.env n .none;unbindBehindTheSuite X.env n pos) Q E s:=by
 obtain⟨m,hn,hlk⟩:=id I.loc;have hcls:(X.env.scope.kind== .class||(X.env.scope.kind== .module&&X.env.locals !=X.env.globals))=false:=by rw[I.ok.kind];rfl
 have hiσ:j<σ.length:=by rw[I.len];exact(ak.mp hi).1
 have cne:=I.cne;have tracked:∀{a:Addr} {h':Heap},(∃o,s.heap.get? a=some o/\H a=none)->cM a s.heap h'->HOk X.prog X.w H h':=fun{a h'} ha hs b ob e=>by
  obtain⟨_,_,hfree⟩:=ha;refine(I.hok b ob e).stay (λc w' hc q=>(hs.2 c ?_).trans q) (λ_ q=>q) λ_ _ q=>q;rintro rfl;rcases hc with rfl|hc
  ·rw[hfree]at e;cases e
  ·rw[hfree]at hc;cases hc
 refine wpAny_nameGoes_keeps hl hn hcls λh' v hn' hs=> ?_;obtain⟨oL,_,_,hoL,_⟩:=id hn;refine h _ ⟨I.ok,I.os,I.bare,⟨λb o e n hb hx=> ?_,λb o e n hb hx=> ?_,I.base.free,λb o e hx=> ?_,I.base.tups,I.base.frzs,I.base.tbls⟩,⟨_,hn',λk y v' e1 e2 e3=> ?_⟩,λy c e=> ?_,I.free,I.freeC,λp hp=> ?_,tracked ⟨oL,hoL,I.free⟩ hs,by simpa using I.len⟩
 ·exact(hs.2 b (aN (aT (aA e) I.ok.above))).trans (I.base.keep b o e n hb hx)
 ·obtain⟨sl,e1⟩:=I.base.slot b o e n hb hx;exact⟨sl,(hs.2 b (aN (aT (aA e) I.ok.above))).trans e1⟩
 ·obtain⟨o',e1⟩:=I.base.there b o e hx;exact⟨o',(hs.2 b (aN (aT (aA e) I.ok.above))).trans e1⟩
 ·by_cases hj:k=j
  ·subst hj;rw[eO hiσ]at e2;cases e2
  ·rw[dD (aY hj)]at e2;obtain⟨u',r',q⟩:=hlk k y v' e1 e2 e3;refine⟨u',r',?_⟩;rcases q with⟨k,e⟩|⟨k,c,e,z⟩
   ·refine .inl ⟨k,?_⟩;have:y≠n:=λe=>hj (qO hN e1 (e▸hi));simp[this,e]
   ·exact .inr ⟨k,c,e,z.sameBut hs (cne y c e)⟩
 ·obtain⟨w',z⟩:=I.cell y c e;exact⟨w',z.sameBut hs (cne y c e)⟩
 ·obtain⟨e,n,ne,nf,d⟩:=I.pin p hp;exact⟨(hs.2 p.1 ne).trans e,n,ne,nf,d⟩
end
def Ends.drop(D:Ends)(j:Nat):Ends:={nx:=λσ H=>D.nx (σ.set j none) H,rt:=D.rt,bk:=λσ H=>D.bk (σ.set j none) H,ct:=λσ H=>D.ct (σ.set j none) H}
section
variable{X:Cx}{C:Addr}
theorem AE{xc n:Str}{np p3:Pos}{b0:Stmt}{suite:List Stmt}{tb:TS}{G:Addr}{j:Nat}{pins:List (Addr×Obj)}{σ:St}{H1:Hp}{s1 s':ag}{D:Ends}{E:XK}{ex:ae}{env:Env}{outer:List Env}(hst:X.stack=env::outer)(henv:X.env=env)
  (I2:Inv X pins σ H1 s1) (hq:oF X.prog X.w C X.stack H1 s1 E ex s')
  (q:PySem.W.excIn X.K C su "ValueError.__new__" =true) (qg:PySem.W.excIn X.K G su "ValueError.__new__" =true) (hup:nh X.K C G=true) (hgc:Gl X xc) (hmc:X.mg xc=some (.ref G)) (hN:X.N.Nodup) (hj:X.N[j]? =some n) (hl:X.env.scope.names.lookup n=some .local)
  (hE:∀H' x,E (.ref C) none H'->(∀b xs,H1 b=some (.tup xs)->H' b=some (.tup xs))->(∀b o u,H1 b=some (.frz o u)->H' b=some (.frz o u))->H' x=none->tb (D.drop j) (σ.set j (some (.ref x))) (upd H' x (v5 x C)))
  (hs:∀x:Addr,PSs (X.inX (.ref x)) (b0::suite) tb) (hdc:autoParam ((xc==("__debug__" :Str))=false) Qc):
  wpAny (aK X.prog X.w) X.A (noteFrame ex X.env) (λ_ s₂=>wpAny (aK X.prog X.w) X.A (setFlight ex none) (λ_ s₃=>wpAny (aK X.prog X.w) X.A (handleBy ex X.env [.ExceptHandler (some (.Name xc np)) (some n) (b0::suite) p3]) (SP X pins D) X.xe s₃) X.xe s₂) X.xe s':=by
 obtain⟨x,T,H',rfl,tr,nx,nT,hx,hT,os,bare,un,hok,hEE⟩:=hq;subst henv;obtain⟨hh,g,d,tk,os'⟩:=s';have J:=I2.call' (ch:=[]) os un hok bare (λb z=>absurd z (by simp));have hstk:=J.stack;rw[hst]at hstk;have hfr:X.A.frames=some (X.env::outer):=by rw[J.ok.frames,hst]
 refine FQ (base:=X.base) hfr hstk tr λh' hL=> ?_;obtain⟨⟨T',tr',hT'⟩,k1,k2⟩:=hL;rw[<-hst]at k1 k2;have hTn:H' T'=none/\s1.heap.get? T'=none:=by
  rcases hT' with hT'|hT'
  ·cases ar.mp hT';exact⟨hT,nT⟩
  ·refine⟨hok.none_of hT',?_⟩;cases q0:s1.heap.get? T' with
   |none=>rfl
   |some o=>
    obtain⟨o',q'⟩:=un.there T' o q0 (by simp)
    rw[hT']at q';cases q'
 have un2:Un (lW X.stack) [] H1 H' s1.heap h':=yk (S:=[T]) un nx (λt ht=>by cases ar.mp ht;exact nT) k1 λb o hb _ _ q0=>k2 b o hb q0;have hok2:HOk X.prog X.w H' h':=vZ (S:=[T]) hok hx (λt ht=>by cases ar.mp ht;exact hT) J.stkFree k1;have J2:=I2.call' (s':=⟨h',g,d,tk,os'⟩) (ch:=[]) os un2 hok2 bare (λb z=>absurd z (by simp));obtain⟨bm,ns,nm,qn,bs,hd,sn,sub,ab,col,dd,c0,c1,c2,c3,c5,mN,e1,e2,e3,e4⟩:=oX I2.ok.mod.kin q;obtain⟨bm',ns',nm',qn',bs',hd',sn',sub',ab',col',dd',c0',c1',c2',c3',c5',mN',e1',e2',e3',e4'⟩:=oX I2.ok.mod.kin qg;have hin:(aM C::bm).contains (.ref G)=true:=by
  unfold nh at hup;split at hup
  ·rename_i ho;have:=I2.ok.mod.kin _ _ ho;rw[e1]at this;injection this with this
   injection this with _ _ h3 _
   injection h3 with h3
   rw[<-h3]at hup;exact hup
  ·cases hup
 refine wpAny_handleBy_cons (codeAny_handlers_test ?_) (by intro z;cases z);refine jV J2.ok.kind hgc (ww (by rw[J2.ok.glob];exact J2.mod.glob.keeps J2.bk) hmc ?_) hdc;obtain⟨oe,vs',oT,ts,he1,he2,he3,he4,he5,he6,he7,he8⟩:=id tr';refine rq (J2.bk _ _ e1) (J2.bk _ _ e1') he1 he2 (e4'.hasType (by decide)) hin ?_;refine codeAny_handlers_suite_as (Ax (s:=⟨h',g,d,tk,os'⟩) tr' λh'' k3=> ?_);have un3:Un (lW X.stack) [] H1 H' s1.heap h'':=yk (S:=[T']) un2 nx (λt ht=>by cases ar.mp ht;exact hTn.2) (λb o _ _ hS q0=>k3 b o (by simpa using hS) q0) λb o _ _ hS q0=>⟨o.slots,k3 b o (by simpa using hS) q0⟩;have hok3:HOk X.prog X.w H' h'':=vZ (S:=[T']) hok2 hx (λt ht=>by cases ar.mp ht;exact hTn.1) J.stkFree λb o _ _ hS q0=>k3 b o (by simpa using hS) q0;have J3:=I2.call' (s':=⟨h'',g,d,tk,os'⟩) (ch:=[]) os un3 hok3 bare (λb z=>absurd z (by simp));have hxe:h''.get? x=some oe:=k3 x oe (aY he5) he1;have un4:Un (lW X.stack) [] H1 (upd H' x (v5 x C)) s1.heap h'':=⟨un3.keep,un3.slot,λb o q n hb=>by rw[bJ (λz=>by rw[z,nx]at q;cases q)];exact un3.free b o q n hb,un3.there,
  λb xs q=>by rw[bJ (cH (un3.tups b xs q) hx)];exact un3.tups b xs q,λb o u q=>by rw[bJ (cH (un3.frzs b o u q) hx)];exact un3.frzs b o u q,λb ps q=>by
   obtain⟨qs,e⟩:=un3.tbls b ps q;exact⟨qs,by rw[bJ (cH e hx)];exact e⟩⟩
 have hok4:HOk X.prog X.w (upd H' x (v5 x C)) h'':=hok3.laidN (λ_ _ z=>z) hx ⟨⟨oe,hxe,he2⟩,⟨_,hxe⟩,XAt.stay⟩;have J4:=I2.call' (s':=⟨h'',g,d,tk,os'⟩) (ch:=[]) os un4 hok4 bare (λb z=>absurd z (by simp));have ok:=I2.ok;refine j5 J4 hN hj (.inl hl) (v:= .ref x) rfl (λs4 J5=> ?_) (.inr hl);refine bh (hs x pins s4 _ _ (D.drop j) (J5.inX (.ref x)) (hE H' x hEE un.tups un.frzs hx)) (λf s5 h5=> ?_) λ_ _ z=>z.elim;cases f with
 |next=>obtain⟨σ',H5,I5,q5⟩:=h5;exact(I5.outX ok).gone hN hj hl λs6 I6=>⟨_,H5,I6,q5⟩
 |brk=>obtain⟨σ',H5,I5,q5⟩:=h5;exact(I5.outX ok).gone hN hj hl λs6 I6=>⟨_,H5,I6,q5⟩
 |cont=>obtain⟨σ',H5,I5,q5⟩:=h5;exact(I5.outX ok).gone hN hj hl λs6 I6=>⟨_,H5,I6,q5⟩
 |ret u=>obtain⟨v,σ',H5,I5,r5,q5⟩:=h5;exact(I5.outX ok).gone hN hj hl λs6 I6=>⟨v,_,H5,I6,r5,q5⟩
end
end L2
namespace L3
open PySem L2 PySem.Spec PyProof.Rows
abbrev D2.drop(D:D2)(j:Nat):D2:={nx:=λτ G=>D.nx (st τ j none) G,rt:=D.rt,bk:=λτ G=>D.bk (st τ j none) G,ct:=λτ G=>D.ct (st τ j none) G}
theorem RSt.drop{K:PySem.W.Frag}{H:Hp}{σ:L2.St}{τ:jE}(r:RSt K H σ τ)(j:Nat):RSt K H (σ.set j none) (st τ j none):=by
 rw[wP];refine⟨by simp[r.1],λi q e=> ?_⟩;by_cases hj:j=i
 ·subst hj;have hi:j<τ.length:=by
   have:=(ak.mp e).1;simpa using this
  rw[eO hi]at e;cases e
 ·rw[dD hj]at e⊢;exact r.2 i q e
theorem ClD.drop{K:PySem.W.Frag}{H:Hp}{D:L3.D2}{D':Ends}(c:ClD K H D D')(j:Nat):ClD K H (D.drop j) (D'.drop j):=
 ⟨λτ G σ H' q r rp k=>c.nx _ _ _ _ q (r.drop j) rp k,c.rt,λτ G σ H' q r rp k=>c.bk _ _ _ _ q (r.drop j) rp k,λτ G σ H' q r rp k=>c.ct _ _ _ _ q (r.drop j) rp k⟩
def DL(K:PySem.W.Frag):C2:=λps G Q=>match ps with
 |[.ref x,.ref c]=>∃D b,G x=some (.exc D)/\uQ K D/\PySem.W.kitOne K (.ref D) (.ref c)=some b/\Q (.bl b) G
 |[.ref x,.ty T]=>∃D b,G x=some (.exc D)/\uQ K D/\PySem.W.kitOne K (.ref D) (.type T)=some b/\Q (.bl b) G
 |[.ref x,.tup cs]=>∃(D:Addr) (az:List Addr) (b:Bool),cs=az.map PV.ref/\G x=some (.exc D)/\uQ K D/\PySem.W.kitAny K (.ref D) (az.map aM)=some b/\Q (.bl b) G
 |_=>False
theorem yN{K:PySem.W.Frag}{H:Hp}:∀{az:List Addr} {vs:List V} {us:List ae},Dvs K H (az.map PV.ref) vs->Vals vs us->us=az.map aM
 |[],vs,us,d,r=>by
  obtain rfl:vs=[]:=d;cases r;rfl
 |a::az,vs,us,d,r=>by
  obtain⟨v,vr,rfl,d1,d2⟩:=d;obtain rfl:v= .ref a:=d1;cases r with
  |cons r1 r2=>
   cases r1
   rw[yN d2 r2];rfl
section
variable{X:Cx}{a b e:Expr}{t:A2}{es:List Expr}{p pos:Pos}
theorem Ob:eT X (.builtin "isinstance") (kU X.K (DL X.K)):=by
 intro pins s σ H xs us Q I rs h;obtain⟨ps,G,Q2,d,rp,h,cl⟩:=h;unfold DL at h;split at h
 ·rename_i x c;obtain⟨v,vr,rfl,d1,v2,vr2,rfl,d2,d3⟩:=d;obtain rfl:vr2=[]:=d3;obtain rfl:v= .ref x:=d1;obtain rfl:v2= .ref c:=d2;obtain⟨D,b,hG,hx,hk,q⟩:=h;exact ox pins s σ H _ us Q I rs ⟨x,D,.ref c,.ref c,b,rfl,rp x _ hG,hx,rfl,hk,cl _ _ _ _ q rfl rp .refl⟩
 ·rename_i x T;obtain⟨v,vr,rfl,d1,v2,vr2,rfl,d2,d3⟩:=d;obtain rfl:vr2=[]:=d3;obtain rfl:v= .ref x:=d1;obtain rfl:v2= .ty T:=d2;obtain⟨D,b,hG,hx,hk,q⟩:=h;exact ox pins s σ H _ us Q I rs ⟨x,D,.ty T,.type T,b,rfl,rp x _ hG,hx,rfl,hk,cl _ _ _ _ q rfl rp .refl⟩
 ·rename_i x cs;obtain⟨v,vr,rfl,d1,v2,vr2,rfl,d2,d3⟩:=d;obtain rfl:vr2=[]:=d3;obtain rfl:v= .ref x:=d1;obtain⟨a,ws,rfl,hs,dw⟩:=d2;obtain⟨D,az,b,rfl,hG,hx,hk,q⟩:=h;obtain⟨u,u2,rfl,ru,ru2⟩:=rs.two;cases ru;cases ru2;obtain⟨its,rv,⟨o,ho,hc,n,hd⟩,_⟩:=I.tuple hs;have hE:=rp x _ hG;have pX:XAt x D s.heap:=(I.hok x _ hE).1;have ei:=yN dw rv;subst ei;obtain⟨oc,odd,oda,osl⟩:=o;dsimp only at hc hd;subst hc hd;exact PySem.W.kia_tup (vQ hx) I.kIn pX ho hk (λz=>nomatch z) λtk=>⟨.bl b,H,I.tok tk,rfl,cl _ _ _ _ q rfl rp .refl⟩
 ·exact h.elim
theorem KB(B:BN X.mg)(ha:JA X (e::es) t)(hg:autoParam (Gl X "isinstance") Qa)(he:autoParam (ao (e::es) X.env=(false,eval e X.env)::ao es X.env) Qa)(hpl:autoParam ((bZ pos (ao es X.env)).any (·.1)=false) Qa):JE X (.Call (.Name "isinstance" p) (e::es) [] pos) (v7 (DL X.K) t):=jj Ob B.isinstance pC ha hg (by decide) (by decide) he hpl
theorem KS{x:Str}{c:Addr}(hm:X.mg x=some (.ref c))(hg:autoParam (Gl X x) Qa)(hd:autoParam ((x==("__debug__" :Str))=false) Qc):JE X (.Name x pos) (eC (.ref c)):=xH (v:= .ref c) hm rfl (λ_=>rfl) hg hd
theorem GZ:bN "ValueError" =some (.type "ValueError"):=by decide+kernel
theorem Nn(hm:X.mg "ValueError" =none)(hg:autoParam (Gl X "ValueError") Qa):JE X (.Name "ValueError" pos) (eC (.ty "ValueError")):=DH hm GZ hg
end
section
end
end L3
namespace PySem
structure Ri(t:bw):Prop where
 up:t.place.toList.Pairwise (· <·)
 nd:t.dummies= #[]
theorem rP(xs:Array Nat)(hx:xs.toList.Pairwise (· <·))(j:Nat):∀(fuel lo hi:Nat),lo<=hi->hi<=xs.size->hi-lo<=fuel->(∀i v,i<lo->xs[i]? =some v->v<j)->(∀i v,hi<=i->xs[i]? =some v->j<=v)->
  (∀i v,i<gW xs j fuel lo hi->xs[i]? =some v->v<j)/\(∀i v,gW xs j fuel lo hi<=i->xs[i]? =some v->j<=v)/\gW xs j fuel lo hi<=xs.size
 |0,lo,hi,h1,h2,h3,a,b=>by
  unfold gW;have:lo=hi:=by ac_nf
  subst this;exact⟨a,b,h2⟩
 |fuel+1,lo,hi,h1,h2,h3,a,b=>by
  have mono:∀(i k:Nat) u v,i<k->xs[i]? =some u->xs[k]? =some v->u<v:=λi k u v hik hu hv=>by
   have hu':xs.toList[i]? =some u:=by simpa using hu
   have hv':xs.toList[k]? =some v:=by simpa using hv
   obtain⟨li,ei⟩:=ak.mp hu';obtain⟨lk,ek⟩:=ak.mp hv';have:=bd.mp hx i k li lk hik;ac_nf
  unfold gW;by_cases h:lo<hi
  ·rw[if_pos h];dsimp only;have hm:(lo+hi)/2<xs.size:=by ac_nf
   have em:xs[(lo+hi)/2]? =some xs[(lo+hi)/2]:=bG hm;rw[show xs.getD ((lo+hi)/2) j=xs[(lo+hi)/2]by simp[Array.getD,hm]];by_cases h':xs[(lo+hi)/2]<j
   ·rw[if_pos h'];refine rP xs hx j fuel _ hi (by ac_nf) h2 (by ac_nf) (λi v hi' hv=> ?_) b;by_cases hi2:i=(lo+hi)/2
    ·subst hi2;rw[em]at hv;cases hv;exact h'
    ·have:=mono i _ v _ (by ac_nf) hv em;ac_nf
   ·rw[if_neg h'];refine rP xs hx j fuel lo _ (by ac_nf) (by ac_nf) (by ac_nf) a (λi v hi' hv=> ?_);by_cases hi2:i=(lo+hi)/2
    ·subst hi2;rw[em]at hv;cases hv;ac_nf
    ·have:=mono _ i _ v (by ac_nf) em hv;ac_nf
  ·rw[if_neg h];have:lo=hi:=by ac_nf
   subst this;exact⟨a,b,h2⟩
theorem rO(xs:Array Nat)(hx:xs.toList.Pairwise (· <·))(j:Nat):(∀i v,i<cj xs j->xs[i]? =some v->v<j)/\(∀i v,cj xs j<=i->xs[i]? =some v->j<=v)/\cj xs j<=xs.size:=
 rP xs hx j xs.size 0 xs.size (c8 _) (ap _) (ap _) (λi v h=>by ac_nf) (λi v h e=>by rw[Array.getElem?_eq_none h]at e;cases e)
theorem xS(xs:Array Nat)(hx:xs.toList.Pairwise (· <·)){i v:Nat}(h:xs[i]? =some v):cj xs (v+1)=i+1:=by
 obtain⟨a,b,c⟩:=rO xs hx (v+1);have hi:i<xs.size:=(eY.mp h).1;generalize cj xs (v+1)=p at a b c;have h1:i<p:=by
  by_cases z:i<p
  ·exact z
  ·have:=b i v (by ac_nf) h;ac_nf
 by_cases h2:i+1<p
 ·have e:xs[i+1]? =some xs[i+1]:=bG (by ac_nf);have h3:=a (i+1) _ h2 e;have hu':xs.toList[i]? =some v:=by simpa using h
  have hv':xs.toList[i+1]? =some xs[i+1]:=by simpa using e
  obtain⟨li,ei⟩:=ak.mp hu';obtain⟨lk,ek⟩:=ak.mp hv';have:=bd.mp hx i (i+1) li lk (by ac_nf);ac_nf
 ·ac_nf
theorem xR(xs:Array Nat)(hx:xs.toList.Pairwise (· <·)):cj xs 0=0:=by
 obtain⟨a,b,c⟩:=rO xs hx 0;generalize cj xs 0=p at a b c;by_cases h:p=0
 ·exact h
 ·have:=a 0 _ (by ac_nf) (bG (by ac_nf));ac_nf
theorem BW{xs:Array Nat}(hx:xs.toList.Pairwise (· <·)){j:Nat}(h:xs[cj xs j]?≠some j):(bw.insertAt xs (cj xs j) j).toList.Pairwise (· <·):=by
 obtain⟨a,b,c⟩:=rO xs hx j;rw[bw.toList_insertAt];generalize cj xs j=p at a b c h;have hd:(xs.toList.take p++xs.toList.drop p).Pairwise (· <·):=by rw[bg];exact hx
 obtain⟨p1,p2,p3⟩:=cP.mp hd;have lo:∀u∈xs.toList.take p,u<j:=λu hu=>by
  obtain⟨i,hi⟩:=i9.mp hu;rw[jZ]at hi;split at hi
  ·rename_i h';exact a i u h' (by simpa using hi)
  ·cases hi
 have hi:∀u∈xs.toList.drop p,j<u:=λu hu=>by
  obtain⟨i,hi⟩:=i9.mp hu;rw[pE]at hi;have e:xs[p+i]? =some u:=by simpa using hi
  have h1:=b (p+i) u (by ac_nf) e;by_cases hz:i=0
  ·subst hz;have:u≠j:=λz=>by subst z;exact h e
   ac_nf
  ·have hp:p<xs.size:=by have:=(eY.mp e).1;ac_nf
   have e0:xs[p]? =some xs[p]:=bG hp;have h2:=b p _ (ap _) e0;have hu':xs.toList[p]? =some xs[p]:=by simpa using e0
   have hv':xs.toList[p+i]? =some u:=by simpa using e
   obtain⟨li,ei⟩:=ak.mp hu';obtain⟨lk,ek⟩:=ak.mp hv';have:=bd.mp hx p (p+i) li lk (by ac_nf);ac_nf
 exact cP.mpr ⟨p1,e7.mpr ⟨hi,p2⟩,λu hu v hv=>by
  rcases aw.mp hv with rfl|hv
  ·exact lo u hu
  ·have:=lo u hu;have:=hi v hv;ac_nf⟩
theorem B1:∀n:Nat,(Array.range n).toList.Pairwise (· <·):=λn=>by
 rw[Array.toList_range];exact List.pairwise_lt_range
theorem nM(t:bw)(n:Nat):Ri (t.standIn n):=⟨B1 n,rfl⟩
theorem Mn{t:bw}(h:Ri t)(n:Nat):Ri (t.orStandIn n):=by
 unfold bw.orStandIn;split
 ·exact h
 ·exact nM t n
theorem zm(j:Nat):bw.has #[] j=false:=by
 unfold bw.has;simp
theorem qJ{t:bw}(h:Ri t){ha:Nat->Int}{hh:Int}:∀(f:Nat) (p:bw.Probe) (j:Nat) (d:Option Nat),p.dummy=none->l8 t ha hh f p=some (.empty j d)->d=none/\t.place[cj t.place j]?≠some j
 |0,p,j,d,_,e=>by unfold l8 at e;cases e
 |f+1,p,j,d,hp,e=>by
  unfold l8 at e;have adv:(t.advance p).dummy=none:=by unfold bw.advance;split<;>exact hp
  split at e
  ·rename_i hs;cases e;refine⟨hp,λz=> ?_⟩;unfold bw.slot at hs;dsimp only at hs;rw[z]at hs;simp at hs
  ·rename_i hs;unfold bw.slot at hs;dsimp only at hs;rw[h.nd,zm]at hs;split at hs
   ·cases hs
   ·simp at hs
  ·split at e
   ·cases e
   ·exact qJ h f _ j d adv e
theorem IK{t:bw}(h:Ri t)(es:Array (Int×ae))(hh:Int)(x:ae):Ri (layNew t es hh x).2.1:=by
 unfold layNew;split
 ·rename_i slot wd hf;unfold bw.freeSlot at hf;split at hf
  ·rename_i j d hp;obtain⟨rfl,hn⟩:=qJ h _ _ j d rfl hp;cases hf;refine Mn ⟨BW h.up hn,?_⟩ _;show(if bw.has t.dummies j=true then _ else t.dummies)= #[];rw[h.nd,zm];rfl
  ·cases hf
 ·exact nM t _
theorem HQ{f:Nat->Option Nat}:∀{l:List Nat},l.Pairwise (· <·)->((l.filterMap λj=>(f j).map (j,·)).map (·.1)).Pairwise (· <·)
 |[],_=> .nil
 |a::l,h=>by
  obtain⟨h1,h2⟩:=e7.mp h;have ih:=HQ (f:=f) h2;rw[dO];cases e:f a with
  |none=>exact ih
  |some b=>
   refine e7.mpr ⟨λu hu=> ?_,ih⟩
   obtain⟨⟨c,d⟩,hc,rfl⟩:=bA.mp hu
   obtain⟨j,hj,hj2⟩:=jY.mp hc
   cases e2:f j with
   |none=>rw[e2]at hj2;cases hj2
   |some b2=>rw[e2]at hj2;cases hj2;exact h1 _ hj
theorem BY{t:bw}(h:Ri t)(es:Array (Int×ae))(n:Nat):Ri (kR t es n).2.1:=by
 unfold kR;split
 ·rename_i t' order hr;dsimp only;split
  ·unfold bw.relaid bw.laid at hr;cases hc:bw.layClean (bw.sizeAbove n-1) (es.map (·.1))with
   |none=>rw[hc]at hr;cases hr
   |some owner=>
    rw[hc]at hr
    simp only[Option.bind_eq_bind,Option.bind_some,Option.pure_def,wv,kc]at hr
    rw[<-hr.1]
    exact⟨HQ (f:=λj=>owner.getD j none) List.pairwise_lt_range,rfl⟩
  ·exact nM t _
 ·exact nM t _
end PySem
namespace PySem
inductive iN {K:Type} (f:K->ae->Bool):List ae->List K->Prop
 |nil:iN f [] []
 |cons {k:K} {v:ae} {vs:List ae} {ks:List K}:f k v=true->iN f vs ks->iN f (v::vs) (k::ks)
section
variable{prog:aG}{w:aX}{K:Type}[DecidableEq K]{knd:KeyKind prog w K}
def TG(knd:KeyKind prog w K)(h:Heap)(S:Addr)(ks:List K):Prop:=
 ∃es ep t,h.get? S=some {cls:= .type "set",dict:=none,data:= .set es ep t,slots:= #[]}/\ElemsOf knd es.toList/\es.size<kN/\t.fits es.size=true/\
  (w.params.followText "set-order" =false->t.led=true)/\Ri t/\iN knd.is (es.toList.map (·.2)) ks/\ks.Nodup
theorem qY:∀{vs:List ae} {ss:List K},iN knd.is vs ss->vs.length=ss.length
 |_,_,.nil=>rfl
 |_,_,.cons _ h=>by rw[aj,aj,qY h]
theorem y7{z:K}:∀{l:List (Int×ae)} {ks:List K},iN knd.is (l.map (·.2)) ks->((∃e∈l,knd.is z e.2=true)↔z∈ks)
 |[],ks,h=>by
  have h':iN knd.is [] ks:=h;cases h';simp
 |e::l,ks,h=>by
  have h':iN knd.is (e.2::l.map (·.2)) ks:=h;generalize hv:e.2=v at h';cases h' with
  |cons y h2=>
   have ih:=y7 (z:=z) h2
   simp only[aw]
   rw[<-ih]
   have he:knd.is z e.2=true↔z=_:=⟨λh=>knd.inj _ _ _ h (hv▸y),λh=>by rw[h,hv];exact y⟩
   constructor
   ·rintro⟨x,rfl|hx,hp⟩
    ·exact .inl (he.mp hp)
    ·exact .inr ⟨x,hx,hp⟩
   ·rintro(rfl|⟨x,hx,hp⟩)
    ·exact⟨e,.inl rfl,he.mpr rfl⟩
    ·exact⟨x,.inr hx,hp⟩
theorem lU{vs vs':List ae}(p:vs'.Perm vs):∀{ss:List K},iN knd.is vs ss->∃ss',iN knd.is vs' ss'/\ss'.Perm ss:=by
 induction p with
 |nil=>intro ss h;cases h;exact⟨[],.nil,.nil⟩
 |cons x p ih=>
  intro ss h
  cases h with
  |cons y h=>obtain⟨ss',a,b⟩:=ih h;exact⟨_,.cons y a,b.cons _⟩
 |swap x y l=>
  intro ss h
  cases h with
  |cons a h=>cases h with
   |cons b h=>exact⟨_,.cons b (.cons a h),.swap _ _ _⟩
 |trans p q ih1 ih2=>
  intro ss h
  obtain⟨s1,a1,b1⟩:=ih2 h
  obtain⟨s2,a2,b2⟩:=ih1 a1
  exact⟨s2,a2,b2.trans b1⟩
theorem sX{z:K}{x:ae}(hx:knd.is z x=true):∀{vs:List ae} {ss:List K},iN knd.is vs ss->iN knd.is (vs++[x]) (ss++[z])
 |_,_,.nil=> .cons hx .nil
 |_,_,.cons y h=> .cons y (sX hx h)
section
variable{A:Around}{E:ae->ag->Prop}{s:ag}
theorem yl{S:Addr}{es:Array (Int×ae)}{ep:Nat}{t:bw}{ks:List K}{es':Array (Int×ae)}{t':bw}
  (ho:s.heap.get? S=some {cls:= .type "set",dict:=none,data:= .set es ep t,slots:= #[]}) (h1:ElemsOf knd es'.toList) (h2:es'.size<kN) (h3:t'.fits es'.size=true)
  (h4:w.params.followText "set-order" =false->t'.led=true) (h5:Ri t') (h6:iN knd.is (es'.toList.map (·.2)) ks) (h7:ks.Nodup):
  (s.heap.update S (ke es' t')).get? S=some {cls:= .type "set",dict:=none,data:= .set es' (ep+1) t',slots:= #[]}/\TG knd (s.heap.update S (ke es' t')) S ks:=by
 have hg:(s.heap.update S (ke es' t')).get? S=some {cls:= .type "set",dict:=none,data:= .set es' (ep+1) t',slots:= #[]}:=by
  have:=de (ke es' t') ho (by rw[putSet_of es' t' rfl];rfl);rw[putSet_of es' t' rfl]at this;exact this
 exact⟨hg,es',ep+1,t',hg,h1,h2,h3,h4,h5,h6,h7⟩
theorem BE{S:Addr}{ks:List K}{z:K}{x:ae}(hkey:knd.is z x=true)(hsc:x.scannable=true){Q:Bool->ag->Prop}(hS:TG knd s.heap S ks)(hroom:ks.length+1<kN)
  (hQ:∀(h':Heap) (b:Bool) (ks':List K),cM S s.heap h'->TG knd h' S ks'->ks'.Perm (if z∈ks then ks else ks++[z])->Q b {s with heap:=h',toks:=s.toks+1}):
  wpAny (aK prog w) A (setAdd S x) Q E s:=by
 obtain⟨es,ep,t,ho,hel,hb,hf,hled,hri,hst,hnd⟩:=id hS;have hlen:es.size=ks.length:=by
  have:=qY hst;rw[av,aE]at this;exact this
 have hmem:=y7 (z:=z) hst;unfold setAdd;refine b6 (aa (knd.pyHash hkey ?_));unfold setAddHashed setAddHashedIn;refine b6 (aa (gS (s:={s with toks:=s.toks+1}) ho rfl hf ?_));dsimp only;rw[byScan_of (knd:=knd) (x:=x) hsc hb hel];simp only[↓reduceIte];unfold setAddByScan;refine aa ?_;refine aa (eP ?_);refine aa (wpAny_setScan_of (s:={s with toks:=s.toks+1}) hkey ho rfl hf hel ?_);have hgw:∀(b:Bool) {s₁:ag} {Q':Unit->ag->Prop},Q' () s₁->wpAny (aK prog w) A (match b with|true=>rule "set.scan.the-table-gave-way" |false=>pure ()) Q' E s₁:=
  λb s₁ Q' hq=>by cases b<;>first|exact ah hq|exact eP hq
 cases hr:List.findIdx? (λe=>knd.is z e.2) es.toList with
 |some j=>
  dsimp only
  obtain⟨hj,hpj,_⟩:=List.findIdx?_eq_some_iff_getElem.mp hr
  have hz:z∈ks:=hmem.mp ⟨es.toList[j],lc hj,hpj⟩
  refine ah (ah ?_)
  exact hQ s.heap false ks (cM.refl S s.heap) hS (by rw[if_pos hz])
 |none=>
  dsimp only
  have hz:z∉ks:=λhz=>by
   obtain⟨e,he,hp⟩:=hmem.mpr hz;have:=List.findIdx?_eq_none_iff.mp hr e he;rw[hp]at this;exact Bool.noConfusion this
  have hperm:=layNew_perm t es (knd.hash z) x
  have hfits:=layNew_fits t es (knd.hash z) x
  have hlay:=xE t es (knd.hash z) x
  have hr1:=IK hri es (knd.hash z) x
  generalize hL:layNew t es (knd.hash z) x=L at hperm hfits hlay hr1⊢
  obtain⟨es1,t1,wasDummy,gave⟩:=L
  dsimp only at hperm hfits hlay hr1⊢
  rw[iP]at hperm
  have hel1:ElemsOf knd es1.toList:=(hel.push hkey hsc).perm hperm
  have hsz1:es1.size=ks.length+1:=by rw[<-aE,hperm.length_eq,af,aE,hlen];rfl
  have hb1:es1.size<kN:=by rw[hsz1];exact hroom
  obtain⟨ks1,hst1,hp1⟩:∃ks1,iN knd.is (es1.toList.map (·.2)) ks1/\ks1.Perm (ks++[z]):=by
   have h0:iN knd.is ((es.toList++[(knd.hash z,x)]).map (·.2)) (ks++[z]):=by
    rw[a9];exact sX hkey hst
   exact lU (hperm.map (·.2)) h0
  have hnd1:ks1.Nodup:=hp1.nodup_iff.mpr (List.nodup_append.mpr ⟨hnd,by simp,by
   intro a ha b hb;have hbz:b=z:=ar.mp hb;subst hbz;intro e;subst e;exact hz ha⟩)
  have fin:∀(h':Heap) (k2:List K),cM S s.heap h'->TG knd h' S k2->k2.Perm ks1->Q true {s with heap:=h',toks:=s.toks+1}:=λh' k2 a b c=>hQ h' true k2 a b (by rw[if_neg hz];exact c.trans hp1)
  have tail:∀(t2:bw),t2.fits es1.size=true->t2.led=t1.led->Ri t2->
    wpAny (aK prog w) A (do
     storeSet S es1 t2
     if(!wasDummy&&t2.tooFull)=true then do
       (match(kR t2 es1 (fC es1.size)).2.2 with|true=>rule "set.scan.the-table-gave-way" |false=>pure ())
       storeSet S (kR t2 es1 (fC es1.size)).1 (kR t2 es1 (fC es1.size)).2.1
       pure (some true)
      else pure (some true)) (λr s'=>∃h' k2,r=some true/\s'={s with heap:=h',toks:=s.toks+1}/\cM S s.heap h'/\TG knd h' S k2/\k2.Perm ks1) E {s with toks:=s.toks+1}:=by
   intro t2 f2 l2 p2;refine aa (wpAny_storeSet_of (s:={s with toks:=s.toks+1}) ho rfl ?_ (lY hb1));obtain⟨ho1,hS1⟩:=yl (knd:=knd) (s:={s with toks:=s.toks+1}) (t':=t2) ho hel1 hb1 f2 (λhb=>by rw[l2,hlay];exact hled hb) p2 hst1 hnd1;have hsb1:=gA s.heap S (ke es1 t2);split
   ·have hp:=relayAll_perm t2 es1 (fC es1.size);have hfr:=relayAll_fits t2 es1 (fC es1.size);have hle:=uh t2 es1 (fC es1.size);have hr2:=BY p2 es1 (fC es1.size);generalize hRl:kR t2 es1 (fC es1.size)=Rl at hp hfr hle hr2⊢;obtain⟨es2,t3,gave2⟩:=Rl;dsimp only at hp hfr hle hr2⊢;have hsz:es2.size=es1.size:=by rw[<-aE,hp.length_eq,aE]
    have hb2:es2.size<kN:=by rw[hsz];exact hb1
    refine aa (hgw _ ?_);obtain⟨ks2,hst2,hp2⟩:=lU (hp.map (·.2)) hst1;refine aa (wpAny_storeSet_of (s:={s with heap:=s.heap.update S (ke es1 t2),toks:=s.toks+1}) ho1 rfl ?_ (lY hb2));obtain⟨ho2,hS2⟩:=yl (knd:=knd) (s:={s with heap:=s.heap.update S (ke es1 t2),toks:=s.toks+1}) (t':=t3) ho1 (hel1.perm hp) hb2 hfr (λhb=>by rw[hle.1,l2,hlay];exact hled hb) hr2 hst2 (hp2.nodup_iff.mpr hnd1);exact ah ⟨_,ks2,rfl,rfl,hsb1.trans (gA _ S _),hS2,hp2⟩
   ·exact ah ⟨_,ks1,rfl,rfl,hsb1,hS1,.refl _⟩
  refine aa (hgw _ ?_)
  have done:∀(r:Option Bool) (s':ag),(∃h' k2,r=some true/\s'={s with heap:=h',toks:=s.toks+1}/\cM S s.heap h'/\TG knd h' S k2/\k2.Perm ks1)->wpAny (aK prog w) A (match r with|some added=>(pure added:Sem Bool)|none=>setAddHashedIn S x (knd.hash z) 99999) Q E s':=by
   rintro r s' ⟨h',k2,rfl,rfl,a,b,c⟩;exact ah (fin h' k2 a b c)
  split
  ·rename_i hpl1
   refine aa ?_
   rw[hashByValue_scannable 8 hsc]
   refine ah ?_
   cases hk:plainKind x with
   |true=>exact bh (tail t1 hfits rfl hr1) (λr s' h=>done r s' h) λ_ _ x=>x
   |false=>exact bh (tail {t1 with plain:=false} (bw.fits_plain_off hfits) rfl ⟨hr1.up,hr1.nd⟩) (λr s' h=>done r s' h) λ_ _ x=>x
  ·rename_i hpl1
   refine aa (ah ?_)
   simp only[↓reduceIte]
   refine bh (tail t1 hfits rfl hr1) (λr s' h=> ?_) λ_ _ x=>x
   exact done r s' h
end
end
end PySem
namespace PySem
section
variable{prog:aG}{w:aX}{A:Around}{E:ae->ag->Prop}{s:ag}{I S T:Addr}{i ep:Nat}{es:Array (Int×ae)}{t:bw}{ps:List Nat}
theorem pf{slot:Nat}{R:Option (ae×Nat)->ag->Prop}(hby:w.params.followText "set-order" =false)(hS:AV s.heap S es ep t)(hf:t.fits es.size=true)(h1:(!t.plain&&decide (es.size>1))=false)(hl:t.led=true)
  (h:R (match es[cj t.place slot]?,t.place[cj t.place slot]? with
   |some (_,x),some j=>some (x,j+1)
   |_,_=>none) s):wpAny (aK prog w) A (setNext S slot i ep) R E s:=by
 unfold setNext;refine aa (gS hS rfl hf ?_);refine aa ?_;unfold setsByText;refine aa (iq (ah ?_));refine cq (decide_eq_false (by show¬(w.params.followText "set-order" =true);rw[hby];decide)) ?_;refine cq (c:=((!t.plain&&decide (es.size>1))=true)) (by rw[h1];simp) ?_;refine aa (show wpAny _ _ (if(!t.led&& !es.isEmpty)=true then unsupported "set:maker-not-led" else pure ()) _ _ _ from ?_);refine cq (by simp[hl]) (ah ?_);exact ah h
def vo(t:bw):Nat->Nat
 |0=>0
 |i+1=>t.place.getD i 0+1
def SMode.firstG(t:bw):SMode->Nat->ae
 | .D T _ _,_=> .ref T
 | .B,_=> .int 0 0
 | .U,i=> .int ((vo t i:Nat):Int) 0
def SMode.okG(w:aX)(t:bw)(es:Array (Int×ae)):SMode->Prop
 | .D _ _ ps=>ps.Perm (bQ es.size)
 | .B=>w.params.followText "set-order" =true
 | .U=>w.params.followText "set-order" =false/\(!t.plain&&decide (es.size>1))=false/\t.led=true/\Ri t
theorem zY{m:SMode}(h:m.okG w t es):(m.ord w S ep es).Perm es.toList:=by
 cases m with
 |D T n ps=>
  have:=(show ps.Perm (bQ es.size)from h).filterMap λp=>es[p]?
  rw[zS]at this
  exact this
 |B=>exact oN _ _
 |U=>exact .refl _
theorem rN{i:Nat}(h:Ri t)(hi:i<=t.place.size):cj t.place (vo t i)=i:=by
 cases i with
 |zero=>exact xR _ h.up
 |succ i=>
  have hi':i<t.place.size:=hi
  show cj t.place (t.place.getD i 0+1)=i+1
  rw[show t.place.getD i 0=t.place[i]by simp[Array.getD,hi']]
  exact xS _ h.up (bG hi')
theorem wH{m:SMode}(hh:A.handled=none)(hf:t.fits es.size=true)(hm:m.okG w t es)(nI:I≠S)(nT:∀T n ps,m= .D T n ps->T≠I):
  WalksS prog w A I (m.fp I S) [I] (λa b=>b=a) es.size (λi v=>∃hx,(m.ord w S ep es)[i]? =some (hx,v)) (λi s=>AV s.heap S es ep t/\EJ s.heap I (m.firstG t i) i S es.size ep/\m.tup s.heap) where
 sub:=λb hb=>by cases ar.mp hb;cases m<;>simp[SMode.fp]
 grefl:=λ_=>rfl
 gtrans:=λa b c h1 h2=>h2.trans h1
 frame:=λi s h' tk st _ hk=>by
  obtain⟨a,b,c⟩:=st;refine⟨hk S (by cases m<;>simp[SMode.fp]) _ a,hk I (by cases m<;>simp[SMode.fp]) _ b,?_⟩;cases m with
  |D T n ps=>exact hk T (by simp[SMode.fp]) _ c
  |B=>trivial
  |U=>trivial
 item:=λi s Q E hi st hQ=>by
  obtain⟨a,b,c⟩:=st;have mv:∀h':Heap,cM I s.heap h'->Moved [I] (λa b=>b=a) s {s with heap:=h'}:=λh' sb=>⟨λx o hx e=>sb.extBut x o (λz=>hx (by simp[z])) e,rfl,rfl,rfl,ap _⟩;have kS:∀h':Heap,cM I s.heap h'->AV h' S es ep t:=λh' sb=>sb.extBut _ _ (aY nI) a;cases m with
  |D T n ps=>
   have hps:i<ps.length:=by rw[(show ps.Perm (bQ es.size)from hm).length_eq,iY];exact hi
   obtain⟨⟨hx,x⟩,he,ho⟩:=vI (show ps.Perm (bQ es.size)from hm) (au hps)
   refine xo (ps:=ps) b a hf c (au hps) he λh' hit sb=>hQ x _ ⟨hx,ho⟩ ⟨kS h' sb,hit,sb.extBut _ _ (nT T n ps rfl) c⟩ (mv h' sb)
  |B=>
   have hlen:(fD (w.params.setOrder S ep) es).size=es.size:=by
    have:=(oN (w.params.setOrder S ep) es).length_eq;simpa using this
   have hg:(fD (w.params.setOrder S ep) es)[i]? =some ((fD (w.params.setOrder S ep) es)[i]'(by ac_nf)):=by simp[hlen,hi]
   refine qP (slot:=0) (next:=0) (x:=((fD (w.params.setOrder S ep) es)[i]'(by ac_nf)).2) b a hf (λR E' B' h=>nK hm a hf (by rw[hg];exact h)) λh' hit sb=>hQ _ _ ⟨((fD (w.params.setOrder S ep) es)[i]'(by ac_nf)).1,?_⟩ ⟨kS h' sb,hit,trivial⟩ (mv h' sb)
   show(fD (w.params.setOrder S ep) es).toList[i]? =_
   rw[aZ,hg]
  |U=>
   obtain⟨hby,h1,hl,hr⟩:w.params.followText "set-order" =false/\(!t.plain&&decide (es.size>1))=false/\t.led=true/\Ri t:=hm
   have hps:t.place.size=es.size:=by
    simp only[bw.fits,aB,beq_iff_eq]at hf;exact hf.1
   have he:es[i]? =some es[i]:=by simp[hi]
   have hj:t.place[i]? =some (t.place.getD i 0):=by simp[Array.getD,hps,hi]
   refine qP (slot:=vo t i) (next:=vo t (i+1)) (x:=es[i].2) b a hf (λR E' B' h=>pf hby a hf h1 hl (by rw[rN hr (by ac_nf),he,hj];exact h)) λh' hit sb=>hQ _ _ ⟨es[i].1,?_⟩ ⟨kS h' sb,hit,trivial⟩ (mv h' sb)
   show es.toList[i]? =_
   rw[aZ,he]
 done:=λs Q E st hQ=>by
  obtain⟨a,b,c⟩:=st;have mv:∀h':Heap,(∀b o,b≠I->s.heap.get? b=some o->h'.get? b=some o)->Moved [I] (λa b=>b=a) s {s with heap:=h'}:=λh' sb=>⟨λx o hx e=>sb x o (λz=>hx (by simp[z])) e,rfl,rfl,rfl,ap _⟩;cases m with
  |D T n ps=>
   have hps:ps.length=es.size:=by rw[(show ps.Perm (bQ es.size)from hm).length_eq,iY]
   exact Ag (ps:=ps) hh b a hf c (gw (by ac_nf)) λh' k=>hQ _ (mv h' k)
  |B=>
   have hlen:(fD (w.params.setOrder S ep) es).size=es.size:=by
    have:=(oN (w.params.setOrder S ep) es).length_eq;simpa using this
   exact sU (slot:=0) hh b a hf (λR E' B' h=>nK hm a hf (by rw[show(fD (w.params.setOrder S ep) es)[es.size]? =none from by simp[hlen]];exact h)) λh' k=>hQ _ (mv h' k)
  |U=>
   obtain⟨hby,h1,hl,hr⟩:w.params.followText "set-order" =false/\(!t.plain&&decide (es.size>1))=false/\t.led=true/\Ri t:=hm
   have hps:t.place.size=es.size:=by
    simp only[bw.fits,aB,beq_iff_eq]at hf;exact hf.1
   refine sU (slot:=vo t es.size) hh b a hf (λR E' B' h=>pf hby a hf h1 hl ?_) λh' k=>hQ _ (mv h' k)
   rw[rN hr (by ac_nf),show es[es.size]? =none from by simp]
   exact h
 self:=λi s Q E st hQ=>by
  obtain⟨a,b,c⟩:=st;have hT:s.TypeIs (.ref I) "set_iterator" :=⟨_,b,rfl⟩;refine wpAny_pyIter_slot hT F.slot_setiter_iter (cr F.slot_setiter_iter hT (show entryFor table "set_iterator.__iter__" =some Builtin.«dict_keyiterator.__iter__» from entryFor_alias (id':= "dict_keyiterator.__iter__") (by kernel_rfl) rfl (by decide+kernel) (by kernel_rfl)) ?_ (by unfold argsOk;kernel_rfl));show wpAny _ _ (ret (.ref I)) _ _ s;exact ah ⟨_,rfl, "set_iterator",_,hT,F.slot_setiter_next.lookup,hQ⟩
theorem vF{Q:ae->ag->Prop}{es:Array (Int×ae)}{ep:Nat}{t:bw}(ho:AV s.heap S es ep t)(hf:t.fits es.size=true)(hb:es.size<kN)
  (hled:w.params.followText "set-order" =false->t.led=true) (hri:Ri t)
  (hQ:∀(m:SMode) (I:Addr) (h':Heap) (d:Drawn),m.okG w t es->I≠S->(∀T n ps,m= .D T n ps->T≠I)->(∀b∈m.fp I S,b<h'.objs.size)->s.heap.objs.size<=I->
   (∀b o,s.heap.get? b=some o->h'.get? b=some o)->AV h' S es ep t->EJ h' I (m.firstG t 0) 0 S es.size ep->m.tup h'->Q (.ref I) {s with heap:=h',drawn:=d}):
  wpAny (aK prog w) A (pyIter (.ref S)) Q E s:=by
 have hT:s.TypeIs (.ref S) "set" :=⟨_,ho,rfl⟩;have hlt:S<s.heap.objs.size:=aA ho;refine wpAny_pyIter_slot hT F.slot_set_iter (cr F.slot_set_iter hT F.entry_set_iter ?_ (F.args_set_iter _));unfold Builtin.«frozenset.__iter__» Builtin.Frozenset.slot0;refine aa (aa (show wpAny _ _ (pure (aM S,([]:List ae))) _ _ _ from ah (ah ?_)));refine aa ?_;unfold Builtin.Frozenset.sizeOf;refine aa (iD ho rfl hf (ah ?_));refine aa ?_;unfold setDrawn;refine aa (gS ho rfl hf ?_);refine aa ?_;unfold setsByText;refine aa (iq (ah ?_));refine ah ?_;have fin:∀(f:ae) (m:SMode) (h1:Heap) (d:Drawn),m.okG w t es->s.heap.objs.size<=h1.objs.size->(∀b o,s.heap.get? b=some o->h1.get? b=some o)->f=m.firstG t 0->(∀T n ps,m= .D T n ps->T<h1.objs.size)->m.tup h1->
   wpAny (aK prog w) A.in1 (do ret (<-newFields "set_iterator" [f,jD 0,.ref S,jD es.size,jD (<-setEpoch S)])) (λfin s'=>∃v,fin= .done (.ret v)/\∃T' r,s'.TypeIs v T'/\typeLookup (.type T') "__next__" =pure (some r)/\Q v s') E {s with heap:=h1,drawn:=d}:=by
  intro f m h1 d hm hsz hk e hTs htup;subst e;have ho1:AV h1 S es ep t:=hk _ _ ho;refine aa (wpAny_setEpoch_of (s:={s with heap:=h1,drawn:=d}) ho1 rfl hf ?_);have kp:∀b o,h1.get? b=some o->(h1.push {cls:= .type "set_iterator",dict:=none,data:= .fields #[m.firstG t 0,.int 0 0,.ref S,.int es.size 0,.int ep 0],slots:= #[]}).get? b=some o:=λb o q=>ai _ q;have hI:EJ (h1.push {cls:= .type "set_iterator",dict:=none,data:= .fields #[m.firstG t 0,.int 0 0,.ref S,.int es.size 0,.int ep 0],slots:= #[]}) h1.objs.size (m.firstG t 0) 0 S es.size ep:=aF _ rfl;refine aa (bI (ah ⟨_,rfl, "set_iterator",_,⟨_,hI,rfl⟩,F.slot_setiter_next.lookup,?_⟩) (by size_fits));refine hQ m h1.objs.size _ d hm (ie (aT hlt hsz)) (λT n ps e=>aN (hTs T n ps e)) (λb hb=> ?_) hsz (λb o q=>kp b o (hk b o q)) (kp _ _ ho1) hI ?_
  ·rw[cb];cases m with
   |D T n ps=>
    have hb':b=h1.objs.size\/b=S\/b=T:=by simpa [SMode.fp]using hb
    rcases hb' with rfl|rfl|rfl
    ·exact dG _
    ·exact cc (aT hlt hsz)
    ·exact cc (hTs _ _ _ rfl)
   |B=>
    have hb':b=h1.objs.size\/b=S:=by simpa [SMode.fp]using hb
    rcases hb' with rfl|rfl
    ·exact dG _
    ·exact cc (aT hlt hsz)
   |U=>
    have hb':b=h1.objs.size\/b=S:=by simpa [SMode.fp]using hb
    rcases hb' with rfl|rfl
    ·exact dG _
    ·exact cc (aT hlt hsz)
  ·cases m with
   |D T n ps=>exact kp _ _ htup
   |B=>trivial
   |U=>trivial
 by_cases hby:w.params.followText "set-order" =true
 ·refine cq (decide_eq_false (show¬((!w.params.followText "set-order" &&(!t.plain&&decide (es.size>1)))=true)from by rw[hby];simp)) ?_;exact aa (ah (fin (jD 0) .B s.heap s.drawn hby (ap _) (λb o q=>q) rfl (λT n ps e=>by cases e) trivial))
 ·have hby':w.params.followText "set-order" =false:=by simpa using hby
  cases h1: !t.plain&&decide (es.size>1)
  ·refine cq (decide_eq_false (show¬((!w.params.followText "set-order" &&(!t.plain&&decide (es.size>1)))=true)from by rw[h1];simp)) ?_;exact aa (ah (fin (jD 0) .U s.heap s.drawn ⟨hby',h1,hled hby',hri⟩ (ap _) (λb o q=>q) rfl (λT n ps e=>by cases e) trivial))
  ·refine wpAny_ite_true (decide_eq_true (show(!w.params.followText "set-order" &&(!t.plain&&decide (es.size>1)))=true from by rw[hby',h1];rfl)) ?_;refine aa (oi es.size (bQ es.size) _ _ (by simp) λps d hp=> ?_);have hlen:ps.length=es.size:=by rw[hp.length_eq,iY]
   refine aa (jf ?_ (by rw[av,hlen];exact lY hb));refine fin (.ref s.heap.objs.size) (.D s.heap.objs.size 0 ps) _ d hp (by rw[cb];exact eR _) (λb o q=>ai _ q) rfl (λT n ps e=>by cases e;rw[cb];exact dG _) (aF _ rfl)
end
end PySem
namespace PySem
section
variable{prog:aG}{w:aX}{K:Type}[DecidableEq K]{knd:KeyKind prog w K}
theorem TG.at{h h':Heap}{S:Addr}{ks:List K}(x:TG knd h S ks)(e:∀o,h.get? S=some o->h'.get? S=some o):TG knd h' S ks:=by
 obtain⟨es,ep,t,ho,r⟩:=x;exact⟨es,ep,t,e _ ho,r⟩
def KAt(knd:KeyKind prog w K)(xs:List K)(i:Nat)(v:ae):Prop:=∃k,xs[i]? =some k/\knd.is k v=true/\v.scannable=true
section
variable{A:Around}{R:Result->ag->Prop}{I:Addr}{fp wr:List Addr}{G:Array GenState->Array GenState->Prop}{n:Nat}{P:Nat->ae->Prop}{St:Nat->ag->Prop}
theorem sd(W:WalksS prog w A.in1 I fp wr G n P St)(S:Addr)(hSf:S∉fp)(xs:List K)(hval:∀i v,P i v->KAt knd xs i v)(hb:n+1<kN):
  ∀(k i:Nat) (s:ag) (ks:List K),n-i=k->i<=n->St i s->TG knd s.heap S ks->ks.length<=i->(∀z,z∈ks↔z∈xs.take i)->
   (∀(s':ag) (ks':List K),Moved (S::wr) G s s'->TG knd s'.heap S ks'->ks'.length<=n->(∀z,z∈ks'↔z∈xs.take n)->R (.ok (.ret .none)) s')->
   codeAny (aK prog w) A (.builtin "set.update.loop" ⟨[.ref S,.ref I],[]⟩) R s:=by
 have hSw:S∉wr:=λh=>hSf (W.sub _ h);have hsub:∀b∈wr,b∈S::wr:=λb hb=>bC _ hb;intro k;induction k with
 |zero=>
  intro i s ks hk hi hst hS hkl hmem hR
  have hin:i=n:=by ac_nf
  subst hin
  refine gM kP ?_
  rw[gI gh _]
  show wpAny _ A.in1 (pyNext (.ref I)>>=_) _ _ s
  refine aa (W.done s _ _ hst λs' hm=> ?_)
  show wpAny _ A.in1 (ret bF) _ _ s'
  exact ah (hR s' ks (hm.mono hsub) (hS.at λo e=>hm.heap S o hSw e) hkl hmem)
 |succ k ih=>
  intro i s ks hk hi hst hS hkl hmem hR
  have hlt:i<n:=by ac_nf
  refine gM kP ?_
  rw[gI gh _]
  show wpAny _ A.in1 (pyNext (.ref I)>>=_) _ _ s
  refine aa (W.item i s _ _ hlt hst λv s' hP hst' hm=> ?_)
  obtain⟨c,hc,hkey,hsc⟩:=hval i v hP
  have hS':TG knd s'.heap S ks:=hS.at λo e=>hm.heap S o hSw e
  show wpAny _ A.in1 (holding [v] (setAdd S v)>>=_) _ _ s'
  refine aa (b6 (BE hkey hsc hS' (by ac_nf) λh' b ks' hsb hS2 hp=> ?_))
  refine ah ⟨rZ gh _,ih (i+1) _ ks' (by ac_nf) hlt (W.frame _ s' _ _ hst' (eR _) λb hb o e=> ?_) hS2 ?_ ?_ λs'' k2 hm'' hS'' hl'' hmem''=> ?_⟩
  ·rw[hsb.2 b (λh:b=S=>hSf (by rw[<-h];exact hb))];exact e
  ·rw[hp.length_eq]
   split
   ·ac_nf
   ·rw[af];simp;ac_nf
  ·intro z
   have tk:xs.take (i+1)=xs.take i++[c]:=by rw[cK,hc];rfl
   rw[hp.mem_iff,tk,aH,ar]
   by_cases hz:c∈ks
   ·rw[if_pos hz,hmem z]
    constructor
    ·exact .inl
    ·rintro(h|rfl)
     ·exact h
     ·exact(hmem _).mp hz
   ·rw[if_neg hz,aH,ar,hmem z]
  ·refine hR s'' k2 (Moved.trans W.gtrans ((hm.mono hsub).then_heap (eR _) λb o hb e=> ?_) hm'') hS'' hl'' hmem''
   rw[hsb.2 b (λh:b=S=>hb (by rw[h];exact dB))];exact e
end
section
variable{A:Around}{E:ae->ag->Prop}{s:ag}{S:Addr}{ks:List K}
theorem Ez{h:Heap}:TG knd (h.push {cls:= .type "set",dict:=none,data:= .set #[] 0 (.fresh 0 0 (!w.params.followText "set-order"))}) h.objs.size []:=by
 refine⟨#[],0,_,aF _ rfl,λe he=>by simp at he,by decide,by rfl,λhb=> ?_,⟨.nil,rfl⟩,.nil,.nil⟩;show(!w.params.followText "set-order")=true;rw[hb];rfl
set_option maxRecDepth 100000 in
theorem xO(xs:List K){l:Addr}{items:Array ae}(hl:s.heap.IsList l items)(hi:∀i v,items[i]? =some v->KAt knd xs i v)(hn:items.size=xs.length){Q:ae->ag->Prop}(hh:A.handled=none)(hb:xs.length+1<kN)
  (h:∀(h':Heap) (tk:Nat) (ks:List K),TG knd h' s.heap.objs.size ks->ks.length<=xs.length->(∀z,z∈ks↔z∈xs)->
   (∀b o,b<s.heap.objs.size->s.heap.get? b=some o->h'.get? b=some o)->Q (.ref s.heap.objs.size) {s with heap:=h',toks:=tk}):
  wpAny (aK prog w) A (call (.type "set") [.ref l]) Q E s:=by
 obtain⟨c,tl,hmro⟩:=F.called_set.mro;have hmade:=F.called_set.made;have hsub:=F.called_set.sub;refine nD (codeAny_of_tree ?_);show wpAny _ _ (callAny (.type "set") _) _ _ _;refine ah ⟨Code.quiet_builtin _ (by decide+kernel),gM F.entry_type_call ?_⟩;rw[Around.under_plain (weight_type_call_type "set" [.ref l] []) rfl];have h1:=F.called_set.notType;have h2:=F.called_set.canCreate;have hct:=F.typeCall_set_1 (.ref l);repeat (any_goals (first|assumption|wp_step))
 refine jl (so (.ref l) (E:=E) (Q₁:=λobj s₁=>obj= .ref s.heap.objs.size/\s₁={s with heap:=s.heap.push {cls:= .type "set",dict:=none,data:= .set #[] 0 (.fresh 0 0 (!w.params.followText "set-order"))}}) ⟨rfl,rfl⟩) λr s₁ hr=> ?_;cases r with
 |error e=>exact hr
 |ok fl=>
  cases fl with
  |ret obj=>
   obtain⟨rfl,rfl⟩:=hr
   have hS:(s.heap.push {cls:= .type "set",dict:=none,data:= .set #[] 0 (.fresh 0 0 (!w.params.followText "set-order"))}).get? s.heap.objs.size=some {cls:= .type "set",dict:=none,data:= .set #[] 0 (.fresh 0 0 (!w.params.followText "set-order"))}:=aF _ rfl
   have hTS:TG knd (s.heap.push {cls:= .type "set",dict:=none,data:= .set #[] 0 (.fresh 0 0 (!w.params.followText "set-order"))}) s.heap.objs.size []:=Ez
   have hsz:=cb s.heap {cls:= .type "set",dict:=none,data:= .set #[] 0 (.fresh 0 0 (!w.params.followText "set-order"))}
   have hkp:∀b o,s.heap.get? b=some o->(s.heap.push {cls:= .type "set",dict:=none,data:= .set #[] 0 (.fresh 0 0 (!w.params.followText "set-order"))}).get? b=some o:=λb o e=>ai _ e
   generalize s.heap.push {cls:= .type "set",dict:=none,data:= .set #[] 0 (.fresh 0 0 (!w.params.followText "set-order"))}=g1 at hS hTS hsz hkp⊢
   have hT:ag.TypeIs {s with heap:=g1} (.ref s.heap.objs.size) "set" :=⟨_,hS,rfl⟩
   have hli:=F.called_set.init.lookup
   have hbi:=F.called_set.init.bind (.ref s.heap.objs.size)
   repeat (any_goals (first|assumption|wp_step))
   refine jl (pM (R:=wants (λr s₂=>r= .none/\∃h' tk ks,s₂={s with heap:=h',toks:=tk}/\
     TG knd h' s.heap.objs.size ks/\ks.length<=xs.length/\(∀z,z∈ks↔z∈xs)/\
     (∀b o,b<s.heap.objs.size->s.heap.get? b=some o->h'.get? b=some o)) E) F.called_set.init.plain F.entry_set_init (check_set_init_1 hT ?_)) λr₂ s₂ hr₂=> ?_
   ·obtain⟨⟨cl',dl',dt',sl'⟩,hol,hcl,nl,hdl⟩:=hl
    simp only at hcl hdl
    subst hcl;subst hdl
    have hol':=hkp l _ hol
    have hl1:g1.IsList l items:=⟨_,hol',rfl,nl,rfl⟩
    have hsls:=F.sub_list_set
    have hslf:=F.sub_list_frozenset
    have hne:(bE "list" ==bE "dict")=false:=by decide
    have hlS:l<s.heap.objs.size:=aA hol
    unfold Builtin.«set.__init__» noKeywords Builtin.Frozenset.updateFrom
    generalize hPI:pyIter=PI
    wp_walk
    subst hPI
    refine tV hl1 ?_
    refine aa (wpAny_runValue ?_)
    have hh3:A.in1.in1.in1.handled=none:=by simp[hh]
    have hneI:l≠g1.objs.size:=by rw[hsz];exact aN (cc hlS)
    have hSf:s.heap.objs.size∉[g1.objs.size,l]:=by
     rw[hsz];intro hm;rcases aw.mp hm with e|hm
     ·exact absurd e (aN (dG _))
     ·exact absurd (ar.mp hm) (ie hlS)
    refine sd ((Walks.list hh3 _ l hneI items).toS) s.heap.objs.size hSf xs hi (by rw[hn];exact hb) (items.size-0) 0 _ [] (by ac_nf) (c8 _) ⟨⟨_,aF _ rfl,rfl,rfl⟩,hl1.push _⟩ (hTS.at λo e=>ai _ e) (ap _) (by simp) ?hR
    case hR=>
     intro s' ks' hm hS' hkl hmem
     rw[hn]at hkl
     rw[hn,dZ]at hmem
     obtain⟨h',g',d',tk',os'⟩:=s'
     have eg:g'=s.gens:=hm.gens
     have ed:d'=s.drawn:=hm.drawn
     have eo:os'=s.os:=hm.os
     subst eg;subst ed;subst eo
     show wpAny _ _ _ _ _ _
     refine ah ?_
     show wpAny _ _ (ret bF) _ _ _
     refine ah ⟨rfl,h',tk',ks',rfl,hS',hkl,hmem,λb o hb e=> ?_⟩
     refine hm.heap b o ?_ (ai _ (hkp b o e))
     simp only[aw,ar,bu,or_false,not_or]
     refine⟨aN hb,?_⟩
     rw[hsz]
     exact aN (cc hb)
   ·cases r₂ with
    |error e=>exact hr₂
    |ok fl₂=>
     cases fl₂ with
     |ret r=>
      obtain⟨rfl,h',tk,ks,rfl,hS',hkl,hmem,hk'⟩:=hr₂
      repeat (any_goals (first|assumption|wp_step))
      exact h _ _ ks hS' hkl hmem hk'
     |_=>exact hr₂.elim
  |_=>exact hr.elim
theorem AD{Q:List ae->ag->Prop}(hh:A.handled=none)(hS:TG knd s.heap S ks)
  (hQ:∀(s':ag) (acc:Array ae) (ks':List K),(∀b o,s.heap.get? b=some o->s'.heap.get? b=some o)->s'.gens=s.gens->s'.os=s.os->iN knd.is acc.toList ks'->ks'.Perm ks->Q acc.toList s'):
  wpAny (aK prog w) A (collect (.ref S)) Q E s:=by
 obtain⟨es,ep,t,ho,hel,hb,hf,hled,hri,hst,hnd⟩:=hS;have hlt:S<s.heap.objs.size:=aA ho;unfold collect;refine aa (wpAny_runValue (gM F.entry_proto_collect ?_));rw[gI F.plain_proto_collect _];show wpAny _ A.in1 (newList []>>=λl=>again (.builtin "list.__iadd__" ⟨[l,.ref S],[]⟩)) _ _ s;refine aa (bI ?_);refine ah ⟨rZ F.plain_list_iadd _,gM F.entry_list_iadd ?_⟩;rw[gI F.plain_list_iadd _];have hne:s.heap.objs.size≠S:=ie hlt;have h1:ql (.ref s.heap.objs.size) (.ref S)=false:=by simp[ql,hne]
 show wpAny _ A.in1 (o8 (.ref s.heap.objs.size) (.ref S) (.ref s.heap.objs.size)) _ _ _;unfold o8;have ho1:AV (s.heap.push {cls:= .type "list",data:= .seq ([]:List ae).toArray}) S es ep t:=ai _ ho;have hT1:ag.TypeIs {s with heap:=s.heap.push {cls:= .type "list",data:= .seq ([]:List ae).toArray}} (.ref S) "set" :=⟨_,ho1,rfl⟩;have hL1:(s.heap.push {cls:= .type "list",data:= .seq ([]:List ae).toArray}).get? s.heap.objs.size=some {cls:= .type "list",data:= .seq ([]:List ae).toArray}:=aF _ rfl;have kp1:∀b o,s.heap.get? b=some o->(s.heap.push {cls:= .type "list",data:= .seq ([]:List ae).toArray}).get? b=some o:=λb o q=>ai _ q;have sz1:=cb s.heap {cls:= .type "list",data:= .seq ([]:List ae).toArray};generalize s.heap.push {cls:= .type "list",data:= .seq ([]:List ae).toArray}=g1 at ho1 hT1 hL1 kp1 sz1⊢;refine aa (kj hT1 ?_);rw[if_neg (by rw[h1];decide)];refine aa (vF (s:={s with heap:=g1}) ho1 hf hb hled hri λm I h' d hm nI nT hfp hI kp hS' hit htup=> ?_);refine aa (b6 ?_);unfold Builtin.List.listLengthHint;have hT2:ag.TypeIs {s with heap:=h',drawn:=d} (.ref S) "set" :=⟨_,hS',rfl⟩;refine aa (wpAny_specialOf hT2 F.slot_set_len.lookup ?_);wp_delta;refine aa (mI (T:= "set") (v:= .ref S) (b:=true) hT2 (by rw[isSubtype_type];kernel_rfl) ?_);show wpAny _ A.in1 (typeOf (aM S)>>=_) _ _ _;refine aa (kj hT2 ?_);refine ah ?_;have hSf:s.heap.objs.size∉m.fp I S:=by
  rw[sz1]at hI;cases m with
  |D T n ps=>
   have hTn:s.heap.objs.size≠T:=λe=>by
    subst e;have h2:h'.get? s.heap.objs.size=some {cls:= .type "tuple",dict:=none,data:= .seq (ps.map fun(p:Nat)=>cZ p 0).toArray n,slots:= #[]}:=htup;rw[kp _ _ hL1]at h2;have:=congrArg Obj.cls (bt h2);exact absurd (bE.inj this) (by decide)
   simp only[SMode.fp,aw,bu,or_false,not_or]
   exact⟨aN hI,hne,hTn⟩
  |B=>simp only[SMode.fp,aw,bu,or_false,not_or];exact⟨aN hI,hne⟩
  |U=>simp only[SMode.fp,aw,bu,or_false,not_or];exact⟨aN hI,hne⟩
 show wpAny _ A.in1 (rule "list.extend.makes-room" >>=λ_=>Builtin.List.listTouch (.ref s.heap.objs.size)>>=λ_=>
  again (.builtin "list.extend.loop" ⟨[.ref s.heap.objs.size,.ref I,.ref s.heap.objs.size],[]⟩)) _ _ _
 refine aa (eP ?_);refine aa ?_;show wpAny _ A.in1 (updateSeq s.heap.objs.size (·.push .none)>>=λ_=>updateSeq s.heap.objs.size (·.pop)) _ _ _;have hL2:=kp _ _ hL1;refine aa (wpAny_updateSeq (s:={s with heap:=h',drawn:=d}) hL2 rfl ?_);have hL3:=de (cI (·.push bF)) hL2 rfl;refine wpAny_updateSeq (hz:=by seq_fits) hL3 rfl ?_;have hL4:=de (cI (·.pop)) hL3 rfl;have oth:∀b o,b≠s.heap.objs.size->h'.get? b=some o->((h'.update s.heap.objs.size (cI (·.push bF))).update s.heap.objs.size (cI (·.pop))).get? b=some o:=
  λb o hb e=>(bW _ _ (aY hb)).trans ((bW _ _ (aY hb)).trans e)
 have hh1:A.in1.handled=none:=by simp[hh]
 have W:=wH (prog:=prog) (I:=I) (S:=S) (ep:=ep) hh1 hf hm nI nT;refine ah ⟨rZ F.plain_extend_loop _,codeAny_extend_loopS W (lY hb) _ hSf _ es.size 0 _ _ _ rfl (c8 _)
  (W.frame 0 {s with heap:=h',drawn:=d} _ s.toks ⟨hS',hit,htup⟩ (ap _) λb hb o e=>oth b o (λh=>hSf (h▸hb)) e) hL4 (ItemsOf.nil _) λs' acc' c' hmv hS'' hacc=> ?_⟩
 show wpAny _ A (load s.heap.objs.size>>=_) _ _ s';refine aa (wpAny_load hS'' ?_);have hord:=zY (S:=S) (ep:=ep) hm;have hvals:acc'.toList=(m.ord w S ep es).map (·.2):=by
  apply qh;intro j;have hlo:(m.ord w S ep es).length=es.size:=by rw[hord.length_eq];simp
  by_cases hj:j<es.size
  ·have e1:acc'.toList[j]? =some (acc'[j]'(by rw[hacc.1];exact hj)):=by rw[aZ];simp[hacc.1,hj]
   obtain⟨hx,e2⟩:=hacc.2 j _ (by rw[<-aZ];exact e1);rw[e1,br,e2];rfl
  ·rw[gw (by rw[aE,hacc.1];ac_nf),gw (by rw[av,hlo];ac_nf)]
 obtain⟨ks',hst',hp'⟩:=lU (hord.map (·.2)) hst;refine ah (hQ s' acc' ks' (λb o e=> ?_) hmv.gens hmv.os (by rw[hvals];exact hst') hp');have hbl:b<s.heap.objs.size:=aA e;refine hmv.heap b o ?_ (oth b o (aN hbl) (kp b o (kp1 b o e)));rw[sz1]at hI;simp only[aw,bu,or_false,not_or];exact⟨aN hbl,aN (aT hbl (Nat.le_of_succ_le hI))⟩
end
end
end PySem
namespace Tim
open PySem PyProof.Rows
def gal:Bool->bf->Array bf->Nat->Nat->Nat->StateT b7 Sem (Option Nat):=sortPriv%PySem.Builtin.gallop
section
variable{prog:aG}{w:aX}{A:Around}{E:ae->ag->Prop}{s:ag}{κ:aP}
def jN(κ:aP)(x:bf)(a:κ.α):Prop:=κ.keyOf x.1=some a
theorem tT(hO:κ.OneLt){st:b7}{x y:bf}{a b:κ.α}{Q:Option Bool->b7->Prop}(hk:kindOf st=gL)(ha:jN κ x a)(hb:jN κ y b)(h:Q (some (κ.blt a b)) st):wpS (aK prog w) A E s (lt' x y) Q st:=by
 rw[lt'_eq];refine aD (wpS_get ?_);rw[hk,keyLt'_oneType];exact aD (wpS_lift (fL (hO prog w A _ s _ _ a b ha hb ⟨rfl,aL h⟩)))
theorem nB{st:b7}{arr:Array bf}{i:Nat}{x:bf}{Q:bf->b7->Prop}(hi:arr[i]? =some x)(h:Q x st):wpS (aK prog w) A E s (elem' arr i) Q st:=by
 rw[elem'_eq,hi];exact aL h
def lH(κ:aP)(left:Bool)(k a:κ.α):Bool:=if left then κ.blt a k else !κ.blt k a
theorem lG{left:Bool}{k a b:κ.α}(h:lH κ left k b=true)(l:κ.kle a b):lH κ left k a=true:=by
 unfold lH at h⊢;cases left with
 |true=>exact PyProof.Rows.KeyOrd.klt_of_kle_of_klt l h
 |false=>
  have h':κ.blt k b=false:=by simpa using h
  have e:κ.blt k a=false:=aS (a:=a) (b:=b) (c:=k) l h'
  show(!κ.blt k a)=true
  rw[e];rfl
theorem nC(hO:κ.OneLt){left:Bool}{key:bf}{arr:Array bf}{base i:Nat}{st:b7}{k:κ.α}{x:bf}{a:κ.α}{Q:Option Bool->b7->Prop}{m:StateT b7 Sem (Option Bool)}
  (e:m=(elem' arr (base+i)>>=λx=>if left=true then lt' x key else lt' key x>>=λr=>pure (r.map λb=> !b))) (hk:kindOf st=gL) (hx:arr[base+i]? =some x) (ha:jN κ x a) (hkey:jN κ key k) (h:Q (some (lH κ left k a)) st):wpS (aK prog w) A E s m Q st:=by
 rw[e];refine aD (nB hx ?_);cases left with
 |true=>exact tT hO hk ha hkey h
 |false=>exact aD (tT hO hk hkey ha (aL h))
theorem uZ{left:Bool}{n lo hi:Nat}{Q:Option Nat->b7->Prop}{st:b7}{k:κ.α}{f:Nat->κ.α}{g:Nat->Option (Option Nat)×Nat×Nat->StateT b7 Sem (ForInStep (Option (Option Nat)×Nat×Nat))}{fin:Option (Option Nat)×Nat×Nat->StateT b7 Sem (Option Nat)}
  (hg1:∀i l o,l≥o->g i (none,l,o)=pure (ForInStep.done (none,l,o)))
  (hg2:∀i l o,¬l≥o->o<=n->∀Q':ForInStep (Option (Option Nat)×Nat×Nat)->b7->Prop,Q' (er (if lH κ left k (f (l+(o-l)/2))=true then(none,l+(o-l)/2+1,o)else(none,l,l+(o-l)/2))) st->wpS (aK prog w) A E s (g i (none,l,o)) Q' st)
  (hfin:∀l o,fin (none,l,o)=pure (some o))
  (mono:∀i j,i<=j->j<n->κ.kle (f i) (f j)) (hlo:lo<=hi) (hhi:hi<=n)
  (pre:∀i,i<lo->lH κ left k (f i)=true) (post:∀i,hi<=i->i<n->lH κ left k (f i)=false)
  (h:∀r,r<=n->(∀i,i<r->lH κ left k (f i)=true)->(∀i,r<=i->i<n->lH κ left k (f i)=false)->Q (some r) st):
  wpS (aK prog w) A E s (forIn [0:n] ((none:Option (Option Nat)),lo,hi) g>>=fin) Q st:=by
 refine aD (fY (cO (I:=λi c st'=>st'=st/\∃l o,c=(none,l,o)/\l<=o/\o<=n/\o-l<=n-i/\(∀i,i<l->lH κ left k (f i)=true)/\(∀i,o<=i->i<n->lH κ left k (f i)=false))
  (Q:=λc st'=>st'=st/\∃l,c=(none,l,l)/\l<=n/\(∀i,i<l->lH κ left k (f i)=true)/\(∀i,l<=i->i<n->lH κ left k (f i)=false)) ?_ ?_ ⟨rfl,lo,hi,rfl,hlo,hhi,by ac_nf,pre,post⟩) ?_)
 ·rintro i c st' _ hi ⟨rfl,l,o,rfl,h1,h2,h3,p1,p2⟩;by_cases hge:l≥o
  ·obtain rfl:l=o:=by ac_nf
   rw[hg1 i l l hge];exact aL ⟨rfl,l,rfl,h2,p1,p2⟩
  ·refine hg2 i l o hge h2 _ ?_;generalize hm:l+(o-l)/2=m;have hm1:l<=m/\m<o:=by ac_nf
   cases hb:lH κ left k (f m)with
   |true=>
    rw[if_pos rfl]
    refine⟨rfl,m+1,o,rfl,by ac_nf,h2,by ac_nf,λj hj=> ?_,p2⟩
    exact lG hb (mono j m (by ac_nf) (by ac_nf))
   |false=>
    rw[if_neg (by decide)]
    refine⟨rfl,l,m,rfl,by ac_nf,by ac_nf,by ac_nf,p1,λj hj hn=> ?_⟩
    cases e:lH κ left k (f j)with
    |false=>rfl
    |true=>rw[lG e (mono m j hj hn)]at hb;cases hb
 ·rintro c st' ⟨rfl,l,o,rfl,h1,h2,h3,p1,p2⟩;obtain rfl:l=o:=by ac_nf
  exact⟨rfl,l,rfl,h2,p1,p2⟩
 ·rintro c st' ⟨rfl,l,rfl,h2,p1,p2⟩;rw[hfin];exact aL (h l h2 p1 p2)
theorem lM(hO:κ.OneLt){left:Bool}{key:bf}{arr:Array bf}{base n hint:Nat}{Q:Option Nat->b7->Prop}{st:b7}{k:κ.α}{f:Nat->κ.α}(hn:hint<n)(hk:kindOf st=gL)(hkey:jN κ key k)
  (hf:∀i,i<n->∃x,arr[base+i]? =some x/\jN κ x (f i)) (mono:∀i j,i<=j->j<n->κ.kle (f i) (f j))
  (h:∀r,r<=n->(∀i,i<r->lH κ left k (f i)=true)->(∀i,r<=i->i<n->lH κ left k (f i)=false)->Q (some r) st):wpS (aK prog w) A E s (gal left key arr base n hint) Q st:=by
 have up:∀{i j},i<=j->j<n->lH κ left k (f i)=false->lH κ left k (f j)=false:=fun{i j} hij hj h0=>by
  cases e:lH κ left k (f j)with
  |false=>rfl
  |true=>rw[lG e (mono i j hij hj)]at h0;cases h0
 unfold gal;obtain⟨x,hx,hxk⟩:=hf hint hn;refine aD (nC hO rfl hk hx hxk hkey ?_);cases hr:lH κ left k (f hint)with
 |true=>
  dsimp only
  rw[if_pos rfl]
  refine aD (fY (cO (I:=λi c st'=>st'=st/\∃l o,c=(none,l,o)/\i+1<=o/\l<o/\l<n-hint/\lH κ left k (f (hint+l))=true)
   (Q:=λc st'=>st'=st/\∃l o,c=(none,l,o)/\l<o/\l<n-hint/\lH κ left k (f (hint+l))=true/\(n-hint<=o\/lH κ left k (f (hint+o))=false)) ?_ ?_ ⟨rfl,0,1,rfl,by ac_nf,by ac_nf,by ac_nf,hr⟩) ?_)
  ·rintro i c st' _ hi ⟨rfl,l,o,rfl,ho,hlo,hl,hb⟩
   dsimp only
   by_cases hge:o≥n-hint
   ·rw[if_pos hge]
    exact aL ⟨rfl,l,o,rfl,hlo,hl,hb,.inl hge⟩
   ·rw[if_neg hge]
    obtain⟨y,hy,hyk⟩:=hf (hint+o) (by ac_nf)
    refine aD (nC hO rfl hk hy hyk hkey ?_)
    cases hm:lH κ left k (f (hint+o))with
    |true=>exact aL ⟨rfl,o,2*o+1,rfl,by ac_nf,by ac_nf,by ac_nf,hm⟩
    |false=>exact aL ⟨rfl,l,o,rfl,hlo,hl,hb,.inr hm⟩
  ·rintro c st' ⟨rfl,l,o,rfl,ho,hlo,hl,hb⟩
   exact⟨rfl,l,o,rfl,hlo,hl,hb,.inl (by ac_nf)⟩
  ·rintro c st' ⟨rfl,l,o,rfl,hlo,hl,hb,hex⟩
   dsimp only
   refine uZ (left:=left) (k:=k) (f:=f) (λi l o h1=>if_pos h1) (λi l o h1 h2 Q' hQ=> ?_) (λl o=>rfl) mono ?_ ?_ (λi hi=> ?_) (λi hi hin=> ?_) h
   ·dsimp only
    rw[if_neg h1]
    obtain⟨y,hy,hyk⟩:=hf (l+(o-l)/2) (by ac_nf)
    refine aD (nC hO rfl hk hy hyk hkey ?_)
    cases hb:lH κ left k (f (l+(o-l)/2))with
    |true=>rw[hb]at hQ;exact aL hQ
    |false=>rw[hb]at hQ;exact aL hQ
   ·ac_nf
   ·ac_nf
   ·exact lG hb (mono i (hint+l) (by ac_nf) (by ac_nf))
   ·rcases hex with hex|hex
    ·ac_nf
    ·exact up (by ac_nf) hin hex
 |false=>
  dsimp only
  rw[if_neg (by decide)]
  refine aD (fY (cO (I:=λi c st'=>st'=st/\∃l o,c=(none,l,o)/\i+1<=o/\l<o/\l<hint+1/\lH κ left k (f (hint-l))=false)
   (Q:=λc st'=>st'=st/\∃l o,c=(none,l,o)/\l<o/\l<hint+1/\lH κ left k (f (hint-l))=false/\(hint+1<=o\/lH κ left k (f (hint-o))=true)) ?_ ?_ ⟨rfl,0,1,rfl,by ac_nf,by ac_nf,by ac_nf,hr⟩) ?_)
  ·rintro i c st' _ hi ⟨rfl,l,o,rfl,ho,hlo,hl,hb⟩
   dsimp only
   by_cases hge:o≥hint+1
   ·rw[if_pos hge]
    exact aL ⟨rfl,l,o,rfl,hlo,hl,hb,.inl hge⟩
   ·rw[if_neg hge]
    obtain⟨y,hy,hyk⟩:=hf (hint-o) (by ac_nf)
    refine aD (nC hO rfl hk hy hyk hkey ?_)
    cases hm:lH κ left k (f (hint-o))with
    |true=>exact aL ⟨rfl,l,o,rfl,hlo,hl,hb,.inr hm⟩
    |false=>exact aL ⟨rfl,o,2*o+1,rfl,by ac_nf,by ac_nf,by ac_nf,hm⟩
  ·rintro c st' ⟨rfl,l,o,rfl,ho,hlo,hl,hb⟩
   exact⟨rfl,l,o,rfl,hlo,hl,hb,.inl (by ac_nf)⟩
  ·rintro c st' ⟨rfl,l,o,rfl,hlo,hl,hb,hex⟩
   dsimp only
   refine uZ (left:=left) (k:=k) (f:=f) (λi l o h1=>if_pos h1) (λi l o h1 h2 Q' hQ=> ?_) (λl o=>rfl) mono ?_ ?_ (λi hi=> ?_) (λi hi hin=> ?_) h
   ·dsimp only
    rw[if_neg h1]
    obtain⟨y,hy,hyk⟩:=hf (l+(o-l)/2) (by ac_nf)
    refine aD (nC hO rfl hk hy hyk hkey ?_)
    cases hb:lH κ left k (f (l+(o-l)/2))with
    |true=>rw[hb]at hQ;exact aL hQ
    |false=>rw[hb]at hQ;exact aL hQ
   ·ac_nf
   ·ac_nf
   ·rcases hex with hex|hex
    ·ac_nf
    ·exact lG hex (mono i (hint-o) (by ac_nf) (by ac_nf))
   ·exact up hi hin hb
end
end Tim
namespace Tim
open PySem PyProof.Rows
def Le(κ:aP)(x y:bf):Prop:=∃a b,jN κ x a/\jN κ y b/\κ.kle a b
structure Mg(R:bf->bf->Prop)(T out ra rb:List bf):Prop where
 perm:(out++(ra++rb)).Perm T
 sa:(out++ra).Pairwise R
 sb:(out++rb).Pairwise R
section
variable{R:bf->bf->Prop}{T out ra rb p:List bf}
theorem Mg.moveA(h:Mg R T out (p++ra) rb)(hp:∀x∈p,∀y∈rb,R x y):Mg R T (out++p) ra rb:=by
 refine⟨by simpa using h.perm,by simpa using h.sa,?_⟩;have h1:=h.sa;have h2:=h.sb;rw[cP]at h1 h2⊢;obtain⟨q1,q2,q3⟩:=h1;obtain⟨r1,r2,r3⟩:=h2;rw[cP]at q2;refine⟨?_,r2,?_⟩
 ·rw[cP];exact⟨q1,q2.1,λx hx y hy=>q3 x hx y (gP _ hy)⟩
 ·intro x hx y hy;rcases aH.1 hx with hx|hx
  ·exact r3 x hx y hy
  ·exact hp x hx y hy
theorem Mg.swap(h:Mg R T out ra rb):Mg R T out rb ra:=
 ⟨((List.perm_append_comm (l₁:=rb) (l₂:=ra)).append_left out).trans h.perm,h.sb,h.sa⟩
theorem Mg.done(h:Mg R T out ra rb)(hp:∀x∈ra,∀y∈rb,R x y):(out++(ra++rb)).Perm T/\(out++(ra++rb)).Pairwise R:=by
 have h':Mg R T out (ra++[]) rb:=by simpa using h
 have:=(h'.moveA hp).sb;exact⟨h.perm,by simpa using this⟩
theorem Mg.done'(h:Mg R T out ra rb)(hp:∀x∈rb,∀y∈ra,R x y):(out++(rb++ra)).Perm T/\(out++(rb++ra)).Pairwise R:=h.swap.done hp
theorem AB{xs:Array bf}{i:Nat}(hi:i<xs.size):xs.toList.drop i=xs[i]::xs.toList.drop (i+1):=by
 rw[fj (by simpa using hi)];simp
theorem D7{xs:Array bf}{i k:Nat}(hi:i+k<=xs.size):xs.toList.drop i=(xs.extract i (i+k)).toList++xs.toList.drop (i+k):=by
 rw[jn,ii,show i+k-i=k by ac_nf,<-List.drop_drop,bg]
end
end Tim
namespace Tim
open PySem PyProof.Rows
def Kz(κ:aP)(x:Array bf)(f:Nat->κ.α):Prop:=∀i (h:i<x.size),jN κ x[i] (f i)
section
variable{κ:aP}{T:List bf}{out x y:Array bf}{fx fy:Nat->κ.α}{i j k:Nat}
theorem lv{z:bf}(h:z∈x.toList.drop i):∃l,∃(hl:l<x.size),i<=l/\z=x[l]:=by
 obtain⟨n,hn,rfl⟩:=bK.1 h;simp only[aW,aE]at hn;exact⟨i+n,by ac_nf,by ac_nf,by simp⟩
theorem FV{z:bf}(hk:i+k<=x.size)(h:z∈(x.extract i (i+k)).toList):∃l,∃(hl:i+l<x.size),l<k/\z=x[i+l]:=by
 obtain⟨n,hn,rfl⟩:=bK.1 h;simp only[aE,Array.size_extract]at hn;exact⟨n,by ac_nf,by ac_nf,by simp⟩
theorem Mg.run(gx:Kz κ x fx)(gy:Kz κ y fy)(my:∀i j,i<=j->j<y.size->κ.kle (fy i) (fy j))(h:Mg (Le κ) T out.toList (x.toList.drop i) (y.toList.drop j))(hk:i+k<=x.size)
  (hp:j<y.size->∀l,l<k->κ.kle (fx (i+l)) (fy j)):Mg (Le κ) T (out++x.extract i (i+k)).toList (x.toList.drop (i+k)) (y.toList.drop j):=by
 rw[D7 hk]at h;rw[dM];refine h.moveA λu hu v hv=> ?_;obtain⟨l,hl,hlk,rfl⟩:=FV hk hu;obtain⟨m,hm,hjm,rfl⟩:=lv hv;exact⟨_,_,gx _ hl,gy _ hm,aS (hp (by ac_nf) l hlk) (my j m hjm hm)⟩
theorem Mg.put(gx:Kz κ x fx)(gy:Kz κ y fy)(my:∀i j,i<=j->j<y.size->κ.kle (fy i) (fy j))(h:Mg (Le κ) T out.toList (x.toList.drop i) (y.toList.drop j))(hi:i<x.size)
  (hp:j<y.size->κ.kle (fx i) (fy j)):Mg (Le κ) T (out.push x[i]).toList (x.toList.drop (i+1)) (y.toList.drop j):=by
 rw[AB hi]at h;rw[iP];refine Mg.moveA (p:=[x[i]]) h λu hu v hv=> ?_;obtain rfl:=ar.1 hu;obtain⟨m,hm,hjm,rfl⟩:=lv hv;exact⟨_,_,gx _ hi,gy _ hm,aS (hp (by ac_nf)) (my j m hjm hm)⟩
def Mz(κ:aP)(T:List bf)(r:Array bf):Prop:=r.toList.Perm T/\r.toList.Pairwise (Le κ)
theorem qd:(x.extract i x.size).toList=x.toList.drop i:=by
 rw[jn,ii];exact cE (by simp)
theorem Mg.fin(h:Mg (Le κ) T out.toList (x.toList.drop i) (y.toList.drop j))(hj:j=y.size):Mz κ T (out++x.extract i x.size++y.extract j y.size):=by
 have:=h.done (λu hu v hv=>by obtain⟨m,hm,hjm,rfl⟩:=lv hv;ac_nf);unfold Mz;rw[dM,dM,qd,qd,aI];exact this
theorem Mg.last(gx:Kz κ x fx)(gy:Kz κ y fy)(h:Mg (Le κ) T out.toList (x.toList.drop i) (y.toList.drop j))(hl:∀l,l<y.size->κ.kle (fy l) (fx (x.size-1)))(hi:i+1=x.size):Mz κ T (out++y.extract j y.size++x.extract i x.size):=by
 have:=h.done' (λu hu v hv=>by
  obtain⟨m,hm,hjm,rfl⟩:=lv hu;obtain⟨l,hl',hjl,rfl⟩:=lv hv;have:l=x.size-1:=by ac_nf
  exact⟨_,_,gy _ hm,gx _ hl',by rw[this];exact hl m hm⟩)
 unfold Mz;rw[dM,dM,qd,qd,aI];exact this
end
end Tim
namespace Tim
open PySem PyProof.Rows
def mLo:Array bf->Array bf->StateT b7 Sem (Array bf):=sortPriv%PySem.Builtin.mergeLo
def Sm(st st':b7):Prop:=kindOf st'=kindOf st/\aQ st'=aQ st/\cN st'=cN st/\iL st'=iL st
section
variable{prog:aG}{w:aX}{A:Around}{E:ae->ag->Prop}{s:ag}{κ:aP}
theorem fP{st:b7}{x:Array bf}{i:Nat}(hi:i<x.size){Q:bf->b7->Prop}(h:Q x[i] st):wpS (aK prog w) A E s (elem' x i) Q st:=nB (by simp[hi]) h
theorem rM{k a:κ.α}(h:lH κ false k a=true):κ.kle a k:=by
 have:(!κ.blt k a)=true:=h;show κ.blt k a=false;simpa using this
theorem xQ{k a:κ.α}(h:lH κ false k a=false):κ.blt k a=true:=by
 have:(!κ.blt k a)=false:=h;simpa using this
theorem xP{k a:κ.α}(h:lH κ true k a=true):κ.blt a k=true:=h
theorem rL{k a:κ.α}(h:lH κ true k a=false):κ.kle k a:=h
theorem cJ{β:Type}{c:Prop}[Decidable c]{x y:StateT b7 Sem β}{st:b7}{Q:β->b7->Prop}(h:c)(q:wpS (aK prog w) A E s x Q st):wpS (aK prog w) A E s (if c then x else y) Q st:=by rw[if_pos h];exact q
theorem cB{β:Type}{c:Prop}[Decidable c]{x y:StateT b7 Sem β}{st:b7}{Q:β->b7->Prop}(h:¬c)(q:wpS (aK prog w) A E s y Q st):wpS (aK prog w) A E s (if c then x else y) Q st:=by rw[if_neg h];exact q
theorem N2{α:Type}{T:α->Prop}{g:Prop}(main:(∀m,T m)->g)(tail:∀m,T m):g:=main tail
theorem zt{α β:Type}(C:α->β->Prop){T:α->β->Prop}{g:Prop}(main:(∀a b,C a b->T a b)->g)(tail:∀a b,C a b->T a b):g:=main tail
theorem EO{a b:Array bf}{st:b7}{Q:Array bf->b7->Prop}{fa fb:Nat->κ.α}(hO:κ.OneLt)(hk:kindOf st=gL)(ha:0<a.size)(hb:0<b.size)
  (ga:Kz κ a fa) (gb:Kz κ b fb) (ma:∀i j,i<=j->j<a.size->κ.kle (fa i) (fa j)) (mb:∀i j,i<=j->j<b.size->κ.kle (fb i) (fb j))
  (h0:κ.kle (fb 0) (fa 0)) (hl:∀i,i<b.size->κ.blt (fb i) (fa (a.size-1))=true)
  (h:∀r st',Sm st st'->Mz κ (a.toList++b.toList) r->Q r st'):wpS (aK prog w) A E s (mLo a b) Q st:=by
 unfold mLo;refine aD (wpS_lift (eP ⟨rfl,?_⟩));refine aD (fP hb ?_);have hl':∀i,i<b.size->κ.kle (fb i) (fa (a.size-1)):=λi hi=>aR (hl i hi);have hM:Mg (Le κ) (a.toList++b.toList) (#[b[0]]:Array bf).toList (a.toList.drop 0) (b.toList.drop 1):=by
  have g:Mg (Le κ) (a.toList++b.toList) (#[]:Array bf).toList (a.toList.drop 0) (b.toList.drop 0):=by
   refine⟨by simp,?_,?_⟩
   ·show(a.toList).Pairwise _;rw[bd];intro i j hi hj hij;simp only[aE]at hi hj;exact⟨fa i,fa j,by simpa using ga i hi,by simpa using ga j hj,ma i j (by ac_nf) hj⟩
   ·show(b.toList).Pairwise _;rw[bd];intro i j hi hj hij;simp only[aE]at hi hj;exact⟨fb i,fb j,by simpa using gb i hi,by simpa using gb j hj,mb i j (by ac_nf) hj⟩
  exact(Mg.put gb ga ma g.swap hb (λ_=>h0)).swap
 dsimp-zeta only;by_cases h1:1=b.size
 ·refine cJ (by simpa using h1) ?_;exact aL (h _ _ ⟨rfl,rfl,rfl,rfl⟩ (hM.fin h1))
 refine cB (by simpa using h1) ?_;by_cases h2:0+1=a.size
 ·refine cJ (by simpa using h2) ?_;exact aL (h _ _ ⟨rfl,rfl,rfl,rfl⟩ (hM.last ga gb hl' h2))
 refine cB (by simpa using h2) ?_;refine aD (wpS_get ?_);generalize hT:a.toList++b.toList=T at hM h
 -- where a merge stands between its turns
 let Iv:Array bf->Nat->Nat->Prop:=λout ia ib=>Mg (Le κ) T out.toList (a.toList.drop ia) (b.toList.drop ib)/\ia+1<a.size/\ib<b.size;refine aD (fY (cO (I:=λx c st'=>Sm st st'/\∃out ia ib mg,c=(none,out,ia,ib,mg)/\Iv out ia ib/\x<=ia+ib)
  (Q:=λc st'=>Sm st st'/\∃r,c.1=some r/\Mz κ T r) ?step ?fin ⟨⟨rfl,rfl,rfl,rfl⟩,_,0,1,_,rfl,⟨hM,by ac_nf,by ac_nf⟩,by ac_nf⟩) ?post)
 case fin=>
  rintro c st' ⟨hS,out,ia,ib,mg,rfl,⟨hM,i1,i2⟩,hx⟩
  ac_nf
 case post=>
  rintro⟨r,c⟩ st' ⟨hS,r',rfl,hz⟩
  exact aL (h _ _ hS hz)
 case step=>
  rintro x c st1 _ hx ⟨hS,out,ia,ib,mg,rfl,hI,hp⟩
  dsimp-zeta only
  refine aD (fY (cO (I:=λ_ c st'=>Sm st st'/\∃out ia ib ac bc,c=(none,out,ia,ib,ac,bc)/\Iv out ia ib/\x<=ia+ib)
   (Q:=λc st'=>Sm st st'/\((∃r,c.1=some r/\Mz κ T r)\/∃out ia ib ac bc,c=(none,out,ia,ib,ac,bc)/\Iv out ia ib/\x<=ia+ib)) ?s1 ?f1 ⟨hS,out,ia,ib,0,0,rfl,hI,hp⟩) ?p1)
  case f1=>
   rintro c st' ⟨hS,hh⟩
   exact⟨hS,.inr hh⟩
  case s1=>
   rintro y c st2 _ hy ⟨hS,out,ia,ib,ac,bc,rfl,⟨hM,i1,i2⟩,hp⟩
   dsimp-zeta only
   refine aD (fP i2 ?_)
   refine aD (fP (x:=a) (i:=ia) (by ac_nf) ?_)
   refine aD (tT hO (hS.1.trans hk) (gb ib i2) (ga ia (by ac_nf)) ?_)
   cases hw:κ.blt (fb ib) (fa ia)with
   |true=>
    dsimp-zeta only
    refine cJ rfl ?_
    refine aD (fP i2 ?_)
    have hM':=(Mg.put gb ga ma hM.swap i2 (λ_=>aR hw)).swap
    by_cases e:ib+1=b.size
    ·refine cJ (by simpa using e) ?_
     exact aL ⟨hS,.inl ⟨_,rfl,hM'.fin e⟩⟩
    refine cB (by simpa using e) ?_
    by_cases e2:bc+1≥mg
    ·refine cJ e2 ?_
     exact aL ⟨hS,.inr ⟨_,_,_,_,_,rfl,⟨hM',i1,by ac_nf⟩,by ac_nf⟩⟩
    ·refine cB e2 ?_
     exact aL ⟨hS,_,_,_,_,_,rfl,⟨hM',i1,by ac_nf⟩,by ac_nf⟩
   |false=>
    dsimp-zeta only
    refine cB (by decide) ?_
    refine aD (fP (x:=a) (i:=ia) (by ac_nf) ?_)
    have hM':=Mg.put ga gb mb hM (by ac_nf) (λ_=>hw)
    by_cases e:ia+1+1=a.size
    ·refine cJ (by simpa using e) ?_
     exact aL ⟨hS,.inl ⟨_,rfl,hM'.last ga gb hl' e⟩⟩
    refine cB (by simpa using e) ?_
    by_cases e2:ac+1≥mg
    ·refine cJ e2 ?_
     exact aL ⟨hS,.inr ⟨_,_,_,_,_,rfl,⟨hM',by ac_nf,i2⟩,by ac_nf⟩⟩
    ·refine cB e2 ?_
     exact aL ⟨hS,_,_,_,_,_,rfl,⟨hM',by ac_nf,i2⟩,by ac_nf⟩
  case p1=>
   rintro c st2 ⟨hS,⟨r,hr,hz⟩|⟨out,ia,ib,ac,bc,rfl,hI,hp⟩⟩
   ·obtain⟨r',c⟩:=c
    cases hr
    exact aL ⟨hS,r,rfl,hz⟩
   dsimp-zeta only
   refine aD (wpS_lift (eP ⟨rfl,?_⟩))
   refine aD (fY (cO (I:=λy c st'=>Sm st st'/\∃out ia ib mg ac bc,c=(none,out,ia,ib,mg,ac,bc)/\Iv out ia ib/\x+y<=ia+ib)
    (Q:=λc st'=>Sm st st'/\((∃r,c.1=some r/\Mz κ T r)\/∃out ia ib mg ac bc,c=(none,out,ia,ib,mg,ac,bc)/\Iv out ia ib/\x+1<=ia+ib)) ?s2 ?f2 ⟨hS,out,ia,ib,mg+1,ac,bc,rfl,hI,hp⟩) ?p2)
   case f2=>
    rintro c st' ⟨hS,out,ia,ib,mg,ac,bc,rfl,hI,hp⟩
    exact⟨hS,.inr ⟨_,_,_,_,_,_,rfl,hI,by ac_nf⟩⟩
   case p2=>
    rintro c st' ⟨hS,⟨r,hr,hz⟩|⟨out,ia,ib,mg,ac,bc,rfl,hI,hp⟩⟩
    ·obtain⟨r',c⟩:=c
     cases hr
     exact aL ⟨hS,r,rfl,hz⟩
    ·dsimp-zeta only
     refine aD (il ?_)
     exact aL ⟨hS,_,_,_,_,rfl,hI,hp⟩
   case s2=>
    rintro y c st3 _ hy ⟨hS,out,ia,ib,mg,ac,bc,rfl,⟨hM,i1,i2⟩,hp⟩
    dsimp-zeta only
    apply N2 (α:=Nat)
    case main=>
     intro go
     by_cases eg:mg>1
     case neg=>
      refine cB eg ?_
      obtain⟨m0,hm0⟩:∃m0,m0=mg:=⟨_,rfl⟩
      rw[<-hm0]
      exact go m0
     case pos=>refine cJ eg ?_;exact go (mg-1)
    clear mg
    intro mg
    dsimp-zeta only
    refine aD (il ?_)
    refine aD (fP i2 ?_)
    refine aD (lM hO (f:=λi=>fa (ia+i)) (by ac_nf) (hS.1.trans hk) (gb ib i2) (λi hi=>⟨a[ia+i]'(by ac_nf),by simp,ga _ (by ac_nf)⟩) (λi j hij hj=>ma _ _ (by ac_nf) (by ac_nf)) (λk hkn pre post=> ?_))
    have hkl:k<a.size-ia:=by
     rcases ig k (a.size-ia)with hh|hh
     ·exact hh
     ·have h3:=rM (pre (a.size-1-ia) (by ac_nf));rw[show ia+(a.size-1-ia)=a.size-1 by ac_nf]at h3;have h4:=hl ib i2;have h5:κ.blt (fb ib) (fa (a.size-1))=false:=h3;rw[h5]at h4;cases h4
    have hle:κ.kle (fb ib) (fa (ia+k)):=aR (xQ (post k (ap _) hkl))
    have hM1:=Mg.run (k:=k) ga gb mb hM (by ac_nf) (λ_ l hlk=>rM (pre l hlk))
    dsimp-zeta only
    apply zt (fun(out:Array bf) (ia:Nat)=>Mg (Le κ) T out.toList (a.toList.drop ia) (b.toList.drop ib)/\κ.kle (fb ib) (fa ia)/\x+y<=ia+ib/\ia+1<a.size)
    case main=>
     intro go
     by_cases ek:k>0
     case neg=>
      refine cB ek ?_
      have hk0:k=0:=by clear go;ac_nf
      have hle':κ.kle (fb ib) (fa ia):=by rw[hk0,Nat.add_zero]at hle;exact hle
      obtain⟨o1,ho1⟩:∃o1,o1=out:=⟨_,rfl⟩
      obtain⟨x1,hx1⟩:∃x1,x1=ia:=⟨_,rfl⟩
      rw[<-ho1,<-hx1]
      exact go o1 x1 (by rw[ho1,hx1];exact⟨hM,hle',hp,i1⟩)
     case pos=>
      refine cJ ek ?_
      by_cases e:ia+k+1=a.size
      ·refine cJ (by simpa using e) ?_
       exact aL ⟨hS,.inl ⟨_,rfl,hM1.last ga gb hl' e⟩⟩
      refine cB (by simpa using e) ?_
      refine cB (by simp;clear go;ac_nf) ?_
      exact go _ _ ⟨hM1,hle,by clear go;ac_nf,by clear go;ac_nf⟩
    clear hle hM1 hM hp i1 hkl
    rintro out1 ia1 ⟨hM1,hle,hp1,i11⟩
    dsimp-zeta only
    refine aD (fP i2 ?_)
    have hM2:=(Mg.put gb ga ma hM1.swap i2 (λ_=>hle)).swap
    by_cases e:ib+1=b.size
    ·refine cJ (by simpa using e) ?_
     exact aL ⟨hS,.inl ⟨_,rfl,hM2.fin e⟩⟩
    refine cB (by simpa using e) ?_
    refine aD (fP (x:=a) (by ac_nf) ?_)
    refine aD (lM hO (f:=λi=>fb (ib+1+i)) (by ac_nf) (hS.1.trans hk) (ga ia1 (by ac_nf)) (λi hi=>⟨b[ib+1+i]'(by ac_nf),by simp,gb _ (by ac_nf)⟩) (λi j hij hj=>mb _ _ (by ac_nf) (by ac_nf)) (λk2 hkn2 pre2 post2=> ?_))
    have hM3:=(Mg.run (k:=k2) gb ga ma hM2.swap (by ac_nf) (λ_ l hlk=>aR (xP (pre2 l hlk)))).swap
    have hle2:ib+1+k2<b.size->κ.kle (fa ia1) (fb (ib+1+k2)):=λhh=>rL (post2 k2 (ap _) (by ac_nf))
    dsimp-zeta only
    have EG:ib+1<b.size:=by ac_nf
    generalize hib:ib+1=ib1 at hM2 hM3 hle2 EG⊢
    have hx1:x+y+1<=ia1+ib1:=by ac_nf
    generalize out1.push b[ib]=out2 at hM2 hM3⊢
    apply zt (fun(out3:Array bf) (ib2:Nat)=>Mg (Le κ) T out3.toList (a.toList.drop ia1) (b.toList.drop ib2)/\κ.kle (fa ia1) (fb ib2)/\x+y+1<=ia1+ib2/\ib2<b.size)
    case main=>
     intro go
     by_cases ek2:k2>0
     case neg=>
      refine cB ek2 ?_
      have hk0:k2=0:=by clear go;ac_nf
      have hle':κ.kle (fa ia1) (fb ib1):=by rw[hk0,Nat.add_zero]at hle2;exact hle2 EG
      obtain⟨o1,ho1⟩:∃o1,o1=out2:=⟨_,rfl⟩
      obtain⟨y1,hy1⟩:∃y1,y1=ib1:=⟨_,rfl⟩
      rw[<-ho1,<-hy1]
      exact go o1 y1 (by rw[ho1,hy1];exact⟨hM2,hle',hx1,EG⟩)
     case pos=>
      refine cJ ek2 ?_
      by_cases e2:ib1+k2=b.size
      ·refine cJ (by simpa using e2) ?_
       exact aL ⟨hS,.inl ⟨_,rfl,hM3.fin e2⟩⟩
      refine cB (by simpa using e2) ?_
      exact go _ _ ⟨hM3,hle2 (by clear go;ac_nf),by clear go;ac_nf,by clear go;ac_nf⟩
    clear hle2 hM3 hM2
    rintro out3 ib2 ⟨hM3,hle2,hx2,i22⟩
    dsimp-zeta only
    refine aD (fP (x:=a) (by ac_nf) ?_)
    have hM4:=Mg.put ga gb mb hM3 (by ac_nf) (λ_=>hle2)
    by_cases e3:ia1+1+1=a.size
    ·refine cJ (by simpa using e3) ?_
     exact aL ⟨hS,.inl ⟨_,rfl,hM4.last ga gb hl' e3⟩⟩
    refine cB (by simpa using e3) ?_
    split
    ·exact aL ⟨hS,.inr ⟨_,_,_,_,_,_,rfl,⟨hM4,by ac_nf,i22⟩,by ac_nf⟩⟩
    ·exact aL ⟨hS,_,_,_,_,_,_,rfl,⟨hM4,by ac_nf,i22⟩,by ac_nf⟩
end
end Tim
namespace Tim
open PySem PyProof.Rows
def Ge(κ:aP)(x y:bf):Prop:=Le κ y x
section
variable{κ:aP}{T:List bf}{out x y:Array bf}{fx fy:Nat->κ.α}{i j m n:Nat}
theorem lr{z:bf}(h:z∈(x.toList.take n).reverse):∃l,∃(hl:l<x.size),l<n/\z=x[l]:=by
 obtain⟨l,hl,rfl⟩:=bK.1 (List.mem_reverse.1 h);simp only[aO,aE]at hl;exact⟨l,by ac_nf,by ac_nf,by simp⟩
theorem Db{z:bf}(hn:n<=x.size)(h:z∈((x.extract m n).reverse).toList):∃l,∃(hl:l<x.size),m<=l/\l<n/\z=x[l]:=by
 rw[Array.toList_reverse]at h;obtain⟨l,hl,rfl⟩:=bK.1 (List.mem_reverse.1 h);simp only[aE,Array.size_extract]at hl;exact⟨m+l,by ac_nf,by ac_nf,by ac_nf,by simp⟩
theorem Bi(hm:m<=n):(x.toList.take n).reverse=((x.extract m n).reverse).toList++(x.toList.take m).reverse:=by
 rw[Array.toList_reverse,<-oA,jn,ii];congr 1;rw[List.take_drop,show m+(n-m)=n by ac_nf];conv=>lhs;rw[<-bg m (List.take n x.toList),List.take_take,Nat.min_eq_left hm]
theorem Bh(h0:0<n)(hn:n<=x.size):(x.toList.take n).reverse=x[n-1]::(x.toList.take (n-1)).reverse:=by
 obtain⟨k,rfl⟩:∃k,n=k+1:=⟨n-1,by ac_nf⟩;rw[cK,oA];simp[show k<x.size by ac_nf]
theorem Mg.runH(gx:Kz κ x fx)(gy:Kz κ y fy)(my:∀i j,i<=j->j<y.size->κ.kle (fy i) (fy j))(h:Mg (Ge κ) T out.toList (x.toList.take n).reverse (y.toList.take j).reverse)(hm:m<=n)(hn:n<=x.size)(hj:j<=y.size)
  (hp:0<j->∀l,m<=l->l<n->κ.kle (fy (j-1)) (fx l)):Mg (Ge κ) T (out++(x.extract m n).reverse).toList (x.toList.take m).reverse (y.toList.take j).reverse:=by
 rw[Bi hm]at h;rw[dM];refine h.moveA λu hu v hv=> ?_;obtain⟨l,hl,hml,hlk,rfl⟩:=Db hn hu;obtain⟨q,hq,hqj,rfl⟩:=lr hv;exact⟨_,_,gy _ hq,gx _ hl,aS (my q (j-1) (by ac_nf) (by ac_nf)) (hp (by ac_nf) l hml hlk)⟩
theorem Mg.putH(gx:Kz κ x fx)(gy:Kz κ y fy)(my:∀i j,i<=j->j<y.size->κ.kle (fy i) (fy j))(h:Mg (Ge κ) T out.toList (x.toList.take n).reverse (y.toList.take j).reverse)(h0:0<n)(hn:n<=x.size)(hj:j<=y.size)
  (hp:0<j->κ.kle (fy (j-1)) (fx (n-1))):Mg (Ge κ) T (out.push x[n-1]).toList (x.toList.take (n-1)).reverse (y.toList.take j).reverse:=by
 rw[Bh h0 hn]at h;rw[iP];refine Mg.moveA (p:=[x[n-1]]) h λu hu v hv=> ?_;obtain rfl:=ar.1 hu;obtain⟨q,hq,hqj,rfl⟩:=lr hv;exact⟨_,_,gy _ hq,gx _ (by ac_nf),aS (my q (j-1) (by ac_nf) (by ac_nf)) (hp (by ac_nf))⟩
theorem EA{l:List bf}(h:l.Perm T/\l.Pairwise (Ge κ)){r:Array bf}(e:r.toList=l.reverse):Mz κ T r:=
 ⟨by rw[e];exact l.reverse_perm.trans h.1,by rw[e,mG];exact h.2⟩
theorem Mg.finH(h:Mg (Ge κ) T out.toList (x.toList.take n).reverse (y.toList.take j).reverse)(hn:n=0):Mz κ T (x.extract 0 n++y.extract 0 j++out.reverse):=by
 refine EA (h.done' λu hu v hv=> ?_) ?_
 ·obtain⟨q,hq,hqj,rfl⟩:=lr hv;ac_nf
 ·simp
theorem Mg.firstH(gx:Kz κ x fx)(gy:Kz κ y fy)(h:Mg (Ge κ) T out.toList (x.toList.take n).reverse (y.toList.take j).reverse)(hl:∀l,l<x.size->κ.kle (fy 0) (fx l))(hj:j=1):Mz κ T (y.extract 0 j++x.extract 0 n++out.reverse):=by
 refine EA (h.done λu hu v hv=> ?_) ?_
 ·obtain⟨q,hq,hqj,rfl⟩:=lr hv;obtain⟨l,hl',hln,rfl⟩:=lr hu;have:q=0:=by ac_nf
  exact⟨_,_,gy _ hq,gx _ hl',by rw[this];exact hl l hl'⟩
 ·simp
end
end Tim
namespace Tim
open PySem PyProof.Rows
def mHi:Array bf->Array bf->StateT b7 Sem (Array bf):=sortPriv%PySem.Builtin.mergeHi
section
variable{prog:aG}{w:aX}{A:Around}{E:ae->ag->Prop}{s:ag}{κ:aP}
theorem EQ{a b:Array bf}{st:b7}{Q:Array bf->b7->Prop}{fa fb:Nat->κ.α}(hO:κ.OneLt)(hk:kindOf st=gL)(ha:0<a.size)(hb:0<b.size)
  (ga:Kz κ a fa) (gb:Kz κ b fb) (ma:∀i j,i<=j->j<a.size->κ.kle (fa i) (fa j)) (mb:∀i j,i<=j->j<b.size->κ.kle (fb i) (fb j))
  (h0:κ.blt (fb 0) (fa 0)=true) (hl:∀i,i<b.size->κ.kle (fb i) (fa (a.size-1)))
  (h:∀r st',Sm st st'->Mz κ (a.toList++b.toList) r->Q r st'):wpS (aK prog w) A E s (mHi a b) Q st:=by
 unfold mHi;refine aD (wpS_lift (eP ⟨rfl,?_⟩));refine aD (fP (x:=a) (i:=a.size-1) (by ac_nf) ?_);have hl':∀l,l<a.size->κ.kle (fb 0) (fa l):=λl hl=>aS (aR h0) (ma 0 l (by ac_nf) hl);have hM:Mg (Ge κ) (a.toList++b.toList) (#[a[a.size-1]]:Array bf).toList (a.toList.take (a.size-1)).reverse (b.toList.take b.size).reverse:=by
  have g:Mg (Ge κ) (a.toList++b.toList) (#[]:Array bf).toList (a.toList.take a.size).reverse (b.toList.take b.size).reverse:=by
   have ea:a.toList.take a.size=a.toList:=cE (by simp);have eb:b.toList.take b.size=b.toList:=cE (by simp);rw[ea,eb];refine⟨?_,?_,?_⟩
   ·show(a.toList.reverse++b.toList.reverse).Perm _;exact(List.Perm.append (List.reverse_perm _) (List.reverse_perm _))
   ·show(a.toList.reverse).Pairwise _;rw[mG,bd];intro i j hi hj hij;simp only[aE]at hi hj;exact⟨fa i,fa j,by simpa using ga i hi,by simpa using ga j hj,ma i j (by ac_nf) hj⟩
   ·show(b.toList.reverse).Pairwise _;rw[mG,bd];intro i j hi hj hij;simp only[aE]at hi hj;exact⟨fb i,fb j,by simpa using gb i hi,by simpa using gb j hj,mb i j (by ac_nf) hj⟩
  exact Mg.putH ga gb mb g ha (ap _) (ap _) (λ_=>hl _ (by ac_nf))
 dsimp-zeta only;by_cases h1:a.size-1=0
 ·refine cJ (by simpa using h1) ?_;exact aL (h _ _ ⟨rfl,rfl,rfl,rfl⟩ (hM.finH h1))
 refine cB (by simpa using h1) ?_;by_cases h2:b.size=1
 ·refine cJ (by simpa using h2) ?_;exact aL (h _ _ ⟨rfl,rfl,rfl,rfl⟩ (hM.firstH ga gb hl' h2))
 refine cB (by simpa using h2) ?_;refine aD (wpS_get ?_);generalize hT:a.toList++b.toList=T at hM h
 -- where a merge stands between its turns
 let Iv:Array bf->Nat->Nat->Prop:=λout na nb=>Mg (Ge κ) T out.toList (a.toList.take na).reverse (b.toList.take nb).reverse/\0<na/\na<=a.size/\1<nb/\nb<=b.size;refine aD (fY (cO (I:=λx c st'=>Sm st st'/\∃na nb out mg,c=(none,na,nb,out,mg)/\Iv out na nb/\na+nb+x<=a.size+b.size)
  (Q:=λc st'=>Sm st st'/\∃r,c.1=some r/\Mz κ T r) ?step ?fin ⟨⟨rfl,rfl,rfl,rfl⟩,_,_,_,_,rfl,⟨hM,by ac_nf,by ac_nf,by ac_nf,by ac_nf⟩,by ac_nf⟩) ?post)
 case fin=>
  rintro c st' ⟨hS,na,nb,out,mg,rfl,⟨hM,i1,i2⟩,hx⟩
  ac_nf
 case post=>
  rintro⟨r,c⟩ st' ⟨hS,r',rfl,hz⟩
  exact aL (h _ _ hS hz)
 case step=>
  rintro x c st1 _ hx ⟨hS,na,nb,out,mg,rfl,hI,hp⟩
  dsimp-zeta only
  refine aD (fY (cO (I:=λ_ c st'=>Sm st st'/\∃na nb out ac bc,c=(none,na,nb,out,ac,bc)/\Iv out na nb/\na+nb+x<=a.size+b.size)
   (Q:=λc st'=>Sm st st'/\((∃r,c.1=some r/\Mz κ T r)\/∃na nb out ac bc,c=(none,na,nb,out,ac,bc)/\Iv out na nb/\na+nb+x<=a.size+b.size)) ?s1 ?f1 ⟨hS,na,nb,out,0,0,rfl,hI,hp⟩) ?p1)
  case f1=>
   rintro c st' ⟨hS,hh⟩
   exact⟨hS,.inr hh⟩
  case s1=>
   rintro y c st2 _ hy ⟨hS,na,nb,out,ac,bc,rfl,⟨hM,i1,i2,i3,i4⟩,hp⟩
   dsimp-zeta only
   refine aD (fP (x:=b) (i:=nb-1) (by ac_nf) ?_)
   refine aD (fP (x:=a) (i:=na-1) (by ac_nf) ?_)
   refine aD (tT hO (hS.1.trans hk) (gb (nb-1) (by ac_nf)) (ga (na-1) (by ac_nf)) ?_)
   cases hw:κ.blt (fb (nb-1)) (fa (na-1))with
   |true=>
    dsimp-zeta only
    refine cJ rfl ?_
    refine aD (fP (x:=a) (i:=na-1) (by ac_nf) ?_)
    have hM':=Mg.putH ga gb mb hM i1 i2 i4 (λ_=>aR hw)
    by_cases e:na-1=0
    ·refine cJ (by simpa using e) ?_
     exact aL ⟨hS,.inl ⟨_,rfl,hM'.finH e⟩⟩
    refine cB (by simpa using e) ?_
    by_cases e2:ac+1≥mg
    ·refine cJ e2 ?_
     exact aL ⟨hS,.inr ⟨_,_,_,_,_,rfl,⟨hM',by ac_nf,by ac_nf,i3,i4⟩,by ac_nf⟩⟩
    ·refine cB e2 ?_
     exact aL ⟨hS,_,_,_,_,_,rfl,⟨hM',by ac_nf,by ac_nf,i3,i4⟩,by ac_nf⟩
   |false=>
    dsimp-zeta only
    refine cB (by decide) ?_
    refine aD (fP (x:=b) (i:=nb-1) (by ac_nf) ?_)
    have hM':=(Mg.putH gb ga ma hM.swap (by ac_nf) i4 i2 (λ_=>hw)).swap
    by_cases e:nb-1=1
    ·refine cJ (by simpa using e) ?_
     exact aL ⟨hS,.inl ⟨_,rfl,hM'.firstH ga gb hl' e⟩⟩
    refine cB (by simpa using e) ?_
    by_cases e2:bc+1≥mg
    ·refine cJ e2 ?_
     exact aL ⟨hS,.inr ⟨_,_,_,_,_,rfl,⟨hM',i1,i2,by ac_nf,by ac_nf⟩,by ac_nf⟩⟩
    ·refine cB e2 ?_
     exact aL ⟨hS,_,_,_,_,_,rfl,⟨hM',i1,i2,by ac_nf,by ac_nf⟩,by ac_nf⟩
  case p1=>
   rintro c st2 ⟨hS,⟨r,hr,hz⟩|⟨na,nb,out,ac,bc,rfl,hI,hp⟩⟩
   ·obtain⟨r',c⟩:=c
    cases hr
    exact aL ⟨hS,r,rfl,hz⟩
   dsimp-zeta only
   refine aD (wpS_lift (eP ⟨rfl,?_⟩))
   refine aD (fY (cO (I:=λy c st'=>Sm st st'/\∃na nb out mg ac bc,c=(none,na,nb,out,mg,ac,bc)/\Iv out na nb/\na+nb+x+y<=a.size+b.size)
    (Q:=λc st'=>Sm st st'/\((∃r,c.1=some r/\Mz κ T r)\/∃na nb out mg ac bc,c=(none,na,nb,out,mg,ac,bc)/\Iv out na nb/\na+nb+(x+1)<=a.size+b.size)) ?s2 ?f2 ⟨hS,na,nb,out,mg+1,ac,bc,rfl,hI,hp⟩) ?p2)
   case f2=>
    rintro c st' ⟨hS,na,nb,out,mg,ac,bc,rfl,hI,hp⟩
    exact⟨hS,.inr ⟨_,_,_,_,_,_,rfl,hI,by ac_nf⟩⟩
   case p2=>
    rintro c st' ⟨hS,⟨r,hr,hz⟩|⟨na,nb,out,mg,ac,bc,rfl,hI,hp⟩⟩
    ·obtain⟨r',c⟩:=c
     cases hr
     exact aL ⟨hS,r,rfl,hz⟩
    ·dsimp-zeta only
     refine aD (il ?_)
     exact aL ⟨hS,_,_,_,_,rfl,hI,hp⟩
   case s2=>
    rintro y c st3 _ hy ⟨hS,na,nb,out,mg,ac,bc,rfl,⟨hM,i1,i2,i3,i4⟩,hp⟩
    dsimp-zeta only
    apply N2 (α:=Nat)
    case main=>
     intro go
     by_cases eg:mg>1
     case neg=>
      refine cB eg ?_
      obtain⟨m0,hm0⟩:∃m0,m0=mg:=⟨_,rfl⟩
      rw[<-hm0]
      exact go m0
     case pos=>refine cJ eg ?_;exact go (mg-1)
    clear mg
    intro mg
    dsimp-zeta only
    refine aD (il ?_)
    refine aD (fP (x:=b) (i:=nb-1) (by ac_nf) ?_)
    refine aD (lM hO (f:=λi=>fa i) (by ac_nf) (hS.1.trans hk) (gb (nb-1) (by ac_nf)) (λi hi=>⟨a[i]'(by ac_nf),by simp,ga _ (by ac_nf)⟩) (λi j hij hj=>ma _ _ (by ac_nf) (by ac_nf)) (λk hkn pre post=> ?_))
    have hle:0<k->κ.kle (fa (k-1)) (fb (nb-1)):=λh0k=>rM (pre (k-1) (by ac_nf))
    have hM1:=Mg.runH (m:=k) ga gb mb hM hkn i2 i4 (λ_ l h1 h2=>aR (xQ (post l h1 h2)))
    dsimp-zeta only
    generalize hac:na-k=ac1
    apply zt (fun(out:Array bf) (n1:Nat)=>Mg (Ge κ) T out.toList (a.toList.take n1).reverse (b.toList.take nb).reverse/\κ.kle (fa (n1-1)) (fb (nb-1))/\0<n1/\n1<=a.size/\n1+nb+x+y<=a.size+b.size)
    case main=>
     intro go
     by_cases ek:ac1>0
     case neg=>
      refine cB ek ?_
      have hk0:k=na:=by clear go;ac_nf
      have hle':κ.kle (fa (na-1)) (fb (nb-1)):=by rw[hk0]at hle;exact hle i1
      obtain⟨o1,ho1⟩:∃o1,o1=out:=⟨_,rfl⟩
      obtain⟨x1,hx1⟩:∃x1,x1=na:=⟨_,rfl⟩
      rw[<-ho1,<-hx1]
      exact go o1 x1 (by rw[ho1,hx1];exact⟨hM,hle',i1,i2,by clear go;ac_nf⟩)
     case pos=>
      refine cJ ek ?_
      by_cases e:k=0
      ·refine cJ (by simpa using e) ?_
       exact aL ⟨hS,.inl ⟨_,rfl,hM1.finH e⟩⟩
      refine cB (by simpa using e) ?_
      exact go _ _ ⟨hM1,hle (by clear go;ac_nf),by clear go;ac_nf,by clear go;ac_nf,by clear go;ac_nf⟩
    clear hle hM1 hM hp i1 i2 hkn hac
    rintro out1 n1 ⟨hM1,hle,i11,i12,hp1⟩
    dsimp-zeta only
    refine aD (fP (x:=b) (i:=nb-1) (by ac_nf) ?_)
    have hM2:=(Mg.putH gb ga ma hM1.swap (by ac_nf) i4 i12 (λ_=>hle)).swap
    by_cases e:nb-1=1
    ·refine cJ (by simpa using e) ?_
     exact aL ⟨hS,.inl ⟨_,rfl,hM2.firstH ga gb hl' e⟩⟩
    refine cB (by simpa using e) ?_
    refine aD (fP (x:=a) (i:=n1-1) (by ac_nf) ?_)
    refine aD (lM hO (f:=λi=>fb i) (by ac_nf) (hS.1.trans hk) (ga (n1-1) (by ac_nf)) (λi hi=>⟨b[i]'(by ac_nf),by simp,gb _ (by ac_nf)⟩) (λi j hij hj=>mb _ _ (by ac_nf) (by ac_nf)) (λk2 hkn2 pre2 post2=> ?_))
    have hk20:0<k2:=by
     rcases Nat.eq_zero_or_pos k2 with hh|hh
     ·subst hh;have h3:κ.kle (fa (n1-1)) (fb 0):=rL (post2 0 (ap _) (by ac_nf));have h5:κ.blt (fb 0) (fa 0)=false:=aS (ma 0 (n1-1) (by ac_nf) (by ac_nf)) h3;rw[h5]at h0;cases h0
     ·exact hh
    have hM3:=(Mg.runH (m:=k2) gb ga ma hM2.swap hkn2 (by ac_nf) i12 (λ_ l h1 h2=>rL (post2 l h1 h2))).swap
    have hle2:κ.kle (fb (k2-1)) (fa (n1-1)):=aR (xP (pre2 (k2-1) (by ac_nf)))
    have i21:1<nb-1:=by ac_nf
    have i24:nb-1<=b.size:=by ac_nf
    have hp2:n1+(nb-1)+x+y+1<=a.size+b.size:=by ac_nf
    have hk21:k2<=nb-1:=hkn2
    generalize Array.push _ _=out2 at hM2 hM3⊢
    generalize hn1:nb-1=nb1 at hM2 hM3 i21 i24 hp2 hk21⊢
    dsimp-zeta only
    generalize hbc:nb1-k2=bc1
    apply zt (fun(out3:Array bf) (n3:Nat)=>Mg (Ge κ) T out3.toList (a.toList.take n1).reverse (b.toList.take n3).reverse/\κ.kle (fb (n3-1)) (fa (n1-1))/\1<n3/\n3<=b.size/\n1+n3+x+y+1<=a.size+b.size)
    case main=>
     intro go
     by_cases ek2:bc1>0
     case neg=>
      refine cB ek2 ?_
      have hk0:k2=nb1:=by clear go;ac_nf
      have hle':κ.kle (fb (nb1-1)) (fa (n1-1)):=by rw[<-hk0];exact hle2
      obtain⟨o1,ho1⟩:∃o1,o1=out2:=⟨_,rfl⟩
      obtain⟨y1,hy1⟩:∃y1,y1=nb1:=⟨_,rfl⟩
      rw[<-ho1,<-hy1]
      exact go o1 y1 (by rw[ho1,hy1];exact⟨hM2,hle',i21,i24,hp2⟩)
     case pos=>
      refine cJ ek2 ?_
      by_cases e2:k2=1
      ·refine cJ (by simpa using e2) ?_
       exact aL ⟨hS,.inl ⟨_,rfl,hM3.firstH ga gb hl' e2⟩⟩
      refine cB (by simpa using e2) ?_
      refine cB (by simp;clear go;ac_nf) ?_
      exact go _ _ ⟨hM3,hle2,by clear go;ac_nf,by clear go;ac_nf,by clear go;ac_nf⟩
    clear hle2 hM3 hM2
    rintro out3 n3 ⟨hM3,hle2,i22,i23,hp3⟩
    dsimp-zeta only
    refine aD (fP (x:=a) (i:=n1-1) (by ac_nf) ?_)
    have hM4:=Mg.putH ga gb mb hM3 i11 i12 i23 (λ_=>hle2)
    by_cases e3:n1-1=0
    ·refine cJ (by simpa using e3) ?_
     exact aL ⟨hS,.inl ⟨_,rfl,hM4.finH e3⟩⟩
    refine cB (by simpa using e3) ?_
    split
    ·exact aL ⟨hS,.inr ⟨_,_,_,_,_,_,rfl,⟨hM4,by ac_nf,by ac_nf,i22,i23⟩,by ac_nf⟩⟩
    ·exact aL ⟨hS,_,_,_,_,_,_,rfl,⟨hM4,by ac_nf,by ac_nf,i22,i23⟩,by ac_nf⟩
end
end Tim
namespace Tim
open PySem PyProof.Rows
section
variable{prog:aG}{w:aX}{A:Around}{E:ae->ag->Prop}{s:ag}{κ:aP}
theorem Ie{X1 X2 Y1 Y2 r:List bf}(hX:(X1++X2).Pairwise (Le κ))(hY:(Y1++Y2).Pairwise (Le κ))(hr:r.Perm (X2++Y1))(hrp:r.Pairwise (Le κ))(h1:∀x∈X1,∀y∈Y1++Y2,Le κ x y)
  (h2:∀x∈X2,∀y∈Y2,Le κ x y):(X1++(r++Y2)).Pairwise (Le κ)/\(X1++(r++Y2)).Perm ((X1++X2)++(Y1++Y2)):=by
 rw[cP]at hX hY;refine⟨?_,?_⟩
 ·rw[cP,cP];refine⟨hX.1,⟨hrp,hY.2.1,λx hx y hy=> ?_⟩,λx hx y hy=> ?_⟩
  ·rcases aH.1 (hr.mem_iff.1 hx)with hh|hh
   ·exact h2 x hh y hy
   ·exact hY.2.2 x hh y hy
  ·rcases aH.1 hy with hh|hh
   ·rcases aH.1 (hr.mem_iff.1 hh)with hh|hh
    ·exact hX.2.2 x hx y hh
    ·exact h1 x hx y (gP _ hh)
   ·exact h1 x hx y (a8 _ hh)
 ·rw[aI];refine kZ X1 ?_;rw[<-aI];exact hr.append_right Y2
theorem vG{sa:Nat}:∀(l:List bf) (n:Nat) (arr:Array bf) (P M R:List bf),P.length=sa+n->M.length=l.length->arr.toList=P++(M++R)->
  ((l.zipIdx n).foldl (λa (p:bf×Nat)=>a.setIfInBounds (sa+p.2) p.1) arr).toList=P++(l++R)
 |[],n,arr,P,M,R,hP,hM,e=>by
  obtain rfl:=fK.1 hM;simpa using e
 |x::l,n,arr,P,m::M,R,hP,hM,e=>by
  rw[List.zipIdx_cons,mj];have:=vG (sa:=sa) l (n+1) (arr.setIfInBounds (sa+n) x) (P++[x]) M R (by simp;ac_nf) (by simpa using hM) (by
   rw[uR,e,<-hP,List.set_append_right _ _ (ap _)];simp)
  rw[this];simp
theorem oh{l P X R:List bf}(e:l=P++(X++R)){i:Nat}(h:i<X.length):l[P.length+i]? =some X[i]:=by
 subst e;rw[cn (Nat.le_add_right _ _),show P.length+i-P.length=i by ac_nf,dW h,au h]
theorem LG{x y:bf}{a b:κ.α}(hx:jN κ x a)(hy:jN κ y b)(h:Le κ x y):κ.kle a b:=by
 obtain⟨a',b',h1,h2,h3⟩:=h;have e1:a'=a:=bt (h1.symm.trans hx);have e2:b'=b:=bt (h2.symm.trans hy);rwa [e1,e2]at h3
theorem i0{arr:Array bf}{i:Nat}{x:bf}(hK:KeysOf κ arr)(h:arr[i]? =some x):jN κ x (KK κ arr i):=by
 obtain⟨a,ha⟩:=hK x (cy (by simpa using h));unfold KK jN;rw[h];simp[ha]
theorem vq{arr:Array bf}{P X R:List bf}(hK:KeysOf κ arr)(e:arr.toList=P++(X++R))(hX:X.Pairwise (Le κ)){i j:Nat}(hij:i<=j)(hj:j<X.length):κ.kle (KK κ arr (P.length+i)) (KK κ arr (P.length+j)):=by
 rcases ig i j with h|h
 ·rw[bd]at hX;have gi:arr[P.length+i]? =some X[i]:=by rw[<-aZ];exact oh e (by ac_nf)
  have gj:arr[P.length+j]? =some X[j]:=by rw[<-aZ];exact oh e hj
  exact LG (i0 hK gi) (i0 hK gj) (hX i j _ _ h)
 ·obtain rfl:i=j:=by ac_nf
  exact bY _
theorem zq{arr:Array bf}{P M R:List bf}{a b:Nat}(e:arr.toList=P++(M++R))(ha:a=P.length)(hb:b=P.length+M.length):(arr.extract a b).toList=M:=by
 rw[jn,ii,e,ha,hb,List.drop_left,show P.length+M.length-P.length=M.length by ac_nf,nu]
theorem uP{arr:Array bf}{a b:Nat}(hK:KeysOf κ arr):Kz κ (arr.extract a b) (λj=>KK κ arr (a+j)):=λi hi=>by
 refine i0 hK ?_;rw[Array.getElem_extract];exact bG _
theorem ER{st:b7}{i pw pw2:Nat}{P X Y R:List bf}{Q:Bool->b7->Prop}(hO:κ.OneLt)(hk:kindOf st=gL)(hf:iL st=none)(hK:KeysOf κ (aQ st))(e:(aQ st).toList=P++(X++(Y++R)))
  (hX:X.Pairwise (Le κ)) (hY:Y.Pairwise (Le κ)) (x0:0<X.length) (y0:0<Y.length) (p1:(cN st)[i]? =some (P.length,X.length,pw)) (p2:(cN st)[i+1]? =some (P.length+X.length,Y.length,pw2))
  (h:∀st' Z,(aQ st').toList=P++(Z++R)->Z.Perm (X++Y)->Z.Pairwise (Le κ)->kindOf st'=gL->iL st'=none->cN st'=((cN st).setIfInBounds i (P.length,X.length+Y.length,pw)).eraseIdxIfInBounds (i+1)->Q true st'):
  wpS (aK prog w) A E s (mergeAt' i) Q st:=by
 unfold mergeAt';refine aD (wpS_get ?_);rw[p1,p2];dsimp only;refine aD (il ?_);have e2:(aQ st).toList=(P++X)++(Y++R):=by simpa using e
 have l2:(P++X).length=P.length+X.length:=by simp
 have gX:∀i (hi:i<X.length),(aQ st)[P.length+i]? =some X[i]:=λi hi=>by rw[<-aZ];exact oh e hi
 have gY:∀i (hi:i<Y.length),(aQ st)[P.length+X.length+i]? =some Y[i]:=λi hi=>by rw[<-aZ,<-l2];exact oh e2 hi
 have mX:∀{i j},i<=j->j<X.length->κ.kle (KK κ (aQ st) (P.length+i)) (KK κ (aQ st) (P.length+j)):=λh1 h2=>vq hK e hX h1 h2;have mY:∀{i j},i<=j->j<Y.length->κ.kle (KK κ (aQ st) (P.length+X.length+i)) (KK κ (aQ st) (P.length+X.length+j)):=λh1 h2=>by rw[<-l2];exact vq hK e2 hY h1 h2
 have hsz:(aQ st).size=P.length+X.length+Y.length+R.length:=by
  have:=congrArg cX e;simp at this;ac_nf
 refine aD (nB (gY 0 y0) ?_);refine aD (lM hO (f:=λj=>KK κ (aQ st) (P.length+j)) x0 hk (i0 hK (gY 0 y0)) (λi hi=>⟨X[i],gX i hi,i0 hK (gX i hi)⟩) (λi j h1 h2=>mX h1 h2) (λk hkn pre post=> ?_));dsimp only;by_cases ek:X.length-k=0
 ·rw[if_pos (by simpa using ek)];refine aL (h _ (X++Y) (by rw[aI];exact e) (List.Perm.refl _) ?_ hk hf rfl);rw[cP];refine⟨hX,hY,λx hx y hy=> ?_⟩;obtain⟨i,hi,rfl⟩:=bK.1 hx;obtain⟨j,hj,rfl⟩:=bK.1 hy;exact⟨_,_,i0 hK (gX i hi),i0 hK (gY j hj),aS (rM (pre i (by ac_nf))) (mY (c8 j) hj)⟩
 rw[if_neg (by simpa using ek)];rw[show P.length+k+(X.length-k)-1=P.length+(X.length-1)by ac_nf];refine aD (nB (gX (X.length-1) (by ac_nf)) ?_);refine aD (lM hO (f:=λj=>KK κ (aQ st) (P.length+X.length+j)) (by ac_nf) hk (i0 hK (gX (X.length-1) (by ac_nf))) (λi hi=>⟨Y[i],gY i hi,i0 hK (gY i hi)⟩) (λi j h1 h2=>mY h1 h2) (λk2 hkn2 pre2 post2=> ?_));dsimp only;have hs:κ.blt (KK κ (aQ st) (P.length+X.length+0)) (KK κ (aQ st) (P.length+k))=true:=xQ (post k (ap _) (by ac_nf));by_cases ek2:k2=0
 ·have h3:=rL (post2 0 (by ac_nf) y0);have h5:κ.blt (KK κ (aQ st) (P.length+X.length+0)) (KK κ (aQ st) (P.length+k))=false:=aS (mX (i:=k) (j:=X.length-1) (by ac_nf) (by ac_nf)) h3;rw[h5]at hs;cases hs
 rw[if_neg (by simpa using ek2)];have eX:(P++X.take k).length=P.length+k:=by simp;ac_nf
 have ex:((aQ st).extract (P.length+k) (P.length+X.length)).toList=X.drop k:=zq (P:=P++X.take k) (R:=Y++R) (by rw[aI,<-aI (X.take k),bg];exact e) eX.symm (by rw[eX];simp;ac_nf);have ey:((aQ st).extract (P.length+X.length) (P.length+X.length+k2)).toList=Y.take k2:=zq (P:=P++X) (R:=Y.drop k2++R) (by rw[<-aI (Y.take k2),bg];exact e2) l2.symm (by rw[l2];simp;ac_nf);have sx:((aQ st).extract (P.length+k) (P.length+X.length)).size=X.length-k:=by simp;ac_nf
 have sy:((aQ st).extract (P.length+X.length) (P.length+X.length+k2)).size=k2:=by simp;ac_nf
 have mgl:∀i,i<k2->κ.blt (KK κ (aQ st) (P.length+X.length+i)) (KK κ (aQ st) (P.length+k+(X.length-k-1)))=true:=λi hi=>by
  rw[show P.length+k+(X.length-k-1)=P.length+(X.length-1)by ac_nf];exact xP (pre2 i hi)
 have mgx:∀i j,i<=j->j<((aQ st).extract (P.length+k) (P.length+X.length)).size->κ.kle (KK κ (aQ st) (P.length+k+i)) (KK κ (aQ st) (P.length+k+j)):=λi j h1 h2=>by
  rw[kX,kX];exact mX (by ac_nf) (by ac_nf)
 have mgy:∀i j,i<=j->j<((aQ st).extract (P.length+X.length) (P.length+X.length+k2)).size->κ.kle (KK κ (aQ st) (P.length+X.length+i)) (KK κ (aQ st) (P.length+X.length+j)):=λi j h1 h2=>mY h1 (by ac_nf);have zz:∀r:Array bf,Mz κ (X.drop k++Y.take k2) r->(X.take k++(r.toList++Y.drop k2)).Pairwise (Le κ)/\(X.take k++(r.toList++Y.drop k2)).Perm (X++Y):=λr hz=>by
  have:=Ie (X1:=X.take k) (X2:=X.drop k) (Y1:=Y.take k2) (Y2:=Y.drop k2) (r:=r.toList) (by rwa [bg]) (by rwa [bg]) hz.1 hz.2 (λx hx y hy=>by
   obtain⟨i,hi,rfl⟩:=bK.1 hx;rw[bg]at hy;obtain⟨j,hj,rfl⟩:=bK.1 hy;simp only[aO]at hi;rw[qf];exact⟨_,_,i0 hK (gX i (by ac_nf)),i0 hK (gY j hj),aS (rM (pre i (by ac_nf))) (mY (c8 j) hj)⟩) (λx hx y hy=>by
   obtain⟨i,hi,rfl⟩:=bK.1 hx;obtain⟨j,hj,rfl⟩:=bK.1 hy;simp only[aW]at hi hj;rw[kK,kK];exact⟨_,_,i0 hK (gX (k+i) (by ac_nf)),i0 hK (gY (k2+j) (by ac_nf)),aS (mX (i:=k+i) (j:=X.length-1) (by ac_nf) (by ac_nf)) (rL (post2 (k2+j) (by ac_nf) (by ac_nf)))⟩)
  rwa [bg,bg]at this
 have hx0:0<((aQ st).extract (P.length+k) (P.length+X.length)).size:=by ac_nf
 have hy0:0<((aQ st).extract (P.length+X.length) (P.length+X.length+k2)).size:=by ac_nf
 split;case' isTrue=>refine aD (EO hO hk hx0 hy0 (uP hK) (uP hK) mgx mgy (aR hs) (by rw[sx,sy];exact mgl) (λr st' hS hz=> ?_))
 case' isFalse=>refine aD (EQ hO hk hx0 hy0 (uP hK) (uP hK) mgx mgy hs (by rw[sx,sy];exact λi hi=>aR (mgl i hi)) (λr st' hS hz=> ?_))
 all_goals
  rw[ex,ey]at hz
  have hz':=zz r hz
  refine aD (il ?_)
  refine aD (wpS_get ?_)
  have hf':iL st'=none:=hS.2.2.2.trans hf
  have hq:=h (b7.mk' (kindOf st') (List.foldl (λa (x:bf×Nat)=>a.setIfInBounds (P.length+k+x.2) x.1) (aQ st') r.toList.zipIdx) (cN st') (gallopOf st') (iL st')) (X.take k++(r.toList++Y.drop k2)) ?_ hz'.2 hz'.1 (hS.1.trans hk) hf' hS.2.2.1
  ·show wpS _ _ _ _ (pure (iL st').isNone) Q _
   refine aL ?_
   rw[show(iL st').isNone=true by rw[hf'];rfl]
   exact hq
  ·have ea:aQ st'=aQ st:=hS.2.1
   show(List.foldl (λa (x:bf×Nat)=>a.setIfInBounds (P.length+k+x.2) x.1) (aQ st') (r.toList.zipIdx 0)).toList=_
   rw[ea,vG (sa:=P.length+k) r.toList 0 (aQ st) (P++X.take k) (X.drop k++Y.take k2) (Y.drop k2++R) (by rw[eX];rfl) hz.1.length_eq.symm ?_]
   ·simp
   ·rw[e]
    conv=>lhs;rw[<-bg k X,<-bg k2 Y]
    simp only[aI]
end
end Tim
namespace Tim
open PySem PyProof.Rows
structure Wn(κ:aP)(lo hi:Nat)(st0 st:b7):Prop where
 kind:kindOf st=gL
 failed:iL st=none
 pend:cN st=cN st0
 perm:(aQ st).Perm (aQ st0)
 out:∀j,(j<lo\/hi<=j)->(aQ st)[j]? =(aQ st0)[j]?
 keys:KeysOf κ (aQ st0)
 size:hi<=(aQ st0).size
def Up(κ:aP)(arr:Array bf)(lo n:Nat):Prop:=∀i j,i<=j->j<n->κ.kle (KK κ arr (lo+i)) (KK κ arr (lo+j))
section
variable{prog:aG}{w:aX}{A:Around}{E:ae->ag->Prop}{s:ag}{κ:aP}{lo hi:Nat}{st0 st:b7}
theorem Wn.sz(h:Wn κ lo hi st0 st):hi<=(aQ st).size:=by rw[h.perm.size_eq];exact h.size
theorem Wn.keys'(h:Wn κ lo hi st0 st):KeysOf κ (aQ st):=λp hp=>h.keys p ((gO.mp h.perm).mem_iff.1 hp)
theorem lK{i j:Nat}{Q:Option Bool->b7->Prop}(hO:κ.OneLt)(h:Wn κ lo hi st0 st)(hi':i<hi)(hj':j<hi)(hq:Q (some (κ.blt (KK κ (aQ st) i) (KK κ (aQ st) j))) st):wpS (aK prog w) A E s (ltAt' i j) Q st:=by
 have hz:=h.sz;have e1:(aQ st)[i]? =some (aQ st)[i]:=bG (by ac_nf);have e2:(aQ st)[j]? =some (aQ st)[j]:=bG (by ac_nf);exact wpS_ltAtK (x:=(aQ st)[i].1) (p:=(aQ st)[i].2) (y:=(aQ st)[j].1) (q:=(aQ st)[j].2) hO h.kind e1 e2 (i0 h.keys' e1) (i0 h.keys' e2) hq
theorem Wn.bub{k l:Nat}(h:Wn κ lo hi st0 st)(hk:lo+k<hi)(hl:l<=k)(hs:Up κ (aQ st) lo k)(h1:∀i,i<l->κ.kle (KK κ (aQ st) (lo+i)) (KK κ (aQ st) (lo+k)))
  (h2:∀i,l<=i->i<k->κ.blt (KK κ (aQ st) (lo+k)) (KK κ (aQ st) (lo+i))=true):Wn κ lo hi st0 (setArr st (bubble (aQ st) (lo+k) (k-l)))/\Up κ (bubble (aQ st) (lo+k) (k-l)) lo (k+1):=by
 have hz:=h.sz;refine⟨⟨h.kind,h.failed,h.pend,(bubble_perm _ _ _).trans h.perm,λj hj=> ?_,h.keys,h.size⟩,λi j hij hj=> ?_⟩
 ·show(bubble (aQ st) (lo+k) (k-l))[j]? =_;rw[getElem?_bubble (by ac_nf) _ (by ac_nf),if_neg (by ac_nf),if_neg (by ac_nf)];exact h.out j hj
 ·have hb:∀m,m<=k->KK κ (bubble (aQ st) (lo+k) (k-l)) (lo+m)=if m=l then KK κ (aQ st) (lo+k)else if l<m then KK κ (aQ st) (lo+(m-1))else KK κ (aQ st) (lo+m):=λm hm=>by
   rw[KK_bubble (by ac_nf) (by ac_nf),show lo+k-(k-l)=lo+l by ac_nf];rcases rW m l with hh|hh|hh
   ·rw[if_neg (by ac_nf),if_neg (by ac_nf),if_neg (by ac_nf),if_neg (by ac_nf)]
   ·rw[if_pos (by ac_nf),if_pos hh]
   ·rw[if_neg (by ac_nf),if_pos (by ac_nf),if_neg (by ac_nf),if_pos hh,show lo+m-1=lo+(m-1)by ac_nf]
  rw[hb i (by ac_nf),hb j (by ac_nf)]
  rcases rW i l with a|a|a<;>rcases rW j l with b|b|b
  ·rw[if_neg (by ac_nf),if_neg (by ac_nf),if_neg (by ac_nf),if_neg (by ac_nf)];exact hs i j hij (by ac_nf)
  ·rw[if_neg (by ac_nf),if_neg (by ac_nf),if_pos b];exact h1 i a
  ·rw[if_neg (by ac_nf),if_neg (by ac_nf),if_neg (by ac_nf),if_pos b];exact hs i (j-1) (by ac_nf) (by ac_nf)
  ·ac_nf
  ·rw[if_pos a,if_pos b];exact bY _
  ·rw[if_pos a,if_neg (by ac_nf),if_pos b];exact aR (h2 (j-1) (by ac_nf) (by ac_nf))
  ·ac_nf
  ·ac_nf
  ·rw[if_neg (by ac_nf),if_pos a,if_neg (by ac_nf),if_pos b];exact hs (i-1) (j-1) (by ac_nf) (by ac_nf)
theorem Bd{n ok:Nat}{Q:Bool->b7->Prop}(hO:κ.OneLt)(hW:Wn κ lo hi st0 st)(hn:lo+n<=hi)(hok:ok<=n)(h1:1<=n)(hs:Up κ (aQ st) lo ok)
  (h:∀st',Wn κ lo hi st0 st'->Up κ (aQ st') lo n->Q true st'):wpS (aK prog w) A E s (binarySort' lo n ok) Q st:=by
 rw[binarySort'_eq];refine aD (fY (cO (I:=λk c st'=>c=(none,())/\Wn κ lo hi st0 st'/\k<=n/\Up κ (aQ st') lo k)
  (Q:=λc st'=>c=(none,())/\Wn κ lo hi st0 st'/\Up κ (aQ st') lo n) ?step ?fin ⟨rfl,hW,by ac_nf,?init⟩) ?post)
 case init=>
  intro i j hij hj
  rcases ig j ok with hh|hh
  ·exact hs i j hij hh
  ·obtain rfl:i=j:=by ac_nf
   exact bY _
 case post=>
  rintro c st' ⟨rfl,hW',hs'⟩
  exact aL (h st' hW' hs')
 case fin=>
  rintro c st' ⟨hc,hW',hk,hs'⟩
  rw[show max (max ok 1) n=n by ac_nf]at hs'
  exact⟨hc,hW',hs'⟩
 case step=>
  rintro k c st1 hak hkn ⟨rfl,hW',_,hs'⟩
  refine aD (fY (cO (I:=λx c st'=>st'=st1/\∃l r,c=(none,l,r)/\l<=r/\r<=k/\r-l<=k-x/\(∀i,i<l->κ.kle (KK κ (aQ st1) (lo+i)) (KK κ (aQ st1) (lo+k)))/\
    (∀i,r<=i->i<k->κ.blt (KK κ (aQ st1) (lo+k)) (KK κ (aQ st1) (lo+i))=true))
   (Q:=λc st'=>st'=st1/\∃l,c=(none,l,l)/\l<=k/\(∀i,i<l->κ.kle (KK κ (aQ st1) (lo+i)) (KK κ (aQ st1) (lo+k)))/\
    (∀i,l<=i->i<k->κ.blt (KK κ (aQ st1) (lo+k)) (KK κ (aQ st1) (lo+i))=true)) ?s1 ?f1 ⟨rfl,0,k,rfl,by ac_nf,by ac_nf,by ac_nf,λi hi=>by ac_nf,λi h1 h2=>by ac_nf⟩) ?p1)
  case f1=>
   rintro c st' ⟨rfl,l,r,rfl,a1,a2,a3,a4,a5⟩
   obtain rfl:l=r:=by ac_nf
   exact⟨rfl,l,rfl,a2,a4,a5⟩
  case s1=>
   rintro x c st' _ hx ⟨rfl,l,r,rfl,a1,a2,a3,a4,a5⟩
   dsimp only
   by_cases hge:l≥r
   ·rw[if_pos hge]
    obtain rfl:l=r:=by ac_nf
    exact aL ⟨rfl,l,rfl,a2,a4,a5⟩
   rw[if_neg hge]
   refine aD (lK hO hW' (by ac_nf) (by ac_nf) ?_)
   generalize hm:(l+r)/2=m
   have hm1:l<=m/\m<r:=by ac_nf
   cases hw:κ.blt (KK κ (aQ st') (lo+k)) (KK κ (aQ st') (lo+m))with
   |true=>
    dsimp only
    rw[if_pos rfl]
    exact aL ⟨rfl,l,m,rfl,by ac_nf,by ac_nf,by ac_nf,a4,λi b1 b2=>PyProof.Rows.KeyOrd.klt_of_klt_of_kle hw (hs' m i b1 b2)⟩
   |false=>
    dsimp only
    rw[if_neg (by decide)]
    exact aL ⟨rfl,m+1,r,rfl,by ac_nf,by ac_nf,by ac_nf,λi b1=>aS (hs' i m (by ac_nf) (by ac_nf)) (show κ.kle _ _ from hw),a5⟩
  case p1=>
   rintro c st' ⟨rfl,l,rfl,a2,a4,a5⟩
   show wpS _ _ _ _ (do moveDown' (lo+k) (lo+l);pure (er (none,()))) _ _
   rw[moveDown'_eq]
   have:=hW'.bub (by ac_nf) a2 hs' a4 a5
   refine aD (il (aL ⟨rfl,?_,by ac_nf,?_⟩))
   ·rw[show lo+k-(lo+l)=k-l by ac_nf];exact this.1
   ·show Up κ (bubble (aQ st') (lo+k) (lo+k-(lo+l))) lo (k+1)
    rw[show lo+k-(lo+l)=k-l by ac_nf];exact this.2
end
end Tim
namespace Tim
open PySem PyProof.Rows
def Dn(κ:aP)(arr:Array bf)(lo n:Nat):Prop:=∀i j,i<=j->j<n->κ.kle (KK κ arr (lo+j)) (KK κ arr (lo+i))
section
variable{prog:aG}{w:aX}{A:Around}{E:ae->ag->Prop}{s:ag}{κ:aP}{lo hi:Nat}{st0 st:b7}
theorem Wn.mir{i j:Nat}(h:Wn κ lo hi st0 st)(hi':lo<=i)(hj:j<=hi):Wn κ lo hi st0 (setArr st (mirror (aQ st) i j ((j-i)/2))):=by
 have hz:=h.sz;refine⟨h.kind,h.failed,h.pend,(mirror_perm _ _ _ _).trans h.perm,λk hk=> ?_,h.keys,h.size⟩;show(mirror (aQ st) i j ((j-i)/2))[k]? =_;rw[getElem?_mirror_all (by ac_nf),if_neg (by ac_nf)];exact h.out k hk
theorem Wn.flip{n:Nat}(h:Wn κ lo hi st0 st)(hn:lo+n<=hi)(hd:Dn κ (aQ st) lo n):Up κ (mirror (aQ st) lo (lo+n) ((lo+n-lo)/2)) lo n:=λi j hij hj=>by
 have hz:=h.sz;rw[KK_mirror (by ac_nf),KK_mirror (by ac_nf),if_pos (by ac_nf),if_pos (by ac_nf),show lo+(lo+n)-1-(lo+i)=lo+(n-1-i)by ac_nf,show lo+(lo+n)-1-(lo+j)=lo+(n-1-j)by ac_nf];exact hd _ _ (by ac_nf) (by ac_nf)
theorem yi{g:Nat->Option (Option Nat)×Nat->StateT b7 Sem (ForInStep (Option (Option Nat)×Nat))}{a nrem:Nat}{Q:Option (Option Nat)×Nat->b7->Prop}
  (hg:∀x n (Q':ForInStep (Option (Option Nat)×Nat)->b7->Prop),lo+n<hi->1<=n->Q' (if κ.blt (KK κ (aQ st) (lo+n)) (KK κ (aQ st) (lo+n-1))=true then ForInStep.done (none,n)else er (none,n+1)) st->wpS (aK prog w) A E s (g x (none,n)) Q' st)
  (ha:1<=a) (han:a<=nrem) (hn:lo+nrem<=hi) (hs:Up κ (aQ st) lo a)
  (h:∀n,a<=n->n<=nrem->Up κ (aQ st) lo n->(n=nrem\/κ.blt (KK κ (aQ st) (lo+n)) (KK κ (aQ st) (lo+n-1))=true)->Q (none,n) st):wpS (aK prog w) A E s (forIn [a:nrem] (none,a) g) Q st:=by
 refine cO (I:=λx c st'=>st'=st/\c=(none,x)/\Up κ (aQ st) lo x) ?step ?fin ⟨rfl,rfl,hs⟩;case fin=>
  rintro c st' ⟨rfl,rfl,hs'⟩
  rw[show max a nrem=nrem by ac_nf]at hs'⊢
  exact h nrem han (ap _) hs' (.inl rfl)
 case step=>
  rintro x c st' hax hxn ⟨rfl,rfl,hs'⟩
  refine hg x x _ (by ac_nf) (by ac_nf) ?_
  cases hw:κ.blt (KK κ (aQ st') (lo+x)) (KK κ (aQ st') (lo+x-1))with
  |true=>
   rw[if_pos rfl]
   exact h x hax (by ac_nf) hs' (.inr hw)
  |false=>
   rw[if_neg (by decide)]
   refine⟨rfl,rfl,λi j hij hj=> ?_⟩
   rcases ig j x with a|a
   ·exact hs' i j hij a
   ·obtain rfl:j=x:=by ac_nf
    rcases ig i j with b|b
    ·rw[show lo+j-1=lo+(j-1)by ac_nf]at hw
     exact aS (hs' i (j-1) (by ac_nf) (by ac_nf)) hw
    ·obtain rfl:i=j:=by ac_nf
     exact bY _
theorem LB{arr:Array bf}:Up κ arr lo 1:=λi j hij hj=>by
 obtain rfl:i=j:=by ac_nf
 exact bY _
theorem Dn.ext{xs arr:Array bf}{x:Nat}(hs:Dn κ arr lo x)(hk:∀k,KK κ xs k=KK κ arr k)(hx:0<x)(hle:κ.kle (KK κ arr (lo+x)) (KK κ arr (lo+x-1))):Dn κ xs lo (x+1):=λi j hij hj=>by
 rw[hk,hk];rcases ig j x with a|a
 ·exact hs i j hij a
 ·obtain rfl:j=x:=by ac_nf
  rcases ig i j with b|b
  ·rw[show lo+j-1=lo+(j-1)by ac_nf]at hle;exact aS hle (hs i (j-1) (by ac_nf) (by ac_nf))
  ·obtain rfl:i=j:=by ac_nf
   exact bY _
theorem Bc{nrem:Nat}{Q:Option Nat->b7->Prop}(hO:κ.OneLt)(hW:Wn κ lo hi st0 st)(hn:lo+nrem<=hi)(h1:1<=nrem)
  (h:∀m st',Wn κ lo hi st0 st'->1<=m->m<=nrem->Up κ (aQ st') lo m->Q (some m) st'):wpS (aK prog w) A E s (countRun' lo nrem) Q st:=by
 rw[countRun'_eq];refine aD (yi (κ:=κ) (lo:=lo) (hi:=hi) (λx n Q' h1 h2 hq=> ?_) (ap 1) h1 hn LB λn hn1 hn2 hs hor=> ?_)
 ·dsimp only;refine aD (lK hO hW (by ac_nf) (by ac_nf) ?_);split at hq
  ·rename_i e;rw[e];exact aL hq
  ·rename_i e;rw[Bool.not_eq_true]at e;rw[e];exact aL hq
 dsimp only;by_cases hnn:n=nrem
 ·rw[if_pos (by simpa using hnn)];exact aL (h n st hW hn1 hn2 hs)
 rw[if_neg (by simpa using hnn)];have hlt:=hor.resolve_left hnn;have hsz:=hW.sz;by_cases hgt:n>1;case' pos=>
  rw[if_pos hgt]
  refine aD (lK hO hW (by ac_nf) (by ac_nf) ?_)
  cases hr:κ.blt (KK κ (aQ st) lo) (KK κ (aQ st) (lo+n-1))with
  |true=>exact aL (h n st hW hn1 hn2 hs)
  |false=> ?_
  dsimp only
  rw[if_neg (by decide)]
  have hr':κ.kle (KK κ (aQ st) (lo+n-1)) (KK κ (aQ st) lo):=hr
  have hall:∀k,lo<=k->k<lo+n->KK κ (aQ st) k=KK κ (aQ st) (lo+n-1):=by
   intro k hk1 hk2;obtain⟨k,rfl⟩:∃m,k=lo+m:=⟨k-lo,by ac_nf⟩;have a1:=hs 0 k (by ac_nf) (by ac_nf);have a2:=hs k (n-1) (by ac_nf) (by ac_nf);rw[show lo+(n-1)=lo+n-1 by ac_nf]at a2;exact kJ a2 (aS hr' a1)
  have hd0:Dn κ (aQ st) lo n:=λi j hij hj=>by
   rw[hall (lo+i) (by ac_nf) (by ac_nf),hall (lo+j) (by ac_nf) (by ac_nf)];exact bY _
  have hW1:=hW.mir (ap lo) (j:=lo+n) (by ac_nf)
  have hd1:Dn κ (aQ (setArr st (mirror (aQ st) lo (lo+n) ((lo+n-lo)/2)))) lo (n+1):=hd0.ext (oE (by ac_nf) hall) (by ac_nf) (aR hlt)
  refine aD (wpS_reverse ?_)
  generalize setArr st (mirror (aQ st) lo (lo+n) ((lo+n-lo)/2))=st1 at hW1 hd1⊢
 case' neg=>
  rw[if_neg hgt]
  obtain rfl:n=1:=by ac_nf
  have hW1:=hW
  have hd1:Dn κ (aQ st) lo (1+1):=Dn.ext (x:=1) (λi j hij hj=>by
   obtain rfl:i=j:=by ac_nf
   exact bY _) (λ_=>rfl) (by ac_nf) (aR hlt)
  generalize st=st1 at hW1 hd1⊢
 all_goals
  refine aD (wpS_lift (eP ⟨rfl,?_⟩))
  refine aD (fY (cO (I:=λx c st'=>∃neq,c=(none,x,neq)/\Wn κ lo hi st0 st'/\Dn κ (aQ st') lo x/\neq+1<=x/\(∀k,lo+x-(neq+1)<=k->k<lo+x->KK κ (aQ st') k=KK κ (aQ st') (lo+x-1)))
   (Q:=λc st'=>∃m neq,c=(none,m,neq)/\1<=m/\m<=nrem/\Wn κ lo hi st0 st'/\Dn κ (aQ st') lo m/\neq+1<=m/\(∀k,lo+m-(neq+1)<=k->k<lo+m->KK κ (aQ st') k=KK κ (aQ st') (lo+m-1))) ?step ?fin ⟨0,rfl,hW1,hd1,by ac_nf,λk a b=>by congr 1;ac_nf⟩) ?post)
  case fin=>
   rintro c st' ⟨neq,rfl,a1,a2,a3,a4⟩
   exact⟨_,neq,rfl,by ac_nf,by ac_nf,a1,a2,a3,a4⟩
  case step=>
   rintro x c st' hax hxn ⟨neq,rfl,hW',hd',hq,he⟩
   dsimp only
   have hz:=hW'.sz
   refine aD (lK hO hW' (by ac_nf) (by ac_nf) ?_)
   cases hw:κ.blt (KK κ (aQ st') (lo+x)) (KK κ (aQ st') (lo+x-1))with
   |true=>
    dsimp only
    rw[if_pos rfl]
    by_cases hneq:neq>0
    ·rw[if_pos hneq]
     refine aD (wpS_reverse (aL ⟨0,rfl,hW'.mir (by ac_nf) (by ac_nf),hd'.ext (oE (by ac_nf) he) (by ac_nf) (aR hw),by ac_nf,λk a b=>by congr 1;ac_nf⟩))
    ·rw[if_neg hneq]
     exact aL ⟨0,rfl,hW',hd'.ext (λ_=>rfl) (by ac_nf) (aR hw),by ac_nf,λk a b=>by congr 1;ac_nf⟩
   |false=>
    dsimp only
    rw[if_neg (by decide)]
    refine aD (lK hO hW' (by ac_nf) (by ac_nf) ?_)
    cases hl:κ.blt (KK κ (aQ st') (lo+x-1)) (KK κ (aQ st') (lo+x))with
    |true=>exact aL ⟨x,neq,rfl,by ac_nf,by ac_nf,hW',hd',hq,he⟩
    |false=>
     have hx:KK κ (aQ st') (lo+x)=KK κ (aQ st') (lo+x-1):=kJ hl hw
     refine aL ⟨neq+1,rfl,hW',hd'.ext (λ_=>rfl) (by ac_nf) hl,by ac_nf,λk a b=> ?_⟩
     rw[show lo+(x+1)-1=lo+x by ac_nf]
     rcases ig k (lo+x)with c|c
     ·rw[hx];exact he k (by ac_nf) c
     ·obtain rfl:k=lo+x:=by ac_nf
      rfl
  case post=>
   rintro c st2 ⟨m,neq,rfl,hm1,hm2,hW2,hd2,hq,he⟩
   dsimp only
   have hz:=hW2.sz
   by_cases hneq:neq>0
   case' pos=>
    rw[if_pos hneq]
    refine aD (wpS_reverse ?_)
    have hW3:=hW2.mir (i:=lo+m-(neq+1)) (j:=lo+m) (by ac_nf) (by ac_nf)
    have hd3:Dn κ (aQ (setArr st2 (mirror (aQ st2) (lo+m-(neq+1)) (lo+m) ((lo+m-(lo+m-(neq+1)))/2)))) lo m:=λi j hij hj=>by
     show κ.kle (KK κ (mirror (aQ st2) _ _ _) _) (KK κ (mirror (aQ st2) _ _ _) _);rw[oE (by ac_nf) he,oE (by ac_nf) he];exact hd2 i j hij hj
    generalize setArr st2 (mirror (aQ st2) (lo+m-(neq+1)) (lo+m) ((lo+m-(lo+m-(neq+1)))/2))=st3 at hW3 hd3⊢
   case' neg=>
    rw[if_neg hneq]
    have hW3:=hW2
    have hd3:=hd2
    generalize st2=st3 at hW3 hd3⊢
   all_goals
    refine aD (wpS_reverse ?_)
    have hW4:=hW3.mir (ap lo) (j:=lo+m) (by ac_nf)
    have hu:=hW3.flip (n:=m) (by ac_nf) hd3
    refine aD (yi (κ:=κ) (lo:=lo) (hi:=hi) (λx n Q' h1 h2 hq=> ?_) hm1 hm2 hn hu λn hn1 hn2 hs hor=> ?_)
    ·dsimp only
     refine aD (lK hO hW4 (by ac_nf) (by ac_nf) ?_)
     split at hq
     ·rename_i e;rw[e];exact aL hq
     ·rename_i e;rw[Bool.not_eq_true]at e;rw[e];exact aL hq
    ·exact aL (h n _ hW4 (by ac_nf) hn2 hs)
end
end Tim
namespace Tim
open PySem PyProof.Rows
def Pd:Nat->List (Nat×Nat×Nat)->List (List bf)->Prop
 |_,[],[]=>True
 |s,p::ps,r::rs=>p.1=s/\p.2.1=r.length/\Pd (s+r.length) ps rs
 |_,_,_=>False
theorem Pd.len:∀{s:Nat} {ps:List (Nat×Nat×Nat)} {rs:List (List bf)},Pd s ps rs->ps.length=rs.length
 |_,[],[],_=>rfl
 |_,p::ps,r::rs,h=>by simp[Pd.len h.2.2]
 |_,[],r::rs,h=>h.elim
 |_,p::ps,[],h=>h.elim
theorem Pd.app:∀{s:Nat} {ps qs:List (Nat×Nat×Nat)} {A B:List (List bf)},Pd s ps A->Pd (s+A.flatten.length) qs B->Pd s (ps++qs) (A++B)
 |_,[],_,[],_,_,h=>by simpa using h
 |s,p::ps,qs,r::rs,B,h,h2=>⟨h.1,h.2.1,Pd.app h.2.2 (by simpa [kX]using h2)⟩
 |_,[],_,r::rs,_,h,_=>h.elim
 |_,p::ps,_,[],_,h,_=>h.elim
theorem Pd.cut:∀{s:Nat} {ps:List (Nat×Nat×Nat)} {A B:List (List bf)},Pd s ps (A++B)->∃p1 p2,ps=p1++p2/\Pd s p1 A/\Pd (s+A.flatten.length) p2 B
 |_,ps,[],_,h=>⟨[],ps,rfl,trivial,by simpa using h⟩
 |_,p::ps,r::rs,B,h=>by
  obtain⟨p1,p2,rfl,h1,h2⟩:=Pd.cut (A:=rs) h.2.2;exact⟨p::p1,p2,rfl,⟨h.1,h.2.1,h1⟩,by simpa [kX]using h2⟩
 |_,[],r::rs,_,h=>h.elim
theorem Cd{pd:Array (Nat×Nat×Nat)}{A B:List (Nat×Nat×Nat)}{p q v:Nat×Nat×Nat}(e:pd.toList=A++p::q::B):((pd.setIfInBounds A.length v).eraseIdxIfInBounds (A.length+1)).toList=A++v::B:=by
 have hs:pd.size=A.length+(B.length+2):=by have:=congrArg cX e;simpa using this
 rw[Array.eraseIdxIfInBounds,dif_pos (by simp;ac_nf),Array.toList_eraseIdx,uR,e,List.set_append_right _ _ (ap _),Nat.sub_self,List.set_cons_zero];rw[List.eraseIdx_append_of_length_le (by ac_nf),show A.length+1-A.length=1 by ac_nf];rfl
structure Sk(κ:aP)(a₀:Array bf)(runs:List (List bf))(R:List bf)(st:b7):Prop where
 kind:kindOf st=gL
 failed:iL st=none
 perm:(aQ st).Perm a₀
 flat:(aQ st).toList=runs.flatten++R
 up:∀r∈runs,r.Pairwise (Le κ)/\0<r.length
 pend:Pd 0 (cN st).toList runs
section
variable{prog:aG}{w:aX}{A:Around}{E:ae->ag->Prop}{s:ag}{κ:aP}{a₀:Array bf}{runs:List (List bf)}{R:List bf}{st:b7}
theorem Sk.keys(h:Sk κ a₀ runs R st)(h0:KeysOf κ a₀):KeysOf κ (aQ st):=λp hp=>h0 p ((gO.mp h.perm).mem_iff.1 hp)
theorem qr{i:Nat}{Q:Bool->b7->Prop}(hO:κ.OneLt)(h0:KeysOf κ a₀)(hS:Sk κ a₀ runs R st)(hi:i+1<(cN st).size)
  (h:∀st' runs',Sk κ a₀ runs' R st'->runs'.length+1=runs.length->runs'.flatten.length=runs.flatten.length->Q true st'):wpS (aK prog w) A E s (mergeAt' i) Q st:=by
 have hl:=hS.pend.len;rw[aE]at hl;obtain⟨C,X,Y,B,rfl,hC⟩:∃C X Y B,runs=C++X::Y::B/\C.length=i:=
  ⟨runs.take i,runs[i]'(by ac_nf),runs[i+1]'(by ac_nf),runs.drop (i+2),by rw[<-fj,<-fj,bg],by simp;ac_nf⟩
 obtain⟨p1,p2,ep,d1,d2⟩:=hS.pend.cut;have l1:=d1.len;match p2,d2 with
 |⟨pa,pn,pw⟩::⟨qa,qn,qw⟩::p3,⟨e1,e2,e3,e4,d3⟩=> ?_
 simp only[Nat.zero_add]at e1 e2 e3 e4 d3;subst e1 e2 e3 e4;obtain⟨uX,x0⟩:=hS.up X (by simp);obtain⟨uY,y0⟩:=hS.up Y (by simp);have hp1:(cN st)[i]? =some (C.flatten.length,X.length,pw):=by
  rw[<-aZ,ep,cn (by ac_nf),show i-p1.length=0 by ac_nf];rfl
 have hp2:(cN st)[i+1]? =some (C.flatten.length+X.length,Y.length,qw):=by
  rw[<-aZ,ep,cn (by ac_nf),show i+1-p1.length=1 by ac_nf];rfl
 refine ER hO hS.kind hS.failed (hS.keys h0) (P:=C.flatten) (X:=X) (Y:=Y) (R:=B.flatten++R) (by rw[hS.flat];simp) uX uY x0 y0 hp1 hp2 λst' Z z1 z2 z3 z4 z5 z6=> ?_;have zl:Z.length=X.length+Y.length:=by simpa using z2.length_eq
 refine h st' (C++Z::B) ⟨z4,z5,?_,by rw[z1];simp,?_,?_⟩ (by simp;ac_nf) (by simp;ac_nf)
 ·refine Array.Perm.trans ?_ hS.perm;rw[gO,z1,hS.flat];simp only[List.flatten_append,cL,aI];refine kZ _ ?_;rw[<-aI X Y];exact z2.append_right _
 ·intro r hr;rcases aH.1 hr with hr|hr
  ·exact hS.up r (gP _ hr)
  ·rcases aw.1 hr with rfl|hr
   ·exact⟨z3,by ac_nf⟩
   ·exact hS.up r (a8 _ (by simp[hr]))
 ·rw[z6,show i=p1.length by ac_nf,Cd ep];refine d1.app ?_;simp only[Nat.zero_add];exact⟨rfl,zl.symm,by rw[zl,<-kX];exact d3⟩
end
end Tim
namespace Tim
open PySem PyProof.Rows
section
variable{prog:aG}{w:aX}{A:Around}{E:ae->ag->Prop}{s:ag}{κ:aP}{a₀:Array bf}{runs:List (List bf)}{R:List bf}{st:b7}
theorem Pd.last:∀{s:Nat} {ps:List (Nat×Nat×Nat)} {A:List (List bf)} {r:List bf} {f:Nat×Nat×Nat->Nat×Nat×Nat},(∀p,(f p).1=p.1/\(f p).2.1=p.2.1)->∀{k},Pd s ps A->Pd s (ps.modify k f) A
 |_,[],[],_,_,hf,k,h=>by simpa using h
 |s,p::ps,r::rs,r0,f,hf,0,h=>by
  rw[List.modify_zero_cons];exact⟨(hf p).1.trans h.1,(hf p).2.trans h.2.1,h.2.2⟩
 |s,p::ps,r::rs,r0,f,hf,k+1,h=>by
  rw[List.modify_succ_cons];exact⟨h.1,h.2.1,Pd.last (r:=r0) hf h.2.2⟩
 |_,[],r::rs,_,_,_,_,h=>h.elim
 |_,p::ps,[],_,_,_,_,h=>h.elim
theorem Sk.push{X:List bf}(h:Sk κ a₀ runs (X++R) st)(hX:X.Pairwise (Le κ))(x0:0<X.length):Sk κ a₀ (runs++[X]) R (setPending st ((cN st).push (runs.flatten.length,X.length,0))):=by
 refine⟨h.kind,h.failed,h.perm,by show(aQ st).toList=_;rw[h.flat];simp,λr hr=> ?_,?_⟩
 ·rcases aH.1 hr with hr|hr
  ·exact h.up r hr
  ·obtain rfl:=ar.1 hr;exact⟨hX,x0⟩
 ·show Pd 0 ((cN st).push _).toList _;rw[iP];exact h.pend.app ⟨by simp,rfl,trivial⟩
theorem vN:∀{runs:List (List bf)},(∀r∈runs,r.Pairwise (Le κ)/\0<r.length)->runs.length<=runs.flatten.length
 |[],_=>ap _
 |r::rs,h=>by
  have h1:=vN (runs:=rs) λx hx=>h x (bC _ hx);have h2:=(h r dB).2;simp only[aj,cL,af];ac_nf
theorem Sk.run{N n:Nat}{st3:b7}(h:Sk κ a₀ runs R st)(h0:KeysOf κ a₀)(hW:Wn κ runs.flatten.length N st st3)(hn:runs.flatten.length+n<=N)(hu:Up κ (aQ st3) runs.flatten.length n):
  ∃X R',Sk κ a₀ runs (X++R') st3/\X.Pairwise (Le κ)/\X.length=n:=by
 have hz:=hW.sz;refine⟨((aQ st3).toList.drop runs.flatten.length).take n,((aQ st3).toList.drop runs.flatten.length).drop n,⟨hW.kind,hW.failed,hW.perm.trans h.perm,?_,h.up,by rw[hW.pend];exact h.pend⟩,?_,by rw[aO,aW,aE];ac_nf⟩
 ·rw[bg];have:(aQ st3).toList.take runs.flatten.length=runs.flatten:=by
   have e:(aQ st).toList.take runs.flatten.length=runs.flatten:=by rw[h.flat,nu]
   refine Eq.trans (qh λi=> ?_) e;rw[jZ,jZ,aZ,aZ];by_cases hi:i<runs.flatten.length
   ·rw[if_pos hi,if_pos hi];exact hW.out i (.inl hi)
   ·rw[if_neg hi,if_neg hi]
  conv=>lhs;rw[<-bg runs.flatten.length (aQ st3).toList,this]
 ·rw[bd];intro i j hi hj hij;simp only[aO,aW,aE]at hi hj;rw[qf,qf,kK,kK,Array.getElem_toList,Array.getElem_toList];exact⟨_,_,i0 hW.keys' (bG (by ac_nf)),i0 hW.keys' (bG (by ac_nf)),hu i j (by ac_nf) (by ac_nf)⟩
theorem uW{Q:Unit->b7->Prop}(hO:κ.OneLt)(h0:KeysOf κ a₀)(hS:Sk κ a₀ [] a₀.toList st)
  (h:∀st',(aQ st').Perm a₀->iL st'=none->(aQ st').toList.Pairwise (Le κ)->Q () st'):wpS (aK prog w) A E s sortRuns' Q st:=by
 rw[sortRuns'_eq];refine aD (wpS_get ?_);dsimp only;generalize hN:(aQ st).size=N;have hN0:a₀.size=N:=by rw[<-hN,hS.perm.size_eq]
 generalize minRun' N N 0=mr;refine aD (fY (cO
  (I:=λx c st'=>∃lo runs R,c=(none,lo)/\Sk κ a₀ runs R st'/\runs.flatten.length=lo/\x<=lo)
  (Q:=λc st'=>∃lo runs,c=(none,lo)/\Sk κ a₀ runs [] st') ?step ?fin ⟨0,[],_,rfl,hS,rfl,ap _⟩) ?post)
 case fin=>
  rintro c st' ⟨lo,runs,R,rfl,hS',hl,hx⟩
  have h2:=congrArg cX hS'.flat
  rw[af,aE,hS'.perm.size_eq]at h2
  obtain rfl:R=[]:=fK.1 (by ac_nf)
  exact⟨lo,runs,rfl,hS'⟩
 case post=>
  rintro c st1 ⟨lo,runs,rfl,hS1⟩
  have h2:=congrArg cX hS1.flat
  rw[af,aE,hS1.perm.size_eq]at h2
  have h3:=vN hS1.up
  simp only[bo]at h2
  refine aD (fY (cO (I:=λx c st'=>∃runs,c=(none,())/\Sk κ a₀ runs [] st'/\runs.length+x<=N+1)
   (Q:=λc st'=>∃runs,c=(none,())/\Sk κ a₀ runs [] st'/\runs.length<=1) ?s2 ?f2 ⟨runs,rfl,hS1,by ac_nf⟩) ?p2)
  case f2=>
   rintro c st' ⟨runs,rfl,hS',_⟩
   exact⟨runs,rfl,hS',by ac_nf⟩
  case p2=>
   rintro c st' ⟨runs,rfl,hS',h1⟩
   refine aL (h _ hS'.perm hS'.failed ?_)
   rw[hS'.flat]
   match runs,hS',h1 with
   |[],_,_=>exact List.Pairwise.nil
   |[r],hS',_=>simpa using(hS'.up r (by simp)).1
   |_::_::_,_,h1=>simp at h1
  case s2=>
   rintro x c st2 _ hx ⟨runs,rfl,hS2,hle⟩
   have hl:=hS2.pend.len
   rw[aE]at hl
   refine aD (wpS_get ?_)
   by_cases hp:(cN st2).size<=1
   ·rw[if_pos hp]
    exact aL ⟨runs,rfl,hS2,by ac_nf⟩
   rw[if_neg hp]
   refine aD (qr hO h0 hS2 ?_ λst3 runs' hS3 l3 _=> ?_)
   ·(repeat' split)<;>ac_nf
   ·rw[if_neg (by decide)]
    exact aL ⟨runs',rfl,hS3,by ac_nf⟩
 case step=>
  rintro x c st1 _ hx ⟨lo,runs,R,rfl,hS1,rfl,hxl⟩
  dsimp only
  have h2:=congrArg cX hS1.flat
  rw[af,aE,hS1.perm.size_eq]at h2
  by_cases hge:runs.flatten.length≥N
  ·rw[if_pos hge]
   obtain rfl:R=[]:=fK.1 (by ac_nf)
   exact aL ⟨_,runs,rfl,hS1⟩
  rw[if_neg hge]
  have hW1:Wn κ runs.flatten.length N st1 st1:=⟨hS1.kind,hS1.failed,rfl,kM _,λ_ _=>rfl,hS1.keys h0,by rw[hS1.perm.size_eq];ac_nf⟩
  refine aD (Bc hO hW1 (by ac_nf) (by ac_nf) λm st2 hW2 m1 m2 hu=> ?_)
  dsimp only
  by_cases hm:m<mr
  case' pos=>
   rw[if_pos hm]
   refine aD (wpS_lift (eP ⟨rfl,?_⟩))
   refine aD (Bd hO hW2 (n:=min (N-runs.flatten.length) mr) (by ac_nf) (by ac_nf) (by ac_nf) hu λst3 hW3 hu3=> ?_)
   rw[if_neg (by decide)]
   have n1:1<=min (N-runs.flatten.length) mr:=by ac_nf
   have n2:runs.flatten.length+min (N-runs.flatten.length) mr<=N:=by ac_nf
   generalize min (N-runs.flatten.length) mr=n at hu3 n1 n2⊢
  case' neg=>
   rw[if_neg hm]
   have hW3:=hW2
   have hu3:=hu
   have n1:=m1
   have n2:runs.flatten.length+m<=N:=by ac_nf
   generalize m=n at hu3 n1 n2⊢
   generalize st2=st3 at hu3 hW3⊢
  all_goals
   obtain⟨X,R',hS3,hX,rfl⟩:=hS1.run h0 hW3 n2 hu3
   refine aD (wpS_get ?_)
   cases hb:(cN st3).back? with
   |none=>
    dsimp only
    exact aD (il (aL ⟨_,runs++[X],R',rfl,hS3.push hX n1,by simp,by ac_nf⟩))
   |some p=>
    obtain⟨s1,n0,pw⟩:=p
    dsimp only
    refine aD (fY (cO (I:=λ_ c st'=>c=(none,())/\∃runs',Sk κ a₀ runs' (X++R') st'/\runs'.flatten.length=runs.flatten.length)
     (Q:=λc st'=>c=(none,())/\∃runs',Sk κ a₀ runs' (X++R') st'/\runs'.flatten.length=runs.flatten.length) ?s3 (λ_ _ hh=>hh) ⟨rfl,runs,hS3,rfl⟩) ?p3)
    case s3=>
     rintro y c st4 _ hy ⟨rfl,runs',hS4,hl'⟩
     refine aD (wpS_get ?_)
     by_cases hp:(cN st4).size>1
     ·rw[if_pos hp,bG (show(cN st4).size-2<(cN st4).size by ac_nf)]
      dsimp only
      split
      ·exact aL ⟨rfl,runs',hS4,hl'⟩
      ·refine aD (qr hO h0 hS4 (by ac_nf) λst5 runs5 hS5 _ l5=> ?_)
       rw[if_neg (by decide)]
       exact aL ⟨rfl,runs5,hS5,l5.trans hl'⟩
     ·rw[if_neg hp]
      exact aL ⟨rfl,runs',hS4,hl'⟩
    case p3=>
     rintro c st4 ⟨rfl,runs',hS4,hl'⟩
     dsimp only
     refine aD (il ?_)
     refine aD (il ?_)
     have hS5:∀f:Nat×Nat×Nat->Nat×Nat×Nat,(∀p,(f p).1=p.1/\(f p).2.1=p.2.1)->Sk κ a₀ runs' (X++R') (setPending st4 ((cN st4).modify ((cN st4).size-1) f)):=λf hf=>
      ⟨hS4.kind,hS4.failed,hS4.perm,hS4.flat,hS4.up,by
       show Pd 0 ((cN st4).modify _ f).toList runs';rw[Array.toList_modify];exact Pd.last (r:=[]) hf hS4.pend⟩
     refine aL ⟨_,runs'++[X],R',rfl,?_,by rw[List.flatten_append,af,hl'];simp,by ac_nf⟩
     rw[<-hl']
     exact Sk.push (hS5 (λp=>(p.1,p.2.1,power' N (2*s1+n0) (2*s1+n0+n0+X.length) N)) λp=>⟨rfl,rfl⟩) hX n1
end
end Tim
namespace Tim
open PySem PyProof.Rows
section
variable{prog:aG}{w:aX}{A:Around}{E:ae->ag->Prop}{s:ag}{κ:aP}
theorem yb:∀vs:List ae,(vs.zip vs).map (λx=>x.2)=vs
 |[]=>rfl
 |v::vs=>by rw[List.zip_cons_cons,aU,yb vs]
theorem zip_snds(vs:List ae):(vs.toArray.zip vs.toArray).map (·.2)=vs.toArray:=by
 apply Array.ext';simp[yb]
theorem sF{a:Addr}{vs:List ae}{n:Nat}{R:PySem.Fin->ag->Prop}(ho:s.heap.get? a=some (ef "list" vs.toArray n))(h2:vs.length<2)
  (q:R (.done (.ret .none)) {s with heap:=sortedHeap s.heap a vs vs.toArray}):wpAny (aK prog w) A (Builtin.«list.sort» ⟨[.ref a],[]⟩) R E s:=by
 rw[list_sort_plain];refine aa (listItems_at ho rfl (aa (r6 ho rfl ?_)));obtain⟨e1,o1⟩:∃e1,(s.heap.update a (cI λ_=> #[])).get? a=some (ef "list" #[] e1):=⟨_,get?_update_seq ho _⟩;refine aa (seqEpoch_at o1 rfl (aa (jf (aa (rY (b6 ?_))))));have o6:(((s.heap.update a (cI λ_=> #[])).push (ef "tuple" vs.toArray 0)).push (ef "list" #[] 0)).get? a=some (ef "list" #[] e1):=(ai _ (ai _ o1));show wpAny _ A _ R E {s with heap:=((s.heap.update a (cI λ_=> #[])).push (ef "tuple" vs.toArray 0)).push (ef "list" #[] 0)};dsimp only;have hn:vs.toArray.size<2:=by rw[aq];ac_nf
 rw[if_pos hn,if_pos hn];refine aa (ah (aa (ah ?_)));dsimp only;have e:(aQ (b7.mk' general' (vs.toArray.zip vs.toArray) #[] 7 none)).map (·.2)=vs.toArray:=zip_snds vs;rw[e];refine aa (seqEpoch_at o6 rfl (aa (r6 o6 rfl ?_ (hsz2:=by rw[i6,aq];ac_nf))));simp only[bne_self_eq_false,if_false,fX];exact ah q
theorem sG(hO:κ.OneLt){a:Addr}{vs:List ae}{n:Nat}{R:PySem.Fin->ag->Prop}(ho:s.heap.get? a=some (ef "list" vs.toArray n))(h2:2<=vs.length)(hz:vs.length<=16000000)(h0:KeysOf κ (fS vs))
  (hkk:keyKind' vs.toArray=pure gL)
  (q:∀out:Array bf,out.Perm (fS vs)->out.toList.Pairwise (Le κ)->R (.done (.ret .none)) {s with heap:=sortedHeap s.heap a vs (out.map (·.2))}):wpAny (aK prog w) A (Builtin.«list.sort» ⟨[.ref a],[]⟩) R E s:=by
 rw[list_sort_plain];have ha:=aA ho
 refine aa (listItems_at ho rfl (aa (r6 ho rfl ?_)));obtain⟨e1,o1⟩:∃e1,(s.heap.update a (cI λ_=> #[])).get? a=some (ef "list" #[] e1):=⟨_,get?_update_seq ho _⟩;refine aa (seqEpoch_at o1 rfl (aa (jf (aa (rY (b6 ?_))))));have o6:(((s.heap.update a (cI λ_=> #[])).push (ef "tuple" vs.toArray 0)).push (ef "list" #[] 0)).get? a=some (ef "list" #[] e1):=(ai _ (ai _ o1));show wpAny _ A _ R E {s with heap:=((s.heap.update a (cI λ_=> #[])).push (ef "tuple" vs.toArray 0)).push (ef "list" #[] 0)};dsimp only;have hn:¬vs.toArray.size<2:=by rw[aq];ac_nf
 rw[if_neg hn,if_neg hn,hkk];refine aa (ah ?_);have run:=uW (prog:=prog) (w:=w) (A:=A) (E:=E) (a₀:=fS vs) (s:={s with heap:=(((s.heap.update a (cI λ_=> #[])).push (ef "tuple" vs.toArray 0)).push (ef "list" #[] 0))})
  (st:=b7.mk' gL (vs.toArray.zip vs.toArray) #[] 7 none) (Q:=λ_ st'=>(aQ st').Perm (fS vs)/\iL st'=none/\(aQ st').toList.Pairwise (Le κ)) hO h0
  ⟨rfl,rfl,kM _,rfl,λr hr=>absurd hr (by simp),trivial⟩ λst' a1 a2 a3=>⟨a1,a2,a3⟩
 refine aa (bh run ?_ λ_ _ e=>e);rintro⟨⟨⟩,st'⟩ s' ⟨rfl,hp,hf,hs⟩;dsimp only;have hsz:((aQ st').map (·.2)).size=vs.length:=(Array.size_map ..).trans (hp.size_eq.trans (pairsOf_size _));refine aa (seqEpoch_at o6 rfl (aa (r6 o6 rfl ?_ (hsz2:=by rw[i6];exact bj (Nat.le_of_eq hsz) (by ac_nf)))));rw[hf];simp only[bne_self_eq_false,if_false,fX];exact ah (q (aQ st') hp hs)
theorem vm(hO:κ.OneLt){l:Addr}{vs:List ae}{Q:ae->ag->Prop}(hl:s.heap.IsList l vs.toArray)(hz:vs.length<=16000000)(h0:KeysOf κ (fS vs))(hkk:2<=vs.length->keyKind' vs.toArray=pure gL)
  (q:∀out:Array bf,out.Perm (fS vs)->out.toList.Pairwise (Le κ)->Q (.ref (s.heap.objs.size+1)) {s with heap:=sortedAll s.heap vs (out.map (·.2))}):wpAny (aK prog w) A (call (.builtin "sorted") [.ref l]) Q E s:=by
 refine uV kind_sorted plain_sorted entry_sorted (args_sorted1 _) ?_;unfold Builtin.«sorted»;refine aa (m:=checkCount "sorted" 1 1 _) (ah (aa (collect_list hl (aa (rY ?_)))));have hq:((s.heap.push (ef "list" #[] 0)).update s.heap.objs.size (cI (· ++vs.toArray))).objs.size=s.heap.objs.size+1:=(Heap.size_update ..).trans (size_push' ..);have hL:(((s.heap.push (ef "list" #[] 0)).update s.heap.objs.size (cI (· ++vs.toArray))).push (ef "list" vs.toArray 0)).get? (s.heap.objs.size+1)=some (ef "list" vs.toArray 0):=hq▸aF _ rfl;show wpAny _ _ _ _ _ {s with heap:=((s.heap.push (ef "list" #[] 0)).update s.heap.objs.size (cI (· ++vs.toArray))).push (ef "list" vs.toArray 0)};rw[hq];refine aa (b6 (cr slot_list_sort ⟨_,hL,rfl⟩ entry_list_sort ?_ (args_list_sort _)));by_cases h2:vs.length<2
 ·refine sF hL h2 ⟨_,rfl,ah ⟨_,rfl,?_⟩⟩;have:=q (fS vs) (kM _) (by
   rw[bd];intro i j hi hj hij;rw[aE,pairsOf_size]at hj;ac_nf)
  rw[show(fS vs).map (·.2)=vs.toArray from zip_snds vs]at this;exact this
 ·exact sG hO hL (by ac_nf) hz h0 (hkk (by ac_nf)) λout a1 a2=>⟨_,rfl,ah ⟨_,rfl,q out a1 a2⟩⟩
end
end Tim
namespace Tim
open PySem PyProof.Rows
section
end
end Tim
namespace Tim
open PySem PyProof.Rows
@[reducible] def NM:aP where
 α:=Int
 blt a b:=decide (a<b)
 irrefl a:=by simp
 trans a b c h1 h2:=by simp only[decide_eq_true_eq]at*;ac_nf
 negTrans a b c h:=by simp only[decide_eq_true_eq]at*;ac_nf
 total a b h1 h2:=by simp only[decide_eq_false_iff_not]at*;ac_nf
 keyOf v:=match v with
  | .int n _=>some n
  |_=>none
 dflt:=0
theorem GF:NM.OneLt:=by
 intro prog w A E s x y a b Q hx hy h;cases x with
 |int n t=>
  cases y with
  |int m u=>
   cases hx;cases hy
   exact oneLt_int h
  |_=>cases hy
 |_=>cases hx
theorem oO{vs:List ae}{p:bf}(h:p∈(fS vs).toList):p.1=p.2/\p.2∈vs:=by
 have h':p∈vs.zip vs:=by simpa [fS]using h
 clear h;induction vs with
 |nil=>simp at h'
 |cons v vs ih=>
  rw[List.zip_cons_cons,aw]at h'
  rcases h' with rfl|h'
  ·exact⟨rfl,dB⟩
  ·exact⟨(ih h').1,bC _ (ih h').2⟩
end Tim
namespace Tim
open PySem PyProof.Rows
section
variable{prog:aG}{w:aX}{A:Around}{E:ae->ag->Prop}{s:ag}{κ:aP}
theorem vj(hO:κ.OneLt){it:ae}{C:List ae->ag->Prop}{Q:ae->ag->Prop}
  (hcol:∀(A':Around) (E':ae->ag->Prop) (R:List ae->ag->Prop),A'.handled=A.handled->(∀vs s1,C vs s1->R vs s1)->wpAny (aK prog w) A' (collect it) R E' s)
  (hz:∀vs s1,C vs s1->vs.length<=16000000/\KeysOf κ (fS vs)/\(2<=vs.length->keyKind' vs.toArray=pure gL))
  (q:∀vs s1 (out:Array bf),C vs s1->out.Perm (fS vs)->out.toList.Pairwise (Le κ)->Q (.ref s1.heap.objs.size) {s1 with heap:=sortedHeap (s1.heap.push (ef "list" vs.toArray 0)) s1.heap.objs.size vs (out.map (·.2))}):wpAny (aK prog w) A (call (.builtin "sorted") [it]) Q E s:=by
 refine uV kind_sorted plain_sorted entry_sorted (args_sorted1 _) ?_;unfold Builtin.«sorted»;refine aa (m:=checkCount "sorted" 1 1 _) (ah (aa (hcol _ _ _ rfl λvs s1 hC=> ?_)));obtain⟨z1,z2,z3⟩:=hz vs s1 hC;refine aa (rY ?_ (by rw[i6];ac_nf));have hL:(s1.heap.push (ef "list" vs.toArray 0)).get? s1.heap.objs.size=some (ef "list" vs.toArray 0):=aF _ rfl;show wpAny _ _ _ _ _ {s1 with heap:=s1.heap.push (ef "list" vs.toArray 0)};refine aa (b6 (cr slot_list_sort ⟨_,hL,rfl⟩ entry_list_sort ?_ (args_list_sort _)));by_cases h2:vs.length<2
 ·refine sF hL h2 ⟨_,rfl,ah ⟨_,rfl,?_⟩⟩;have:=q vs s1 (fS vs) hC (kM _) (by
   rw[bd];intro i j hi hj hij;rw[aE,pairsOf_size]at hj;ac_nf)
  rw[show(fS vs).map (·.2)=vs.toArray from zip_snds vs]at this;exact this
 ·exact sG hO hL (by ac_nf) z1 z2 (z3 (by ac_nf)) λout a1 a2=>⟨_,rfl,ah ⟨_,rfl,q vs s1 out hC a1 a2⟩⟩
end
end Tim
namespace L3
open PySem L2 PyProof.Rows Tim
structure SKind(prog:aG)(w:aX)(K:Type)[DecidableEq K] where
 knd:PySem.KeyKind prog w K
 κ:aP
 lt:κ.OneLt
 ky:K->κ.α
 ok:∀{k v},knd.is k v=true->κ.keyOf v=some (ky k)/\v.scannable=true
 ty:∀{vs:List ae} {ks:List K},iN knd.is vs ks->2<=vs.length->keyKind' vs.toArray=pure gL
 pv:K->PV
 vv:K->V
 dv:∀{F:PySem.W.Frag} {H:Hp} {ks:List K} {vs:List V},Dvs F H (ks.map pv) vs->vs=ks.map vv
 vk:∀{ks:List K} {us:List ae},Vals (ks.map vv) us->iN knd.is us ks
 kv:∀{ks:List K} {us:List ae},iN knd.is us ks->Vals (ks.map vv) us
 dd:∀{F:PySem.W.Frag} {H:Hp} (ks:List K),Dvs F H (ks.map pv) (ks.map vv)
section
variable{prog:aG}{w:aX}{K:Type}[DecidableEq K](S:SKind prog w K)
def SKind.le(a b:K):Prop:=S.κ.blt (S.ky b) (S.ky a)=false
theorem uw{f:K->ae->Bool}:∀{vs:List ae} {ks:List K},iN f vs ks->∀{i:Nat} {v:ae},vs[i]? =some v->∃k,ks[i]? =some k/\f k v=true
 |_,_,.cons h r,0,v,e=>by cases e;exact⟨_,rfl,h⟩
 |_,_,.cons h r,i+1,v,e=>uw r (i:=i) (by simpa using e)
theorem Dx{vs:List ae}{ks:List K}(h:iN S.knd.is vs ks):KeysOf S.κ (fS vs):=λp hp=>by
 obtain⟨e,hm⟩:=oO hp;obtain⟨i,hi,e2⟩:=bK.1 hm;obtain⟨k,_,e3⟩:=uw h (i:=i) (v:=p.2) (by rw[au hi,e2]);exact⟨S.ky k,by rw[e];exact(S.ok e3).1⟩
theorem Mv:∀{vs:List ae} {ks:List K},iN S.knd.is vs ks->vs.Pairwise (λx y=>∃a b,S.κ.keyOf x=some a/\S.κ.keyOf y=some b/\S.κ.blt b a=false)->ks.Pairwise S.le
 |_,_,.nil,_=> .nil
 |_,_,.cons (k:=k) (ks:=ks) h r,hp=>by
  obtain⟨h1,h2⟩:=e7.mp hp;refine e7.mpr ⟨λm hm=> ?_,Mv r h2⟩;obtain⟨i,hi⟩:=i9.mp hm;have:∀{vs:List ae} {ks:List K},iN S.knd.is vs ks->∀{i:Nat} {m:K},ks[i]? =some m->∃v∈vs,S.knd.is m v=true:=fun{vs ks} r=>by
   induction r with
   |nil=>intro i m e;simp at e
   |cons h r ih=>
    intro i m e
    cases i with
    |zero=>cases e;exact⟨_,dB,h⟩
    |succ i=>obtain⟨v,a,b⟩:=ih (i:=i) (by simpa using e);exact⟨v,bC _ a,b⟩
  obtain⟨v,hv,hk⟩:=this r hi;obtain⟨a,b,e1,e2,e3⟩:=h1 v hv;rw[(S.ok h).1]at e1;rw[(S.ok hk).1]at e2;cases e1;cases e2;exact e3
theorem HG{vs:List ae}{ks:List K}(h:iN S.knd.is vs ks){out:Array bf}(hp:out.Perm (fS vs))(hs:out.toList.Pairwise (Le S.κ)):
  ∃ms,iN S.knd.is (out.map (·.2)).toList ms/\ms.Perm ks/\ms.Pairwise S.le:=by
 have hl:=gO.mp hp;have hq:(fS vs).toList.map (·.2)=vs:=by
  have:=congrArg Array.toList (Tim.zip_snds vs);simpa [fS]using this
 have h1:(out.map (·.2)).toList.Perm vs:=by
  rw[Array.toList_map];exact(hl.map _).trans (by rw[hq])
 obtain⟨ms,h2,h3⟩:=lU h1 h;refine⟨ms,h2,h3,Mv S h2 ?_⟩;rw[Array.toList_map,List.pairwise_map];refine hs.imp_of_mem fun{x y} hx hy h=> ?_;obtain⟨a,b,h1,h2,h3⟩:=h;have ex:=(oO (hl.mem_iff.1 hx)).1;have ey:=(oO (hl.mem_iff.1 hy)).1;unfold jN at h1 h2;rw[ex]at h1;rw[ey]at h2;exact⟨a,b,h1,h2,h3⟩
def skI:SKind prog w Int where
 knd:=intKind prog w
 κ:=NM
 lt:=GF
 ky k:=k
 ok h:=by obtain⟨t,rfl⟩:=kg h;exact⟨rfl,rfl⟩
 ty {vs ks} h h2:=by
  have e:IntsAre vs ks:=by
   clear h2;induction h with
   |nil=>exact .nil
   |cons h _ ih=>obtain⟨t,rfl⟩:=kg h;exact .cons _ t ih
  match vs,h2,e with
  |_::_::_,_,e=>exact keyKind_ints e
 pv:= .int
 vv:= .int
 dv:=re
 vk h:=by
  have e:=rf h;clear h;induction e with
  |nil=>exact .nil
  |cons n t _ ih=>exact .cons (by simp[intKind,ae.isInt]) ih
 kv h:=by
  induction h with
  |nil=>exact .nil
  |cons h _ ih=>obtain⟨t,rfl⟩:=kg h;exact .cons ⟨t,rfl⟩ ih
 dd:=ux
def skS:SKind prog w Str where
 knd:=PySem.strKind prog w
 κ:=PyProof.Rows.strKind
 lt:=strKind_oneLt
 ky k:=k.cps.toList
 ok h:=by obtain⟨t,rfl⟩:=jC h;exact⟨rfl,rfl⟩
 ty {vs ks} h h2:=by
  have e:l7 vs ks:=by
   clear h2;induction h with
   |nil=>exact .nil
   |cons h _ ih=>obtain⟨t,rfl⟩:=jC h;exact .cons _ t ih
  match vs,h2,e with
  |_::_::_,_,e=>exact keyKind_strs e
 pv:= .str
 vv:= .str
 dv:=v8
 vk h:=by
  have e:=mK h;clear h;induction e with
  |nil=>exact .nil
  |cons n t _ ih=>exact .cons (by simp[PySem.strKind,jc]) ih
 kv h:=by
  induction h with
  |nil=>exact .nil
  |cons h _ ih=>obtain⟨t,rfl⟩:=jC h;exact .cons ⟨t,rfl⟩ ih
 dd:=Bo
end
def ud{K:Type}(pv:K->PV)(le:K->K->Prop)(a:Addr)(G:Gp)(Q:K2):Prop:=∃ks:List K,lk G a=some (ks.map pv)/\ks.length<=16000000/\∀(ms:List K) c,ms.Perm ks->ms.Pairwise le->G c=none->Q (.ref c) (up G c (.lst (ms.map pv)))
def Pn(a b:Str):Prop:=decide (b.cps.toList<a.cps.toList)=false
def Nf(a b:Int):Prop:=decide (b<a)=false
def vn:C2:=λps G Q=>∃a,ps=[.ref a]/\(ud PV.str Pn a G Q\/ud PV.int Nf a G Q)
def qG{K:Type}(pv:K->PV)(le:K->K->Prop)(a:Addr)(G:Gp)(Q:K2):Prop:=∃ks:List K,lk G a=some (ks.map pv)/\ks.length<=4000/\∀(ms:List K) c,ms.Nodup->(∀x,x∈ms↔x∈ks)->ms.Pairwise le->G c=none->Q (.ref c) (up G c (.lst (ms.map pv)))
def sE:U2:=λp G Q=>∃a,p= .ref a/\(qG PV.str Pn a G Q\/qG PV.int Nf a G Q)
section
variable{X:Cx}{e:Expr}{te:E2}{K:Type}[DecidableEq K]
theorem pe(S:SKind X.prog X.w K){pins:List (Addr×Obj)}{σ:L2.St}{H:Hp}{s s':ag}{l:Addr}{out:Array ae}{ms:List K}{ev:Nat}{G:Gp}{Q:VK}{Q2:K2}{H0:Hp}(I:L2.Inv X pins σ H s)(hk:∀b o,s.heap.get? b=some o->s'.heap.get? b=some o)(hg:s'.gens=s.gens)(ho:s'.os=s.os)
  (hn:s.heap.get? l=none) (he:s'.heap.get? l=some (ef "list" out ev)) (hs:iN S.knd.is out.toList ms) (hl:ms.length<=16000000) (rp:Rep X.K H G) (cl:Cl X.K H0 Q2 Q) (k0:Keep X.K H0 H)
  (h:G l=none->Q2 (.ref l) (up G l (.lst (ms.map S.pv)))):EP X pins σ Q (.ref l) s':=by
 have hHl:H l=none:=I.hok.none_of hn;obtain⟨hp',g',d',t',o'⟩:=s';obtain rfl:g'=s.gens:=hg;obtain rfl:o'=s.os:=ho;refine⟨.ref l,upd H l (.lst (ms.map S.vv)),I.call (ch:=[]) (Un.laidN hk hn hHl) (I.hok.laidN hk hHl ?_) I.bare (λb z=>absurd z (by simp)),rfl,cl _ _ _ _ (h (rp.none hHl)) rfl ?_ (k0.trans (cf hHl))⟩
 ·exact⟨by rw[av];exact wu (by ac_nf),out.toList,ev,S.kv hs,by simpa using he⟩
 ·exact rp.new hHl (S.dd ms)
theorem N5(S:SKind X.prog X.w K){pins:List (Addr×Obj)}{σ:L2.St}{H:Hp}{s:ag}{a:Addr}{G:Gp}{Q:VK}{Q2:K2}(I:L2.Inv X pins σ H s)(rp:Rep X.K H G)(h:ud S.pv S.le a G Q2)(cl:Cl X.K H Q2 Q):wpAny (aK X.prog X.w) X.A (call (.builtin "sorted") [.ref a]) (EP X pins σ Q) X.xe s:=by
 obtain⟨ks,hlk,hz,q⟩:=h;obtain⟨vs,sa,da⟩:=gp rp hlk;obtain rfl:=S.dv da;obtain⟨its,r,pl,_⟩:=I.list sa;have hS:=S.vk r;have hl:its.length=ks.length:=by have:=r.length;rw[av]at this;ac_nf
 refine vm S.lt pl.isList (by ac_nf) (Dx S hS) (S.ty hS) λout a1 a2=> ?_;obtain⟨ms,b1,b2,b3⟩:=HG S hS a1 a2;obtain⟨n,he⟩:=sortedAll_at s.heap its (out.map (·.2));refine pe S I (λb o e=>sortedAll_old e) rfl rfl (ny (eR _)) he b1 (by rw[b2.length_eq];exact hz) rp cl .refl λhG=>q ms _ b2 b3 hG
theorem AJ:eT X (.builtin "sorted") (kU X.K vn):=by
 intro pins s σ H xs us Q I rs h;obtain⟨ps,G,Q2,d,rp,h,cl⟩:=h;obtain⟨a,rfl,h⟩:=h;obtain⟨v,rfl,dv⟩:=en d;obtain rfl:v= .ref a:=dv;obtain⟨u,rfl,ru⟩:=rs.one;cases ru;rcases h with h|h
 ·exact N5 (K:=Str) skS I rp h cl
 ·exact N5 (K:=Int) skI I rp h cl
theorem xF{es:List Expr}{t:A2}{p pos:Pos}(B:BN X.mg)(ha:JA X (e::es) t)(hg:autoParam (Gl X "sorted") Qa)(he:autoParam (ao (e::es) X.env=(false,eval e X.env)::ao es X.env) Qa)(hpl:autoParam ((bZ pos (ao es X.env)).any (·.1)=false) Qa):JE X (.Call (.Name "sorted" p) (e::es) [] pos) (v7 vn t):=jj AJ B.sorted pB ha hg (by decide) (by decide) he hpl
theorem Ma(S:SKind X.prog X.w K)(hc:X.calm=true){pins:List (Addr×Obj)}{σ:L2.St}{H:Hp}{s:ag}{a:Addr}{G:Gp}{Q:VK}{Q2:K2}{H0:Hp}{R:ae->ag->Prop}(I:L2.Inv X pins σ H s)(rp:Rep X.K H G)(h:qG S.pv S.le a G Q2)(cl:Cl X.K H0 Q2 Q)(k0:Keep X.K H0 H)
  (hR:∀v s',wpAny (aK X.prog X.w) X.A (call (.builtin "sorted") [v]) (EP X pins σ Q) X.xe s'->R v s'):wpAny (aK X.prog X.w) X.A (call (.type "set") [.ref a]) R X.xe s:=by
 obtain⟨ks,hlk,hz,q⟩:=h;have hh:X.A.handled=none:=I.ok.hd hc;obtain⟨vs,sa,da⟩:=gp rp hlk;obtain rfl:=S.dv da;obtain⟨its,r,pl,_⟩:=I.list sa;have hS:=S.vk r;have hl:its.length=ks.length:=by have:=r.length;rw[av]at this;ac_nf
 refine xO (knd:=S.knd) ks pl.isList (λi v e=> ?_) (by simpa using hl) hh (by show ks.length+1<4096;ac_nf) λh' tk k2 hT hkl hmem hkp=>hR _ _ ?_
 ·obtain⟨k,e1,e2⟩:=uw hS (i:=i) (v:=v) (by simpa using e);exact⟨k,e1,e2,(S.ok e2).2⟩
 have hnd:k2.Nodup:=by obtain⟨_,_,_,_,_,_,_,_,_,_,hn⟩:=hT;exact hn
 refine vj S.lt (C:=λvs s'=>∃ks',(∀b o,h'.get? b=some o->s'.heap.get? b=some o)/\s'.gens=s.gens/\s'.os=s.os/\iN S.knd.is vs ks'/\ks'.Perm k2) (λA' E' R' hA hR'=> ?_) (λvs s' ⟨k3,_,_,_,hv,hp⟩=> ?_) λvs s' out ⟨k3,hk,hg,ho,hv,hp⟩ a1 a2=> ?_
 ·exact AD (s:={s with heap:=h',toks:=tk}) (by rw[hA];exact hh) hT λs' acc ks' b1 b2 b3 b4 b5=>hR' _ _ ⟨ks',b1,b2,b3,b4,b5⟩
 ·have:=qY (knd:=S.knd) hv;have:=hp.length_eq;exact⟨by ac_nf,Dx S hv,S.ty hv⟩
 ·obtain⟨ms,b1,b2,b3⟩:=HG S hv a1 a2;have hoL:(s'.heap.push (ef "list" vs.toArray 0)).get? s'.heap.objs.size=some (ef "list" vs.toArray 0):=aF _ rfl;obtain⟨e,he⟩:=sortedHeap_at (out:=out.map (·.2)) hoL;have kp:∀b o,s.heap.get? b=some o->s'.heap.get? b=some o:=λb o q=>hk b o (hkp b o (aA q) q);have kq:∀b o,s.heap.get? b=some o->(sortedHeap (s'.heap.push (ef "list" vs.toArray 0)) s'.heap.objs.size vs (out.map (·.2))).get? b=some o:=λb o q=>by
   have q':=kp b o q;have hb:b<s'.heap.objs.size:=aA q';rw[sortedHeap_old (aN hb) (aA (ai _ q'))];exact ai _ q'
  have hn:s.heap.get? s'.heap.objs.size=none:=by
   cases e:s.heap.get? s'.heap.objs.size with
   |none=>rfl
   |some o=>
    have:=kp _ o e
    rw[ny (ap _)]at this
    cases this
  have hm2:∀x,x∈ms↔x∈ks:=λx=>by rw[(b2.trans hp).mem_iff];exact hmem x
  have hnd2:=(b2.trans hp).nodup_iff.mpr hnd;have hl2:ms.length<=16000000:=by rw[b2.length_eq,hp.length_eq];ac_nf
  exact pe S I kq hg ho hn he b1 hl2 rp cl k0 λhG=>q ms _ hnd2 hm2 b3 hG
theorem vH{tE:TE}{p1 p2 pos pos2:Pos}(B:BN X.mg)(hc:X.calm=true)(he:PE X e tE)(hg:autoParam (Gl X "sorted") Qa)(hg2:autoParam (Gl X "set") Qa)
  (hs1:autoParam (ao [Expr.Call (.Name "set" p2) [e] [] pos2] X.env=[(false,eval (Expr.Call (.Name "set" p2) [e] [] pos2) X.env)]) Qa) (hs2:autoParam (ao [e] X.env=[(false,eval e X.env)]) Qa):
  PE X (.Call (.Name "sorted" p1) [.Call (.Name "set" p2) [e] [] pos2] [] pos) (λσ H Q=>tE σ H (J9 X.K sE · · Q)):=by
 intro pins s σ H Q I h;refine dH (mS (u:= .builtin "sorted") I hg B.sorted pB ?_);refine nt ?_ (by rw[hs1];rfl) (by rfl);rw[hs1];refine o5 ?_;refine dH (mS (u:= .type "set") I hg2 B.set Eh ?_);refine fM ?_ (by rw[hs2];rfl) (by rfl);rw[hs2];refine o5 (fF (he pins s σ H _ I h) λu s1 ⟨x,H1,I1,r1,q1⟩=>ki ?_);obtain⟨pv,G,Q2,d1,rp,⟨a,rfl,q⟩,cl⟩:=q1;obtain rfl:x= .ref a:=d1;cases r1;rcases q with q|q
 ·exact Ma (K:=Str) skS hc I1 rp q cl .refl λv s' h=>ki h
 ·exact Ma (K:=Int) skI hc I1 rp q cl .refl λv s' h=>ki h
theorem xG{p1 p2 pos pos2:Pos}(B:BN X.mg)(hc:X.calm=true)(he:JE X e te)(hg:autoParam (Gl X "sorted") Qa)(hg2:autoParam (Gl X "set") Qa)
  (hs1:autoParam (ao [Expr.Call (.Name "set" p2) [e] [] pos2] X.env=[(false,eval (Expr.Call (.Name "set" p2) [e] [] pos2) X.env)]) Qa) (hs2:autoParam (ao [e] X.env=[(false,eval e X.env)]) Qa):
  JE X (.Call (.Name "sorted" p1) [.Call (.Name "set" p2) [e] [] pos2] [] pos) (eUn sE te):= .of (vH B hc he.h hg hg2 hs1 hs2) λσ H Q ⟨τ,G,Q2,rs,rp,q,cl⟩=>
 ⟨τ,G,_,rs,rp,q,λp1 G1 v1 H1 q1 d1 r1 k1=>⟨p1,G1,Q2,d1,r1,q1,cl.keep k1⟩⟩
end
end L3
namespace L2
open PySem PySem.Spec PyProof.Rows
def Ip(sp:Sp)(t:TA)(C:Addr)(i j:Nat)(tb:TS):TS:=λD σ H=>t σ H λvs H1=>sp vs H1 (λv H2=>D.nx (σ.set i (some v)) H2) λ_ _ H2=>(∀b xs,H1 b=some (.tup xs)->H2 b=some (.tup xs))->(∀b o u,H1 b=some (.frz o u)->H2 b=some (.frz o u))->∀x,H2 x=none->tb (D.drop j) (σ.set j (some (.ref x))) (upd H2 x (v5 x C))
theorem B8{X:Cx}{C G:Addr}{k i j:Nat}{f:Addr}{fd:bb}{ps:List Str}{sp:Sp}{y xf xc n:Str}{p pos np yp p1 p3 p4:Pos}{e:Expr}{es:List Expr}{t:TA}{b0:Stmt}{suite:List Stmt}{tb:TS}{env:Env}{outer:List Env}(hst:X.stack=env::outer)(henv:X.env=env)
  (F:FnOk X.prog X.w X.K X.mg X.base (oF X.prog X.w C) k f fd ps sp) (hr:Room k X.A) (hg:Gl X xf) (hm:X.mg xf=some (.ref f)) (hk:PySem.W.keepIn X.K (.ref f)=true) (hb:Binds X.K fd ps [])
  (q:PySem.W.excIn X.K C su "ValueError.__new__" =true) (qg:PySem.W.excIn X.K G su "ValueError.__new__" =true) (hup:nh X.K C G=true) (hgc:Gl X xc) (hmc:X.mg xc=some (.ref G)) (hN:X.N.Nodup) (hj:X.N[j]? =some n) (hl:X.env.scope.names.lookup n=some .local)
  (hi:X.N[i]? =some y) (hy:X.env.scope.names.lookup y=some .local)
  (ha:PA X.nox (e::es) t) (hs:∀x:Addr,PSs (X.inX (.ref x)) (b0::suite) tb) (hdb:autoParam ((xf==("__debug__" :Str))=false) Qc) (hdc:autoParam ((xc==("__debug__" :Str))=false) Qc)
  (he:autoParam (ao (e::es) X.env=(false,eval e X.env)::ao es X.env) Qa) (hpl:autoParam ((bZ pos (ao es X.env)).any (·.1)=false) Qa) (hsw:autoParam (ir (.Call (.Name xf p) (e::es) [] pos) (some (.Name y yp)) p1.line X.env=pure false) Qa):
  PS X (.Try [.Assign [.Name y yp] (.Call (.Name xf p) (e::es) [] pos) p1] [.ExceptHandler (some (.Name xc np)) (some n) (b0::suite) p3] [] [] p4) (Ip sp t C i j tb):=by
 intro pins s σ H D I h;refine wpAny_Try_except ?_;refine wpAny_execs_cons (wpAny_Assign_Name ?_ hsw);refine dH (kx I hg hm ?_ hdb);refine PySem.W.callWith_K (h₀:=X.base) I.ok.mod.kin hk (bh (ha pos pins s σ H _ (I.wish _) h) (λus s1 h1=> ?_) λ_ _ z=>z.elim) he hpl;obtain⟨vs,H1,I1,r,q1⟩:=h1;have I2:=I1.unwish;refine⟨I2.kIn,?_⟩;have hl':(us++[]).length=ps.length:=by rw[dz,<-r.length];exact F.len _ _ _ _ q1
 refine nD (jl (F.run X.A X.stack s1 H1 ⟨us,[]⟩ (us++[]) vs _ _ hr I2.env0 (hb s1 us I2.kIn hl') (by rw[dz];exact r) q1) λres s' hq=> ?_);cases res with
 |ok fl=>
  cases fl with
  |ret u=>
   obtain⟨v,H',I',r',q'⟩:=I2.after hq
   exact j5 I' hN hi (.inl hy) r' (λs2 J=>iR (iR ⟨_,H',J,q'⟩)) (.inr hy)
  |next=>exact bV hq
  |brk=>exact bV hq
  |cont=>exact bV hq
 |error ex=>
  have hq':oF X.prog X.w C X.stack H1 s1 (λ_ _ H2=>(∀b xs,H1 b=some (.tup xs)->H2 b=some (.tup xs))->(∀b o u,H1 b=some (.frz o u)->H2 b=some (.frz o u))->∀x,H2 x=none->tb (D.drop j) (σ.set j (some (.ref x))) (upd H2 x (v5 x C))) ex s':=hq
  exact AE hst henv I2 hq' q qg hup hgc hmc hN hj hl (λH' x hE tt ff hx=>hE tt ff x hx) hs hdc
end L2
namespace L3
open PySem L2 PySem.Spec PyProof.Rows
abbrev IG(sp:uN)(t:A2)(C:Addr)(i j:Nat)(tb:S2):S2:=λD τ G=>t τ G λps G1=>sp ps G1 (λp G2=>D.nx (st τ i (some p)) G2) λG2=>∀x,G2 x=none->tb (D.drop j) (st τ j (some (.ref x))) (up G2 x (.exc C))
theorem Dy{X:Cx}{C G:Addr}{k k' i j:Nat}{f:Addr}{fd:bb}{ps:List Str}{sp:uN}{y xf xc n:Str}{p pos np yp p1 p3 p4:Pos}{e:Expr}{es:List Expr}{t:A2}{b0:Stmt}{suite:List Stmt}{tb:S2}{outer:List Env}
  (Cl:LI X.prog X.w X.K X.mg X.base C k xf f fd ps sp) (hr:Room k' X.A) (hk:k<=k') (q:PySem.W.excIn X.K C su "ValueError.__new__" =true) (qg:PySem.W.excIn X.K G su "ValueError.__new__" =true) (hup:nh X.K C G=true) (hmc:X.mg xc=some (.ref G)) (hN:X.N.Nodup)
  (ha:JA X.nox (e::es) t) (hs:∀x:Addr,JB (X.inX (.ref x)) (b0::suite) tb) (hj:autoParam (X.N[j]? =some n) Qa) (hl:autoParam (X.env.scope.names.lookup n=some .local) Qa) (hi:autoParam (X.N[i]? =some y) Qa) (hy:autoParam (X.env.scope.names.lookup y=some .local) Qa) (hst:autoParam (X.stack=X.env::outer) Qa)
  (hg:autoParam (Gl X xf) Qa) (hgc:autoParam (Gl X xc) Qa) (hdb:autoParam ((xf==("__debug__" :Str))=false) Qc) (hdc:autoParam ((xc==("__debug__" :Str))=false) Qc)
  (he:autoParam (ao (e::es) X.env=(false,eval e X.env)::ao es X.env) Qa) (hpl:autoParam ((bZ pos (ao es X.env)).any (·.1)=false) Qa) (hsw:autoParam (ir (.Call (.Name xf p) (e::es) [] pos) (some (.Name y yp)) p1.line X.env=pure false) Qa):
  JS X (.Try [.Assign [.Name y yp] (.Call (.Name xf p) (e::es) [] pos) p1] [.ExceptHandler (some (.Name xc np)) (some n) (b0::suite) p3] [] [] p4) (IG sp t C i j tb):=⟨λpins s1 σ H1 D I h=>by
 obtain⟨τ,G1,D2,rs,rp,q2,cl⟩:=h;refine B8 (tb:=Dq X.K tb) hst rfl (Cl.ok.mono hk) hr hg Cl.m Cl.kp Cl.b q qg hup hgc hmc hN hj hl hi hy ha.h (λx=>(hs x).h) hdb hdc he hpl hsw pins s1 σ H1 D I ⟨τ,G1,_,rs,rp,q2,λps G2 vs H2 q3 d3 r3 k3=> ?_⟩;refine⟨ps,G2,_,_,d3,r3,q3,λv G3 v' H3 q4 d4 r4 k4=>cl.nx _ _ _ _ q4 ((rs.keep (k3.trans k4)).set d4 i) r4 (k3.trans k4),λG3 H3 q4 r4 tt ff x hx=> ?_⟩;have k4:Keep X.K H2 H3:=Ga tt ff;have k5:Keep X.K H3 (upd H3 x (v5 x C)):=cf hx;have k6:=(k3.trans k4).trans k5;refine⟨_,_,D2.drop j,(rs.keep k6).set (p:= .ref x) (v:= .ref x) rfl j,r4.upd k5 (λa o e ne=>by rw[cz ne]at e;exact e) (λo e=>by rw[aC]at e;cases e;exact eA),q4 x (r4.none hx),((cl.drop j).keep k6)⟩⟩
def PL(t u:E2):E2:=λτ G Q=>t τ G λx G1=>match x with
 | .tup xs=>xs.length<=16000000/\kl (!xs.isEmpty) (Q (.tup xs) G1) (u τ G1 Q)
 | .non=>u τ G1 Q
 |_=>False
section
variable{X:Cx}{a b c:Expr}{ta tb tc:E2}{pos:Pos}
theorem Ny(ha:JE X a ta)(hb:JE X (.BoolOp .Or [b] pos) tb):JE X (.BoolOp .Or [a,b] pos) (PL ta tb):=⟨λpins s σ H Q I h=>by
 obtain⟨τ,G,Q2,rs,rp,q,cl⟩:=h;refine PyProof.Rows.BoolOp_or (fF (ha.h pins s σ H _ I ⟨τ,G,_,rs,rp,q,λp G1 v H1 q1 d1 r1 k1=>(show∃(p:PV) (G1:Gp),(match p with
  | .tup xs=>xs.length<=16000000/\kl (!xs.isEmpty) (Q2 (.tup xs) G1) (tb τ G1 Q2)
  | .non=>tb τ G1 Q2
  |_=>False)/\Dv X.K H1 p v/\Rep X.K H1 G1/\Keep X.K H H1 from⟨p,G1,q1,d1,r1,k1⟩)⟩) λv s1 ⟨x,H1,I1,r1,p,G1,q1,d1,rp1,k1⟩=> ?_)
 cases p with
 |tup xs=>
  obtain⟨hl,q2⟩:=q1
  obtain⟨l,ws,rfl,sa,da⟩:=d1
  cases r1
  obtain⟨its,r,pl,hz⟩:=I1.tuple sa
  have hln:its.length=xs.length:=by rw[<-da.length];exact r.length.symm
  refine PyProof.Rows.truthy_tuple pl (by simp;ac_nf) ?_
  cases xs with
  |nil=>
   have e:its=[]:=cY hln
   subst e
   exact pK (hb.h pins _ σ H1 Q (I1.tok _) ⟨τ,G1,Q2,rs.keep k1,rp1,q2,cl.keep k1⟩)
  |cons y ys=>
   cases its with
   |nil=>simp at hln
   |cons u us=>exact q9 ⟨.ref l,H1,I1.tok _,rfl,cl (.tup (y::ys)) _ _ _ q2 ⟨l,ws,rfl,sa,da⟩ rp1 k1⟩
 |non=>
  obtain rfl:x= .non:=d1
  cases r1
  refine PyProof.Rows.truthy_none ?_
  exact pK (hb.h pins _ σ H1 Q I1 ⟨τ,G1,Q2,rs.keep k1,rp1,q1,cl.keep k1⟩)
 |_=>exact q1.elim⟩
theorem Gc(ha:JE X a ta)(hb:JE X b tb)(hc:JE X c tc)(hm:autoParam (mT [.Lt,.Lt] [b,c]=false) Qi):JT X (.Compare a [.Lt,.Lt] [b,c] pos) (zK (oZ LK LK ta tb tc)):=vR FM FM ha hb hc hm
end
end L3
namespace T89
open PySem L2 L3
def cx(l:List Nat):Str:=⟨l.toArray⟩
def gR(c:Nat):List Nat:=if c=93\/c=92 then[92,c]else[c]
def eU(l:List Nat):List Nat:=(l.map gR).flatten
def Ot(s:Str):List Nat:=91::(eU s.cps.toList++[93])
def nY(sep:List Nat):List (List Nat)->List Nat
 |[]=>[]
 |z::r=>match r with
  |[]=>z
  |_::_=>z++sep++nY sep r
def v4:Nat->Nat->List Nat->List Nat
 |0,_,acc=>acc
 |f+1,n,acc=>if n<10 then(48+n)::acc else v4 f (n/10) ((48+n%10)::acc)
def jR(i:Int):List Nat:=v4 20 i.toNat []
mutual
def dY:Pt->List Nat
 | .none=>[33]
 | .blank=>[45]
 | .sign s=>Ot s
 | .row ps=>40::(nY [32] (g9 ps)++[41])
 | .pick ps=>40::(nY [32,124,32] (g9 ps)++[41])
 | .again p=>42::dY p
 | .held n p=>n.cps.toList++58::dY p
 | .price n p=>jR n++36::dY p
def g9:List Pt->List (List Nat)
 |[]=>[]
 |p::ps=>dY p::g9 ps
end
def hZ(T:List Nat)(e:Nat)(x:List Nat):Bool:=((T.drop e).take x.length)==x
def eE(among:Nat->Bool)(T:List Nat)(e:Nat):Nat:=e+((T.drop e).takeWhile among).length
def cF(c:Nat):Bool:=decide (97<=c)&&decide (c<=122)
def bS(c:Nat):Bool:=decide (48<=c)&&decide (c<=57)
def cut(T:List Nat)(a b:Nat):List Nat:=(T.drop a).take (b-a)
def lq(l:List Nat):Int:=((l.foldl (λn c=>n*10+(c-48)) 0:Nat):Int)
inductive Rd (α:Type) where
 |ok (x:α) (e:Nat)|no|out
def lm(T:List Nat):Nat->Nat->List Nat->Rd (List Nat)
 |0,_,_=> .out
 |f+1,e,acc=>if hZ T e [93]then .ok acc (e+1)else
  let e1:=if hZ T e [92]then e+1 else e
  match T[e1]? with
  |none=> .no
  |some c=>lm T f (e1+1) (acc++[c])
def kr(g:Nat->Rd Pt)(T:List Nat)(sep:List Nat):Nat->Nat->List Pt->Rd (List Pt)
 |0,_,_=> .out
 |f+1,e,acc=>if hZ T e [41]then .ok acc (e+1)else
  if hZ T e sep then match g (e+sep.length)with
   | .ok p e2=>kr g T sep f e2 (acc++[p])
   | .no=> .no
   | .out=> .out
  else .no
def gd(T:List Nat):Nat->Nat->Rd Pt
 |0,_=> .no
 |d+1,e=>match T[e]? with
  |none=> .no
  |some c=>
   if c=91 then match lm T (T.length+1) (e+1) []with
    | .ok s e2=> .ok (.sign (cx s)) e2
    | .no=> .no
    | .out=> .out
   else if c=40 then match gd T d (e+1)with
    | .ok p e1=>
     let b:=hZ T e1 [32,124,32]
     match kr (gd T d) T (if b then[32,124,32]else[32]) (T.length+1) e1 [p]with
     | .ok ps e2=> .ok (if b then .pick ps else .row ps) e2
     | .no=> .no
     | .out=> .out
    | .no=> .no
    | .out=> .out
   else if cF c then
    let e1:=eE cF T e
    if hZ T e1 [58]then match gd T d (e1+1)with
     | .ok p e2=> .ok (.held (cx (cut T e e1)) p) e2
     | .no=> .no
     | .out=> .out
    else .no
   else if bS c then
    let e1:=eE bS T e
    if hZ T e1 [36]then
     if e1-e<=600 then match gd T d (e1+1)with
      | .ok p e2=> .ok (.price (lq (cut T e e1)) p) e2
      | .no=> .no
      | .out=> .out
     else .out
    else .no
   else if c=42 then match gd T d (e+1)with
    | .ok p e2=> .ok (.again p) e2
    | .no=> .no
    | .out=> .out
   else if c=45 then .ok .blank (e+1)
   else if c=33 then .ok .none (e+1)
   else .no
def sm(p:Pt):Bool:=decide (depth p<=9)&&decide (size p<=40)&&(makes p).all (λc=>k9 (dh c))&&(makes p).all Ia
def uS(T:List Nat):Rd Pt:=match gd T 9 0 with
 | .ok p e=>if sm p&&(dY p==T)then .ok p e else .no
 | .no=> .no
 | .out=> .out
theorem IM{T:List Nat}{p:Pt}{e:Nat}(h:uS T= .ok p e):dY p=T/\sm p=true:=by
 unfold uS at h;split at h
 ·split at h
  ·rename_i hb;cases h;rw[aB]at hb;exact⟨by simpa using hb.2,hb.1⟩
  ·cases h
 ·cases h
 ·cases h
local macro_rules | `(tactic| left) => `(tactic| with_reducible conv => whnf)
local macro_rules | `(tactic| exists $e:term) => `(tactic| (left; refine $e))
local macro_rules | `(tactic| ext) => `(tactic| (left; refine cV rfl rfl (jK rfl ?_)))
local macro_rules | `(tactic| nofun) => `(tactic| (left; refine fA rfl ?_))
local macro_rules | `(tactic| symm) => `(tactic| repeat' first
 | (show JE _ _ _; first
  | (show JE _ (.Attribute _ _ _) _; refine' NG ‹_› ‹_› ?_)
  | (show JE _ (.Name _ _) _; first
    | exact jv 0
    | exact jv 1
    | exact jv 2
    | exact jv 3
    | exact jv 4
    | exact jv 5
    | exact jv 6
    | exact jv 7
    | exact jv 8
    | exact jv 9
    | exact Kp ‹_›
    | exact Gk ‹_›
    | exact Ko ‹_›
    | exact DC ‹_›
    | exact KT ‹_›
    | exact KR ‹_›
    | exact KS ‹_›
    | exact Nn ‹_›)
  | (show JE _ (.Constant _ _ _) _; first
    | exact NE
    | exact Nw
    | exact Pv
    | exact NB)
  | (show JE _ (.BinOp _ _ _ _) _; first
    | (show JE _ (.BinOp (.Name "script" _) .Add _ _) _; refine' Pq ?_ ?_)
    | (show JE _ (.BinOp (.Constant (.str _) _ _) .Mult _ _) _; refine' jmS ‹_› ?_ ?_)
    | refine' jaE ‹_› ?_ ?_
    | refine' KG ?_ ?_
    | refine' KL ?_ ?_
    | refine' KM ?_ ?_
    | refine' Gw ?_ ?_
    | refine' KH ?_ ?_)
  | (show JE _ (.Compare _ _ _ _) _; first
    | refine' Nu ‹_› ?_ ?_
    | refine' No ‹_› ?_ ?_
    | refine' Np ?_ ?_
    | refine' Nq ?_ ?_
    | refine' Nt ?_ ?_
    | refine' Nr ?_ ?_ rfl
    | refine' DD ?_ ?_ rfl
    | refine' Gq ?_ ?_ ?_)
  | (show JE _ (.UnaryOp _ _ _) _; first
    | refine' NA ?_
    | refine' Pr LV ?_)
  | (show JE _ (.BoolOp _ _ _) _; first
    | (show JE _ (.BoolOp .Or [.Call _ _ _ _, .Constant _ _ _] _) _; refine' Ny ?_ ?_)
    | refine' NI ?_ ?_
    | refine' Ps ?_ ?_
    | refine' Nz ?_)
  | (show JE _ (.IfExp _ _ _ _) _; refine' NF ?_ ?_ ?_)
  | (show JE _ (.List _ _) _; refine' NC ?_)
  | (show JE _ (.Tuple _ _ _) _; refine' Nv ?_)
  | (show JE _ (.Subscript _ _ _) _; first
    | (show JE _ (.Subscript _ (.Slice _ _ _ _) _) _; first
     | refine' Nx ?_
     | refine' jsE ‹_› ?_ ?_ ?_)
    | refine' ND ?_ ?_)
  | (show JE _ (.Call _ _ _ _) _; first
    | (show JE _ (.Call (.Attribute _ _ _) _ _ _) _; first
     | refine' KU ‹_› ‹_› ?_
     | refine' Ap ?_ ?_
     | refine' Ao ?_ ?_
     | refine' Gn ?_ ?_
     | refine' Go ?_ ?_
     | refine' Kq ?_
     | refine' DJ yT ‹_› ‹_› ‹_› (by first | assumption | omega) ?_ ?_
     | refine' DJ ‹_› ‹_› ‹_› ‹_› (by first | assumption | omega) ?_ ?_
     | refine' KP ‹_› ‹_› (by first | assumption | omega) ?_ ?_
     | refine' GA yT ‹_› ‹_› ‹_› (by first | assumption | omega) ?_)
    | (show JE _ (.Call (.Name "isinstance" _) [.Name "caught" _, _] _ _) _; refine' KB ‹_› ?_)
    | (show JE _ (.Call (.Name _ _) [.Call (.Name _ _) _ _ _] _ _) _; refine' xG ‹_› rfl ?_)
    | (show JE _ (.Call (.Name _ _) [] _ _) _; refine' KW ‹_› ‹_› (by first | assumption | omega))
    | (show JE _ (.Call (.Name _ _) [.Compare _ _ _ _] _ _) _; refine' DG ‹_› ?_)
    | (show JE _ (.Call (.Name _ _) [.BoolOp _ _ _] _ _) _; refine' DG ‹_› ?_)
    | (show JE _ (.Call (.Name _ _) _ _ _) _; first
     | refine' Kx ‹_› rfl ?_
     | refine' Kw ‹_› ?_
     | refine' xF ‹_› ?_
     | refine' jlS ‹_› ‹_› rfl ?_
     | refine' NH ‹_› ‹_› (by first | assumption | omega) ?_
     | refine' KQ ‹_› ‹_› ‹_› ‹_› (by first | assumption | omega) ‹_› ?_
     | refine' KA ‹_› ?_
     | refine' Gu ‹_› ?_
     | refine' KD ‹_› rfl ?_
     | refine' KC ‹_› rfl ?_
     | refine' Ky ‹_› rfl ?_
     | refine' Kv ‹_› rfl ?_
     | refine' DF ‹_› ?_
     | refine' Gs ‹_› ?_)))
 | (show JA _ _ _; first
   | exact KN
   | refine' Gz ?_ ?_)
 | (show JB _ _ _; first
   | exact KJ
   | refine' KI ?_
   | refine' Gx ?_ ?_)
 | (show JT _ _ _; first
  | (show JT _ (.Compare _ _ _ _) _; first
    | refine' Nl ‹_› ?_ ?_
    | refine' Nh ‹_› ?_ ?_
    | refine' Ni ?_ ?_
    | refine' Nk ?_ ?_
    | refine' Nj ?_ ?_ rfl
    | refine' Kk ?_ ?_ rfl
    | refine' Gf ?_ ?_ rfl
    | refine' Gd ?_ ?_ ?_
    | refine' Gc ?_ ?_ ?_)
  | (show JT _ (.UnaryOp _ _ _) _; first
    | refine' Kj ?_)
  | (show JT _ (.BoolOp _ _ _) _; refine' Pp ?_)
  | refine' Ki ?_)
 | (show JS _ _ _; first
  | (show JS _ (.Assign _ _ _) _; first
    | (show JS _ (.Assign [.Name _ _] _ _) _; first
     | refine' ED 0 ?_ ‹_›
     | refine' ED 1 ?_ ‹_›
     | refine' ED 2 ?_ ‹_›
     | refine' ED 3 ?_ ‹_›
     | refine' ED 4 ?_ ‹_›
     | refine' ED 5 ?_ ‹_›
     | refine' ED 6 ?_ ‹_›
     | refine' ED 7 ?_ ‹_›
     | refine' ED 8 ?_ ‹_›
     | refine' ED 9 ?_ ‹_›)
    | (show JS _ (.Assign [.Attribute _ _ _] _ _) _; refine' Kn ‹_› ‹_› ?_ ?_)
    | (show JS _ (.Assign [.Tuple _ _ _] _ _) _; refine' DB ?_ ?_)
    | (show JS _ (.Assign [.Subscript _ _ _] _ _) _; refine' DB ?_ (Kt ?_ ?_ Mc)))
  | (show JS _ (.AugAssign _ _ _ _) _; first
    | (show JS _ (.AugAssign (.Attribute _ _ _) _ _ _) _; refine' Am ‹_› ‹_› ?_ ?_)
    | (show JS _ (.AugAssign (.Name _ _) _ _ _) _; first
     | refine' oU (n := 0) sQ ?_ ‹_› rfl (by first | exact Or.inl rfl | exact Or.inr rfl)
     | refine' oU (n := 1) sQ ?_ ‹_› rfl (by first | exact Or.inl rfl | exact Or.inr rfl)
     | refine' oU (n := 2) sQ ?_ ‹_› rfl (by first | exact Or.inl rfl | exact Or.inr rfl)
     | refine' oU (n := 3) sQ ?_ ‹_› rfl (by first | exact Or.inl rfl | exact Or.inr rfl)
     | refine' oU (n := 4) sQ ?_ ‹_› rfl (by first | exact Or.inl rfl | exact Or.inr rfl)
     | refine' oU (n := 5) sQ ?_ ‹_› rfl (by first | exact Or.inl rfl | exact Or.inr rfl)))
  | (show JS _ (.Try _ _ _ _ _) _; first
    | (show JS _ (.Try [.Assign _ _ _] _ _ _ _) _; refine' Dy (i := 2) (j := 3) ‹_› ‹_› (by first | assumption | omega) ‹_› ‹_› ‹_› ‹_› ‹_› ?_ (λ_ => ?_)))
  | (show JS _ (.Raise _ _ _) _; refine' Dz ‹_› ‹_› ‹_› ?_)
  | (show JS _ (.Return _ _) _; first
    | (show JS _ (.Return (some _) _) _; refine' Km ?_))
  | (show JS _ (.If _ _ _ _) _; refine' Nm ?_ ?_ ?_)
  | (show JS _ (.For _ _ _ _ _) _; first
    | (show JS _ (.For _ _ _ [] _) _; first
     | refine' DA PassesOwn.never rfl ?_ ?_ ?_
     | refine' DA PassesOwn.leaving rfl ?_ ?_ ?_))
  | (show JS _ (.While _ _ _ _) _; first
    | (show JS _ (.While _ _ [] _) _; first
     | refine' vS PassesOwn.never ?_ ?_
     | refine' vS PassesOwn.leaving ?_ ?_))
  | (show JS _ (.Expr _ _) _; refine' Gh ?_)
  | exact Gg)
 | (show JG _ _ _; first
  | (show JG _ (.Name _ _) _; first
    | exact EE 0 ‹_›
    | exact EE 1 ‹_›
    | exact EE 2 ‹_›
    | exact EE 3 ‹_›
    | exact EE 4 ‹_›
    | exact EE 5 ‹_›
    | exact EE 6 ‹_›
    | exact EE 7 ‹_›
    | exact EE 8 ‹_›
    | exact EE 9 ‹_›)
  | (show JG _ (.Tuple _ _ _) _; first
    | exact vU 0 ‹_›
    | exact vU 1 ‹_›
    | exact vU 2 ‹_›
    | exact vU 3 ‹_›
    | exact vU 4 ‹_›
    | exact vU 5 ‹_›
    | exact vU 6 ‹_›
    | exact vU 7 ‹_›))
 | (show JO _ _ _; first
   | exact Gj
   | refine' Gi ?_)
 | (show JW _ _ _; first
   | refine' Ng ?_ ?_
   | refine' Kh ?_ ?_
   | refine' Kg ?_
   | refine' Gb ?_)
 | (show JI _ _ _ _; first
  | (show JI _ _ (.Call _ _ _ _) _; first
    | (show JI _ _ (.Call (.Name _ _) _ _ _) _; first
     | refine' Ks (BN.zip ‹_›) ?_
     | refine' Aq (BN.range ‹_›) ?_
     | refine' y9 ?_))
  | refine' y9 ?_)
 | (show JF _ _ _; exact Ku))
def ic(names:List (Str×eW)):gu:={kind:= .function,names:=names,isGenerator:=false,isCoroutine:=false,more:=[]}
abbrev Ba:Stmt:=jk (top 31) 0
abbrev Ik:Stmt:=jk (top 31) 1
abbrev wB:Stmt:=jk (top 31) 2
def lP(T:List Nat)(e:Nat):List (Str×PV):=[("signs",.str (cx T)),("at",.int e)]
theorem aV(l:List Nat):(cx l).length=l.length:=by
 show l.toArray.size=_;rw[aq]
theorem iU(s:Str):cx s.cps.toList=s:=by
 show(⟨s.cps.toList.toArray⟩:Str)=s;rw[Array.toArray_toList]
theorem gU(l:List Nat):(cx l).cps.toList=l:=List.toList_toArray
theorem FT{a b:List Nat}(h:cx a=cx b):a=b:=by rw[<-gU a,h,gU]
theorem yw{x:Str}{e:Option Int}{j:Int}(hj:(x.length:Int)<=j):bO x e (some j)=bO x e (some (x.length:Int)):=by
 have h:PySem.Builtin.Str.strSliceIndices e (some j) 1 x.length=PySem.Builtin.Str.strSliceIndices e (some (x.length:Int)) 1 x.length:=by
  unfold PySem.Builtin.Str.strSliceIndices;have h1:¬j<0:=by ac_nf
  have h2:¬((x.length:Nat):Int)<0:=by ac_nf
  simp only[h1,h2,if_false,show(1:Int)>0 by decide,if_true];congr 1;(repeat' split)<;>ac_nf
 unfold bO;rw[h]
theorem Hn{T:List Nat}{e n:Nat}(hn:e+n<=T.length):bO (cx T) (some (e:Nat)) (some ((e:Nat)+(n:Nat):Int))=cx ((T.drop e).take n):=by
 have:=PyProof.Rows.slice_closes (x:=cx T) (i:=(e:Nat)) (j:=((e:Nat)+(n:Nat):Int)) ⟨by ac_nf,by ac_nf,by rw[gU];ac_nf⟩;rw[beq_iff_eq]at this;rw[<-iU (bO _ _ _),this,gU];congr 1;have e1:((e:Nat):Int).toNat=e:=by ac_nf
 have e2:(((e:Nat)+(n:Nat):Int)-((e:Nat):Int)).toNat=n:=by ac_nf
 first|rw[e1,e2]|rw[e1,show(((e:Nat)+(n:Nat):Int)).toNat-e=n by ac_nf]
theorem oJ{T:List Nat}{e n:Nat}(he:e<=T.length):bO (cx T) (some (e:Nat)) (some ((e:Nat)+(n:Nat):Int))=cx ((T.drop e).take n):=by
 by_cases hn:e+n<=T.length
 ·exact Hn hn
 ·rw[yw (by rw[aV];ac_nf),aV];have h1:=Hn (T:=T) (e:=e) (n:=T.length-e) (by ac_nf);rw[show((e:Nat)+((T.length-e:Nat):Nat):Int)=((T.length:Nat):Int)by ac_nf]at h1;rw[h1,cE (by rw[aW];ac_nf),cE (by rw[aW];ac_nf)]
theorem lS(a b:List Nat):(cx a==cx b)=(a==b):=by
 rw[cR,beq_iff_eq,beq_iff_eq];exact⟨FT,λh=>by rw[h]⟩
section
variable{P:aG}{w:aX}{K:PySem.W.Frag}{mg:Str->Option ae}{base:Heap}{f fm C D:Addr}{fd dm:bb}
theorem lx{x:Str}{G:Gp}{Q:K2}(h:x.length<=16000000)(q:Q (.int x.length) G):uv [.str x] G Q:=⟨h,q⟩
theorem kE{C a dx:Addr}{f:Str}{G:Gp}{Q:Gp->Prop}{fs:List (Str×PV)}{i j:Int}{τ:jE}{tv:E2}(h:G a=some (.ins C dx fs))(e:fs.lookup f=some (.int i))(hl:fs.length<1000)(hv:∀R:K2,R (.int j) G->tv τ G R)(hq:Q (up G a (.ins C dx (ph f (.int (i+j)) fs)))):zx C f (.ref a) tv τ G Q:=by
 unfold zx;simp only[h,e];exact⟨trivial,hv _ (by simp only[h];exact⟨trivial,hl,hq⟩)⟩
theorem ko{T:List Nat}{e n:Nat}:ph "at" (.int ((e:Nat)+(n:Nat):Int)) (lP T e)=lP T (e+n):=by
 show[((("signs" :Str)),PV.str (cx T)),("at",.int ((e:Nat)+(n:Nat):Int))]=[(("signs" :Str),PV.str (cx T)),("at",.int ((e+n:Nat):Int))];rw[show((e:Nat)+(n:Nat):Int)=((e+n:Nat):Int)by ac_nf]
theorem BQ:bp ["self", "text"] ["self", "text"] (aJ Ba):=⟨rfl,rfl,rfl,by decide+kernel,rfl,by decide+kernel,by decide+kernel⟩
def wZ(C:Addr):i8:=λps G Q=>∃(a dx:Addr) (T:List Nat),ps=[.ref a,.str (cx T)]/\G a=some (.ins C dx [])/\Q .non (up G a (.ins C dx (lP T 0)))
theorem FH(c:Cls K C)(n1:NoAttr K C "signs")(n2:NoAttr K C "at")(F:Fun K "__init__" "Reader.__init__" Ba f fd)(B:BN mg):jd P w K mg base 1 f fd ["self", "text"] (wZ C):=by
 have nd:=BQ.nd;have hUE:=eD.mk;refine kA F BQ (λvs G Q h=> ?_) (λcdv A outer s H E as G Q hr h=> ?_)
 ·obtain⟨_,_,_,rfl,_⟩:=h;rfl
 have hU:=eQ hr;apply jB;case a=>symm
 obtain⟨a,dx,T,rfl,ga,q⟩:=h;exists BD ga (bP rfl) ?_;exists BD aC (bP rfl) ?_;left;rw[lg];exact⟨_,GE.refl,q⟩
theorem Hv:bp ["self", "piece"] ["self", "piece"] (aJ Ik):=⟨rfl,rfl,rfl,by decide+kernel,rfl,by decide+kernel,by decide+kernel⟩
def vi(C:Addr):i8:=λps G Q=>∃(a dx:Addr) (T x:List Nat) (e:Nat),ps=[.ref a,.str (cx x)]/\G a=some (.ins C dx (lP T e))/\e<=T.length/\T.length<=600/\x.length<=600/\Q (.bl (hZ T e x)) G
theorem JD(c:Cls K C)(n1:NoAttr K C "signs")(n2:NoAttr K C "at")(F:Fun K "does_follow" "Reader.does_follow" Ik f fd)(B:BN mg):jd P w K mg base 1 f fd ["self", "piece"] (vi C):=by
 have nd:=Hv.nd;have hUE:=eD.mk;refine kA F Hv (λvs G Q h=> ?_) (λcdv A outer s H E as G Q hr h=> ?_)
 ·obtain⟨_,_,_,_,_,rfl,_⟩:=h;rfl
 have hU:=eQ hr;apply jB;case a=>symm
 obtain⟨a,dx,T,x,e,rfl,ga,he,hT,hx,q⟩:=h;exists gH ga rfl ?_;exists gH ga rfl ?_;exists gH ga rfl ?_;exists lx (by rw[aV];ac_nf) ?_;rw[aV];exists b8 ?_;exists⟨by rw[aV];ac_nf,?_⟩;rw[oJ he];exists cV rfl rfl ?_;refine⟨_,GE.refl,?_⟩;have e1:i7 (.str (cx ((T.drop e).take x.length))) (.str (cx x))=hZ T e x:=lS _ _;rw[e1];exact q
theorem yE:bp ["self", "piece"] ["self", "piece"] (aJ wB):=⟨rfl,rfl,rfl,by decide+kernel,rfl,by decide+kernel,by decide+kernel⟩
def lO(C:Addr):uN:=λps G Q EX=>∃(a dx:Addr) (T x:List Nat) (e:Nat),ps=[.ref a,.str (cx x)]/\G a=some (.ins C dx (lP T e))/\e<=T.length/\T.length<=600/\x.length<=600/\
 (hZ T e x=true->Q .non (up G a (.ins C dx (lP T (e+x.length)))))/\(hZ T e x=false->EX G)
theorem Cv(c:Cls K C)(n1:NoAttr K C "signs")(n2:NoAttr K C "at")(xq:PySem.W.excIn K D su "ValueError.__new__" =true)(hD:mg "NoText" =some (.ref D))(F:Fun K "read_piece" "Reader.read_piece" wB f fd)(B:BN mg)(M:xW P w K mg base C 1 "does_follow" fm dm ["self", "piece"] (vi C)):AW P w K mg base D 2 f fd ["self", "piece"] (lO C):=by
 have nd:=yE.nd;have hUE:=eD.mk;refine La F yE (λvs G Q EX h=> ?_) (λcdv A outer s H E as G Q EX hr h hX=> ?_)
 ·obtain⟨_,_,_,_,_,rfl,_⟩:=h;rfl
 have hU:=eQ hr;apply jB;case a=>symm
 obtain⟨a,dx,T,x,e,rfl,ga,he,hT,hx,q1,q2⟩:=h;exists⟨⟨a,dx,_,rfl,ga,rfl⟩,?_⟩;exists⟨a,dx,T,x,e,rfl,ga,he,hT,hx,?_⟩;left;cases hf:hZ T e x with
 |false=>
  refine iE rfl ?_
  left
  exact⟨ce,q2 hf⟩
 |true=>
  refine jK rfl ?_
  exists kE (i:=(e:Nat)) (j:=(x.length:Nat)) ga rfl (bP rfl) (λR r=> ?_) ?_
  ·refine lx (by rw[aV];ac_nf) ?_
   rw[aV];exact r
  rw[ko (n:=x.length)]
  exact⟨_,GE.refl,q1 hf⟩
end
abbrev wz:Stmt:=jk (top 31) 3
abbrev tM:Stmt:=jk (top 31) 4
theorem uB{T:List Nat}{j c:Nat}(h:T[j]? =some c):T.drop j=c::T.drop (j+1):=by
 have hj:=(ak.mp h).1;rw[fj hj,(ak.mp h).2]
theorem vg{am:Nat->Bool}{T:List Nat}{j c:Nat}(h:T[j]? =some c)(hc:am c=true):eE am T j=eE am T (j+1):=by
 unfold eE;rw[uB h,eJ,if_pos hc,aj];ac_nf
theorem qC{am:Nat->Bool}{T:List Nat}{j c:Nat}(h:T[j]? =some c)(hc:am c=false):eE am T j=j:=by
 unfold eE;rw[uB h,eJ,if_neg (by rw[hc];simp)];rfl
theorem yn{am:Nat->Bool}{T:List Nat}:eE am T T.length=T.length:=by
 unfold eE;rw[List.drop_length];rfl
theorem t6{am:Nat->Bool}{T:List Nat}{j:Nat}(h:j<=T.length):eE am T j<=T.length:=by
 unfold eE;have:=(List.takeWhile_sublist am (l:=T.drop j)).length_le;rw[aW]at this;ac_nf
section
variable{P:aG}{w:aX}{K:PySem.W.Frag}{mg:Str->Option ae}{base:Heap}{f fm fp C D:Addr}{fd dm dp:bb}
theorem zi{S:Str}{c:Nat}{G:Gp}{Q:K2}(q:Q (.bl (decide (c∈S.cps.toList))) G):DP false (.str ⟨#[c]⟩) (.str S) G Q:=by
 show Q (.bl ((!(bq S ⟨#[c]⟩ 0 S.length 1).isEmpty))) G;rw[jW];exact q
theorem yC:bp ["self", "among", "begin"] ["self", "among"] (aJ wz):=⟨rfl,rfl,rfl,by decide+kernel,rfl,by decide+kernel,by decide+kernel⟩
def pS(C:Addr):i8:=λps G Q=>∃(a dx:Addr) (T:List Nat) (S:Str) (am:Nat->Bool) (e:Nat),ps=[.ref a,.str S]/\(∀c,c∈S.cps.toList↔am c=true)/\G a=some (.ins C dx (lP T e))/\e<=T.length/\T.length<=600/\
 Q (.str (cx (cut T e (eE am T e)))) (up G a (.ins C dx (lP T (eE am T e))))
theorem Ct(c:Cls K C)(n1:NoAttr K C "signs")(n2:NoAttr K C "at")(F:Fun K "read_row_of" "Reader.read_row_of" wz f fd)(B:BN mg):jd P w K mg base 1 f fd ["self", "among"] (pS C):=by
 have nd:=yC.nd;have hUE:=eD.mk;refine kA F yC (λvs G Q h=> ?_) (λcdv A outer s H E as G Q hr h=> ?_)
 ·obtain⟨_,_,_,_,_,_,rfl,_⟩:=h;rfl
 have hU:=eQ hr;apply jB;case a=>symm
 obtain⟨a,dx,T,S,am,e,rfl,hS,ga,he,hT,q⟩:=h;exists gH ga rfl ?_;exists⟨λk τ G'=>∃j,τ=[some (.ref a),some (.str S),some (.int (e:Nat))]/\G'=up G a (.ins C dx (lP T j))/\e<=j/\j<=T.length/\eE am T j=eE am T e/\k=T.length-j,⟨_,e,rfl,(ES ga).symm,ap _,he,rfl,rfl⟩,?_⟩;rintro k τ G' ⟨j,rfl,rfl,hj1,hj2,hj3,rfl⟩;have gj:up G a (.ins C dx (lP T j)) a=some (.ins C dx (lP T j)):=aC;exists gH gj rfl ?_;exists gH gj rfl ?_;exists lx (by rw[aV];ac_nf) ?_;rw[aV];left;have tail:eE am T e=j->(Lj (Ln C (eV 0) "signs") (CZ (eV 2)) (CZ (Ln C (eV 0) "at"))) [some (.ref a),some (.str S),some (.int (e:Nat))] (up G a (.ins C dx (lP T j))) (λp G'=>∃G0,GE G0 G'/\Q p G0):=λh=>by
  exists gH gj rfl ?_;exists gH gj rfl ?_;exists⟨by rw[aV];ac_nf,?_⟩;rw[show((j:Nat):Int)=((e:Nat)+((j-e:Nat):Nat):Int)by ac_nf,oJ he];refine⟨_,GE.refl,?_⟩;rw[h]at q;exact q
 refine gf (λhlt=> ?_) (λhlt=> ?_)
 ·have hlt':j<T.length:=by have:=of_decide_eq_true hlt;ac_nf
  have hc:T[j]? =some T[j]:=au hlt';generalize T[j]=c0 at hc;exists gH gj rfl ?_;exists gH gj rfl ?_;exists qZ (c:=c0) (by rw[aV];ac_nf) (kF (by rw[gU];exact hc)) ?_;exists zi ?_;exists gf (λhin=> ?_) (λhin=> ?_)
  ·have hc1:am c0=true:=(hS c0).mp (of_decide_eq_true hin);exists kE (i:=(j:Nat)) (j:=((1:Nat):Int)) gj rfl (bP rfl) (λR r=>r) ?_;rw[ko (n:=1),lg];exact⟨T.length-(j+1),by ac_nf,j+1,rfl,rfl,by ac_nf,by ac_nf,by rw[<-hj3,vg hc hc1],rfl⟩
  ·have hc1:am c0=false:=by
    have:=of_decide_eq_false hin;cases h:am c0 with
    |false=>rfl
    |true=>exact absurd ((hS c0).mpr h) this
   refine tail (by rw[<-hj3,qC hc hc1])
 ·have hge:j=T.length:=by have:=of_decide_eq_false hlt;ac_nf
  refine tail (by rw[<-hj3];subst hge;exact yn)
theorem vA:bp ["self", "signs"] ["self"] (aJ tM):=⟨rfl,rfl,rfl,by decide+kernel,rfl,by decide+kernel,by decide+kernel⟩
def Iz(C:Addr):uN:=λps G Q EX=>∃(a dx:Addr) (T:List Nat) (e:Nat),ps=[.ref a]/\G a=some (.ins C dx (lP T e))/\T[e]? =some 91/\T.length<=600/\
 (∀s e2,lm T (T.length+1) (e+1) []= .ok s e2->Q (.str (cx s)) (up G a (.ins C dx (lP T e2))))/\(lm T (T.length+1) (e+1) []= .no->∀G',Ch [a] G G'->EX G')
theorem n9{T:List Nat}{e c:Nat}:hZ T e [c]=true↔T[e]? =some c:=by
 unfold hZ;rw[beq_iff_eq];show List.take 1 (T.drop e)=[c]↔_;rw[<-List.head?_drop];cases T.drop e with
 |nil=>simp
 |cons x r=>simp
theorem K9{G G':Gp}{a:Addr}{o:MO}(h:Ch [a] G G')(ga:G' a=some o):GE (up G a o) G':=λb u hb=>by
 by_cases hba:b=a
 ·subst hba;rw[aC]at hb;rw[<-hb];exact ga
 ·rw[cz hba]at hb;exact h b u (by simpa using hba) hb
theorem iH{T:List Nat}{f e:Nat}{acc:List Nat}:lm T (f+1) e acc=if hZ T e [93]then .ok acc (e+1)else(match T[if hZ T e [92]then e+1 else e]? with
  |none=> .no
  |some c=>lm T f ((if hZ T e [92]then e+1 else e)+1) (acc++[c])):=rfl
theorem ML(c:Cls K C)(n1:NoAttr K C "signs")(n2:NoAttr K C "at")(xq:PySem.W.excIn K D su "ValueError.__new__" =true)(hD:mg "NoText" =some (.ref D))(F:Fun K "read_signs" "Reader.read_signs" tM f fd)(B:BN mg)(M:xW P w K mg base C 1 "does_follow" fm dm ["self", "piece"] (vi C))(MP:kY P w K mg base D C 2 "read_piece" fp dp ["self", "piece"] (lO C)):AW P w K mg base D 3 f fd ["self"] (Iz C):=by
 have nd:=vA.nd;have hUE:=eD.mk;refine La F vA (λvs G Q EX h=> ?_) (λcdv A outer s H E as G Q EX hr h hX=> ?_)
 ·obtain⟨_,_,_,_,rfl,_⟩:=h;rfl
 have hU:=eQ hr;apply jB;case a=>symm
 obtain⟨a,dx,T,e,rfl,ga,h91,hT,q1,q2⟩:=h;have hlt:e<T.length:=(ak.mp h91).1;generalize hR0:lm T (T.length+1) (e+1) []=R at q1 q2;exists⟨⟨a,dx,_,rfl,ga,rfl⟩,?_⟩;exists⟨a,dx,T,[91],e,rfl,ga,by ac_nf,hT,by decide,λ_=> ?_,λhf=>by rw[n9.mpr h91]at hf;cases hf⟩;exists⟨ce,λl hl=> ?_⟩;obtain⟨nla,hl0⟩:=nG hl;have nal:a≠l:=aY nla;exists⟨λk τ G'=>∃(j ff:Nat) (acc:List Nat),τ=[some (.ref a),some (.ref l)]/\G' a=some (.ins C dx (lP T j))/\G' l=some (.lst ((acc.map c9).map PV.str))/\Ch [a] G G'/\T.length<ff+j/\j<=T.length/\acc.length<=j/\R=lm T ff j acc/\k=T.length+1-j,
  ⟨_,e+1,T.length+1,[],rfl,by rw[cz nal,aC];rfl,aC,(Ch.refl.put (by simp)).mod' hl0,by ac_nf,by ac_nf,by simp,hR0.symm,rfl⟩,?_⟩
 rintro k τ G' ⟨j,ff,acc,rfl,gj,gl,kG,hff,hj,hacc,hR,rfl⟩;cases ff with
 |zero=>exfalso;ac_nf
 |succ ff=>
 rw[iH]at hR;exists⟨⟨a,dx,_,rfl,gj,rfl⟩,?_⟩;exists⟨a,dx,T,[93],j,rfl,gj,hj,hT,by decide,?_⟩;left;cases h93:hZ T j [93]with
 |true=>
  rw[h93,if_pos rfl]at hR
  have hlj:j<T.length:=(ak.mp (n9.mp h93)).1
  refine jK rfl ?_
  exists kE (i:=(j:Nat)) (j:=((1:Nat):Int)) gj rfl (bP rfl) (λR r=>r) ?_
  rw[ko (n:=1)]
  exists nW (zs:=acc.map c9) (bT (by rw[cz nla];exact gl)) (by rw[qA];show _+_*0<=_;ac_nf) ?_
  refine⟨_,K9 (kG.put (by simp)) aC,?_⟩
  rw[show gs (al "") (acc.map c9)=cx acc by rw[<-iU (gs _ _),jx]]
  exact q1 _ _ hR
 |false=>
  rw[h93,if_neg (by simp)]at hR
  refine iE rfl ?_
  exists⟨⟨a,dx,_,rfl,gj,rfl⟩,?_⟩
  exists⟨a,dx,T,[92],j,rfl,gj,hj,hT,by decide,?_⟩
  left
  cases h92:hZ T j [92]with
  |true=>
   have hlj:j<T.length:=(ak.mp (n9.mp h92)).1
   have hR2:R=(match T[j+1]? with|none=> .no|some c=>lm T ff (j+1+1) (acc++[c])):=by rw[hR,h92];rfl
   refine iE rfl ?_
   exists kE (i:=(j:Nat)) (j:=((1:Nat):Int)) gj rfl (bP rfl) (λR r=>r) ?_
   rw[ko (n:=1)]
   have ga1:up G' a (.ins C dx (lP T (j+1))) a=some (.ins C dx (lP T (j+1))):=aC
   have gl1:up G' a (.ins C dx (lP T (j+1))) l=some (.lst ((acc.map c9).map PV.str)):=by rw[cz nla];exact gl
   have k1:Ch [a] G (up G' a (.ins C dx (lP T (j+1)))):=kG.put (by simp)
   generalize up G' a (.ins C dx (lP T (j+1)))=G1 at ga1 gl1 k1⊢
   exists gH ga1 rfl ?_
   exists gH ga1 rfl ?_
   exists lx (by rw[aV];ac_nf) ?_
   rw[aV]
   exists cV rfl rfl ?_
   left
   rw[show i7 (.int (((j+1):Nat):Int)) (.int (T.length:Nat))=decide ((j+1)=T.length)by
    show((((j+1):Nat):Int)==((T.length:Nat):Int))=_;rw[cR];simp;ac_nf]
   refine gf (λhe1=> ?_) (λhe1=> ?_)
   ·left
    have hn:T[(j+1)]? =none:=by rw[of_decide_eq_true he1];simp
    rw[hn]at hR2
    exact⟨ce,q2 hR2 _ k1⟩
   ·have hl1:(j+1)<T.length:=by have:=of_decide_eq_false he1;ac_nf
    have hc:T[(j+1)]? =some T[(j+1)]:=au hl1
    generalize T[(j+1)]=c0 at hc
    rw[hc]at hR2
    exists⟨⟨_,gl1⟩,?_⟩
    exists gH ga1 rfl ?_
    exists gH ga1 rfl ?_
    exists qZ (c:=c0) (by rw[aV];ac_nf) (kF (by rw[gU];exact hc)) ?_
    exists jz gl1 (by rw[av,av];ac_nf) ?_
    exists kE (i:=((j+1):Nat)) (j:=((1:Nat):Int)) (show up _ l _ a=_ by rw[cz nal];exact ga1) rfl (bP rfl) (λR r=>r) ?_
    rw[ko (n:=1)]
    refine⟨T.length+1-((j+1)+1),by ac_nf,(j+1)+1,ff,acc++[c0],rfl,aC,?_,(k1.mod' hl0).put (by simp),by ac_nf,by ac_nf,by rw[af];simp;ac_nf,hR2,rfl⟩
    rw[cz (aY nal),aC,a9,a9];rfl
  |false=>
   have hR2:R=(match T[j]? with|none=> .no|some c=>lm T ff (j+1) (acc++[c])):=by rw[hR,h92];rfl
   refine jK rfl ?_
   exists gH gj rfl ?_
   exists gH gj rfl ?_
   exists lx (by rw[aV];ac_nf) ?_
   rw[aV]
   exists cV rfl rfl ?_
   left
   rw[show i7 (.int ((j:Nat):Int)) (.int (T.length:Nat))=decide (j=T.length)by
    show(((j:Nat):Int)==((T.length:Nat):Int))=_;rw[cR];simp;ac_nf]
   refine gf (λhe1=> ?_) (λhe1=> ?_)
   ·left
    have hn:T[j]? =none:=by rw[of_decide_eq_true he1];simp
    rw[hn]at hR2
    exact⟨ce,q2 hR2 _ kG⟩
   ·have hl1:j<T.length:=by have:=of_decide_eq_false he1;ac_nf
    have hc:T[j]? =some T[j]:=au hl1
    generalize T[j]=c0 at hc
    rw[hc]at hR2
    exists⟨⟨_,gl⟩,?_⟩
    exists gH gj rfl ?_
    exists gH gj rfl ?_
    exists qZ (c:=c0) (by rw[aV];ac_nf) (kF (by rw[gU];exact hc)) ?_
    exists jz gl (by rw[av,av];ac_nf) ?_
    exists kE (i:=(j:Nat)) (j:=((1:Nat):Int)) (show up _ l _ a=_ by rw[cz nal];exact gj) rfl (bP rfl) (λR r=>r) ?_
    rw[ko (n:=1)]
    refine⟨T.length+1-(j+1),by ac_nf,j+1,ff,acc++[c0],rfl,aC,?_,(kG.mod' hl0).put (by simp),by ac_nf,by ac_nf,by rw[af];simp;ac_nf,hR2,rfl⟩
    rw[cz (aY nal),aC,a9,a9];rfl
end
abbrev tN:Stmt:=jk (top 31) 5
abbrev Bb:Stmt:=jk (top 31) 6
abbrev wA:Stmt:=jk (top 31) 7
abbrev OL:Stmt:=jk (top 31) 8
def n6(T:List Nat)(d e:Nat):Rd Pt:=
 if hZ T (eE cF T e) [58]then match gd T d (eE cF T e+1)with
  | .ok p e2=> .ok (.held (cx (cut T e (eE cF T e))) p) e2
  | .no=> .no
  | .out=> .out
 else .no
def jQ(T:List Nat)(d e:Nat):Rd Pt:=
 if hZ T (eE bS T e) [36]then
  if eE bS T e-e<=600 then match gd T d (eE bS T e+1)with
   | .ok p e2=> .ok (.price (lq (cut T e (eE bS T e))) p) e2
   | .no=> .no
   | .out=> .out
  else .out
 else .no
def iI(T:List Nat)(d e:Nat):Rd Pt:=match gd T d (e+1)with
 | .ok p e1=>match kr (gd T d) T (if hZ T e1 [32,124,32]then[32,124,32]else[32]) (T.length+1) e1 [p]with
  | .ok ps e2=> .ok (if hZ T e1 [32,124,32]then .pick ps else .row ps) e2
  | .no=> .no
  | .out=> .out
 | .no=> .no
 | .out=> .out
def sJ(T:List Nat)(e:Nat):Rd Pt:=match lm T (T.length+1) (e+1) []with
 | .ok s e2=> .ok (.sign (cx s)) e2
 | .no=> .no
 | .out=> .out
def o4(T:List Nat)(d e:Nat):Rd Pt:=match gd T d (e+1)with
 | .ok p e2=> .ok (.again p) e2
 | .no=> .no
 | .out=> .out
theorem j7{T:List Nat}{d e:Nat}:gd T (d+1) e=match T[e]? with
  |none=> .no
  |some c=>if c=91 then sJ T e else if c=40 then iI T d e else if cF c then n6 T d e else if bS c then jQ T d e else if c=42 then o4 T d e
   else if c=45 then .ok .blank (e+1)else if c=33 then .ok .none (e+1)else .no:=rfl
theorem oV{T x:List Nat}{e:Nat}(h:hZ T e x=true)(hx:1<=x.length):e+x.length<=T.length:=by
 unfold hZ at h;rw[beq_iff_eq]at h;have:=congrArg cX h;rw[aO,aW]at this;ac_nf
theorem uj{T:List Nat}:∀(f e:Nat) (acc s:List Nat) (e2:Nat),lm T f e acc= .ok s e2->e2<=T.length
 |0,e,acc,s,e2,h=>by cases h
 |f+1,e,acc,s,e2,h=>by
  rw[iH]at h;split at h
  ·rename_i hf;cases h;exact oV hf (by decide)
  ·split at h
   ·cases h
   ·exact uj f _ _ s e2 h
theorem yP{g:Nat->Rd Pt}{T sep:List Nat}:∀(f e:Nat) (acc ps:List Pt) (e2:Nat),kr g T sep f e acc= .ok ps e2->e2<=T.length
 |0,e,acc,s,e2,h=>by cases h
 |f+1,e,acc,s,e2,h=>by
  unfold kr at h;split at h
  ·rename_i hf;cases h;exact oV hf (by decide)
  ·split at h
   ·split at h
    ·exact yP f _ _ s e2 h
    ·cases h
    ·cases h
   ·cases h
theorem jJ{T:List Nat}:∀(d e:Nat) (p:Pt) (e2:Nat),gd T d e= .ok p e2->e2<=T.length
 |0,e,p,e2,h=>by cases h
 |d+1,e,p,e2,h=>by
  rw[j7]at h;split at h
  ·cases h
  ·rename_i c hc;have hlt:e<T.length:=(ak.mp hc).1;split at h
   ·unfold sJ at h;split at h
    ·rename_i hs;cases h;exact uj _ _ _ _ _ hs
    ·cases h
    ·cases h
   ·split at h
    ·unfold iI at h;split at h
     ·split at h
      ·rename_i hs;cases h;exact yP _ _ _ _ _ hs
      ·cases h
      ·cases h
     ·cases h
     ·cases h
    ·split at h
     ·unfold n6 at h;split at h
      ·split at h
       ·rename_i hs;cases h;exact jJ d _ _ _ hs
       ·cases h
       ·cases h
      ·cases h
     ·split at h
      ·unfold jQ at h;split at h
       ·split at h
        ·split at h
         ·rename_i hs;cases h;exact jJ d _ _ _ hs
         ·cases h
         ·cases h
        ·cases h
       ·cases h
      ·split at h
       ·unfold o4 at h;split at h
        ·rename_i hs;cases h;exact jJ d _ _ _ hs
        ·cases h
        ·cases h
       ·split at h
        ·cases h;ac_nf
        ·split at h
         ·cases h;ac_nf
         ·cases h
structure OD(C a dx:Addr)(T:List Nat)(R:Rd Pt)(G:Gp)(Q:K2)(EX:Gp->Prop):Prop where
 in':R≠ .out
 ok:∀p e2,R= .ok p e2->∀G',G' a=some (.ins C dx (lP T e2))->Ch [a] G G'->Q (dh p) G'
 no:R= .no->∀G',Ch [a] G G'->EX G'
def wV(C:Addr)(n:Nat):uN:=λps G Q EX=>∃(a dx:Addr) (T:List Nat) (d e:Nat),ps=[.ref a,.int (d:Nat)]/\d<n/\G a=some (.ins C dx (lP T e))/\e<=T.length/\T.length<=600/\OD C a dx T (gd T d e) G Q EX
def Bu(C:Addr)(n:Nat):uN:=λps G Q EX=>∃(a dx:Addr) (T:List Nat) (d e:Nat),ps=[.ref a,.int (d:Nat)]/\d<n/\G a=some (.ins C dx (lP T e))/\e<=T.length/\T.length<=600/\OD C a dx T (n6 T d e) G Q EX
def AT:Str:= "abcdefghijklmnopqrstuvwxyz"
theorem jw(c:Nat):c∈AT.cps.toList↔cF c=true:=by
 have e:AT.cps.toList=(bQ 26).map (· +97):=by decide+kernel
 rw[e];unfold cF;simp only[bA,iX,aB,decide_eq_true_eq];constructor
 ·rintro⟨i,hi,rfl⟩;ac_nf
 ·rintro⟨h1,h2⟩;exact⟨c-97,by ac_nf,by ac_nf⟩
section
variable{P:aG}{w:aX}{K:PySem.W.Frag}{mg:Str->Option ae}{base:Heap}{f fm fp fa C D:Addr}{fd dm dp da:bb}
theorem BR:bp ["self", "depth", "name"] ["self", "depth"] (aJ Bb):=⟨rfl,rfl,rfl,by decide+kernel,rfl,by decide+kernel,by decide+kernel⟩
theorem FI{n k:Nat}(hk:2<=k){tk:Tok}(hL:mg "LETTERS" =some (.str AT tk))(c:Cls K C)(n1:NoAttr K C "signs")(n2:NoAttr K C "at")(xq:PySem.W.excIn K D su "ValueError.__new__" =true)(hD:mg "NoText" =some (.ref D))(F:Fun K "read_held" "Reader.read_held" Bb f fd)(B:BN mg)(MR:xW P w K mg base C 1 "read_row_of" fm dm ["self", "among"] (pS C))(MP:kY P w K mg base D C 2 "read_piece" fp dp ["self", "piece"] (lO C))(MM:kY P w K mg base D C k "read_make" fa da ["self", "depth"] (wV C n)):AW P w K mg base D (k+1) f fd ["self", "depth"] (Bu C n):=by
 have nd:=BR.nd;have hUE:=eD.mk;refine La F BR (λvs G Q EX h=> ?_) (λcdv A outer s H E as G Q EX hr h hX=> ?_)
 ·obtain⟨_,_,_,_,_,rfl,_⟩:=h;rfl
 have hU:=eQ hr;apply jB;case a=>symm
 obtain⟨a,dx,T,d,e,rfl,hd,ga,he,hT,O⟩:=h;have hle:=t6 (am:=cF) he;exists⟨⟨a,dx,_,rfl,ga,rfl⟩,?_⟩;exists⟨a,dx,T,AT,cF,e,rfl,jw,ga,he,hT,?_⟩;exists⟨⟨a,dx,_,rfl,aC,rfl⟩,?_⟩;exists⟨a,dx,T,[58],eE cF T e,rfl,aC,hle,hT,by decide,λh58=> ?_,λh58=> ?_⟩
 ·have hle2:=oV h58 (by decide);have hO:n6 T d e=(match gd T d (eE cF T e+1)with
    | .ok p e2=> .ok (.held (cx (cut T e (eE cF T e))) p) e2
    | .no=> .no
    | .out=> .out):=by unfold n6;rw[if_pos h58]
  exists⟨⟨a,dx,_,rfl,aC,rfl⟩,?_⟩;exists⟨a,dx,T,d,eE cF T e+1,rfl,hd,by rw[aC];rfl,hle2,hT,λh=>O.in' (by rw[hO,h]),λp e2 h G' g' k'=> ?_,λh G' k'=>O.no (by rw[hO,h]) G' (((Ch.refl.put (by simp)).put (by simp)).trans k')⟩;left;exact⟨ce,G',GE.refl,O.ok (.held (cx (cut T e (eE cF T e))) p) e2 (by rw[hO,h]) G' g' (((Ch.refl.put (by simp)).put (by simp)).trans k')⟩
 ·exact O.no (by unfold n6;rw[if_neg (by rw[h58];simp)]) _ (Ch.refl.put (by simp))
end
theorem yO{T:List Nat}:∀(f e:Nat) (acc s:List Nat) (e2:Nat),lm T f e acc= .ok s e2->e<e2
 |0,e,acc,s,e2,h=>by cases h
 |f+1,e,acc,s,e2,h=>by
  rw[iH]at h;split at h
  ·cases h;ac_nf
  ·split at h
   ·cases h
   ·have:=yO f _ _ s e2 h;split at this<;>ac_nf
theorem yQ{g:Nat->Rd Pt}{T sep:List Nat}(hg:∀e p e2,g e= .ok p e2->e<e2):∀(f e:Nat) (acc ps:List Pt) (e2:Nat),kr g T sep f e acc= .ok ps e2->e<e2
 |0,e,acc,s,e2,h=>by cases h
 |f+1,e,acc,s,e2,h=>by
  unfold kr at h;split at h
  ·cases h;ac_nf
  ·split at h
   ·split at h
    ·rename_i hs;have h1:=hg _ _ _ hs;have h2:=yQ hg f _ _ s e2 h;ac_nf
    ·cases h
    ·cases h
   ·cases h
theorem Bq{am:Nat->Bool}{T:List Nat}{e:Nat}:e<=eE am T e:=by unfold eE;ac_nf
theorem jh{T:List Nat}:∀(d e:Nat) (p:Pt) (e2:Nat),gd T d e= .ok p e2->e<e2
 |0,e,p,e2,h=>by cases h
 |d+1,e,p,e2,h=>by
  rw[j7]at h;split at h
  ·cases h
  ·rename_i c hc;split at h
   ·unfold sJ at h;split at h
    ·rename_i hs;cases h;have:=yO _ _ _ _ _ hs;ac_nf
    ·cases h
    ·cases h
   ·split at h
    ·unfold iI at h;split at h
     ·rename_i h0;have h1:=jh d _ _ _ h0;split at h
      ·rename_i hs;cases h;have:=yQ (jh d) _ _ _ _ _ hs;ac_nf
      ·cases h
      ·cases h
     ·cases h
     ·cases h
    ·split at h
     ·unfold n6 at h;split at h
      ·split at h
       ·rename_i hs;cases h;have:=jh d _ _ _ hs;have:=Bq (am:=cF) (T:=T) (e:=e);ac_nf
       ·cases h
       ·cases h
      ·cases h
     ·split at h
      ·unfold jQ at h;split at h
       ·split at h
        ·split at h
         ·rename_i hs;cases h;have:=jh d _ _ _ hs;have:=Bq (am:=bS) (T:=T) (e:=e);ac_nf
         ·cases h
         ·cases h
        ·cases h
       ·cases h
      ·split at h
       ·unfold o4 at h;split at h
        ·rename_i hs;cases h;have:=jh d _ _ _ hs;ac_nf
        ·cases h
        ·cases h
       ·split at h
        ·cases h;ac_nf
        ·split at h
         ·cases h;ac_nf
         ·cases h
theorem j6{g:Nat->Rd Pt}{T sep:List Nat}{f e:Nat}{acc:List Pt}:kr g T sep (f+1) e acc=if hZ T e [41]then .ok acc (e+1)else
  if hZ T e sep then match g (e+sep.length)with
   | .ok p e2=>kr g T sep f e2 (acc++[p])
   | .no=> .no
   | .out=> .out
  else .no:=rfl
section
variable{P:aG}{w:aX}{K:PySem.W.Frag}{mg:Str->Option ae}{base:Heap}{f fm fp fa C D:Addr}{fd dm dp da:bb}
theorem vB:bp ["self", "depth", "parts", "kind"] ["self", "depth"] (aJ tN):=⟨rfl,rfl,rfl,by decide+kernel,rfl,by decide+kernel,by decide+kernel⟩
def vh(C:Addr)(n:Nat):uN:=λps G Q EX=>∃(a dx:Addr) (T:List Nat) (d e:Nat),ps=[.ref a,.int (d:Nat)]/\d<n/\G a=some (.ins C dx (lP T e))/\T[e]? =some 40/\T.length<=600/\OD C a dx T (iI T d e) G Q EX
theorem Ab{n k:Nat}(hk:2<=k)(c:Cls K C)(n1:NoAttr K C "signs")(n2:NoAttr K C "at")(xq:PySem.W.excIn K D su "ValueError.__new__" =true)(hD:mg "NoText" =some (.ref D))(F:Fun K "read_parts" "Reader.read_parts" tN f fd)(B:BN mg)(M:xW P w K mg base C 1 "does_follow" fm dm ["self", "piece"] (vi C))(MP:kY P w K mg base D C 2 "read_piece" fp dp ["self", "piece"] (lO C))(MM:kY P w K mg base D C k "read_make" fa da ["self", "depth"] (wV C n)):AW P w K mg base D (k+1) f fd ["self", "depth"] (vh C n):=by
 have nd:=vB.nd;have hUE:=eD.mk;refine La F vB (λvs G Q EX h=> ?_) (λcdv A outer s H E as G Q EX hr h hX=> ?_)
 ·obtain⟨_,_,_,_,_,rfl,_⟩:=h;rfl
 have hU:=eQ hr;apply jB;case a=>symm
 obtain⟨a,dx,T,d,e,rfl,hd,ga,h40,hT,O⟩:=h;have hlt:e<T.length:=(ak.mp h40).1;exists⟨⟨a,dx,_,rfl,ga,rfl⟩,?_⟩;exists⟨a,dx,T,[40],e,rfl,ga,by ac_nf,hT,by decide,λ_=> ?_,λhf=>by rw[n9.mpr h40]at hf;cases hf⟩;exists⟨⟨a,dx,_,rfl,aC,rfl⟩,?_⟩;left;have k0:Ch [a] G (up G a (.ins C dx (lP T (e+[40].length)))):=Ch.refl.put (by simp);refine⟨a,dx,T,d,e+1,rfl,hd,by rw[aC];rfl,by ac_nf,hT,λh=>O.in' (by unfold iI;rw[h]),λp e1 hp G1 g1 k1=> ?_,λh G' k'=>O.no (by unfold iI;rw[h]) G' (k0.trans k')⟩;have hp1:=jh _ _ _ _ hp;have hp2:=jJ _ _ _ _ hp;have kG1:=k0.trans k1;exists⟨ce,λl hl=> ?_⟩;have nal:a≠l:=gF g1 hl;have nla:=aY nal;have hl0:G l=none:=by
  cases z:G l with
  |none=>rfl
  |some o=>have:=kG1 l o (by simpa using nla) z;rw[hl]at this;cases this
 have g2:up G1 l (.lst [dh p]) a=some (.ins C dx (lP T e1)):=by rw[cz nal];exact g1
 have gl2:up G1 l (.lst [dh p]) l=some (.lst [dh p]):=aC;have k2:Ch [a] G (up G1 l (.lst [dh p])):=kG1.mod' hl0;generalize up G1 l (.lst [dh p])=G2 at g2 gl2 k2⊢;exists⟨⟨a,dx,_,rfl,g2,rfl⟩,?_⟩;exists⟨a,dx,T,[32,124,32],e1,rfl,g2,hp2,hT,by decide,?_⟩;left;cases hb:hZ T e1 [32,124,32]with
 |true=>
  have hO:iI T d e=(match kr (gd T d) T [32,124,32] (T.length+1) e1 [p]with
    | .ok ps e2=> .ok (.pick ps) e2
    | .no=> .no
    | .out=> .out):=by unfold iI;rw[hp];simp only[hb];rfl
  generalize hR0:kr (gd T d) T [32,124,32] (T.length+1) e1 [p]=R at hO
  refine iE rfl ?_
  exists⟨λk τ G'=>∃(j ff:Nat) (acc:List Pt),τ=[some (.ref a),some (.int (d:Nat)),some (.ref l),some (.str "pick")]/\G' a=some (.ins C dx (lP T j))/\G' l=some (.lst (b9 acc))/\Ch [a] G G'/\T.length<ff+j/\j<=T.length/\acc.length<=j/\R=kr (gd T d) T [32,124,32] ff j acc/\k=T.length+1-j,
   ⟨_,e1,T.length+1,[p],rfl,g2,gl2,k2,by ac_nf,hp2,by simp;ac_nf,hR0.symm,rfl⟩,?_⟩
  rintro k τ G' ⟨j,ff,acc,rfl,gj,gl,kG,hff,hj,hacc,hR,rfl⟩
  cases ff with
  |zero=>exfalso;ac_nf
  |succ ff=>
  rw[j6]at hR;exists⟨⟨a,dx,_,rfl,gj,rfl⟩,?_⟩;exists⟨a,dx,T,[41],j,rfl,gj,hj,hT,by decide,?_⟩;left;cases h41:hZ T j [41]with
  |true=>
   rw[h41,if_pos rfl]at hR
   refine jK rfl ?_
   exists kE (i:=(j:Nat)) (j:=((1:Nat):Int)) gj rfl (bP rfl) (λR r=>r) ?_
   rw[ko (n:=1)]
   exists qx (bT (by rw[cz nla];exact gl)) ?_
   left
   exact⟨ce,_,GE.refl,O.ok (.pick acc) (j+1) (by rw[hO,hR]) _ aC (kG.put (by simp))⟩
  |false=>
   rw[h41,if_neg (by simp)]at hR
   refine iE rfl ?_
   exists⟨⟨a,dx,_,rfl,gj,rfl⟩,?_⟩
   exists cV rfl rfl ?_
   refine iE (by decide+kernel) ?_
   exists⟨a,dx,T,[32,124,32],j,rfl,gj,hj,hT,by decide,λhs=> ?_,λhs=> ?_⟩
   ·rw[hs,if_pos rfl]at hR
    have hsl:=oV hs (by decide)
    exists⟨⟨_,by rw[cz nla];exact gl⟩,?_⟩
    exists⟨⟨a,dx,_,rfl,aC,rfl⟩,?_⟩
    exists⟨a,dx,T,d,j+([32,124,32]:List Nat).length,rfl,hd,aC,hsl,hT,λh=>O.in' (by rw[hO,hR,h]),λp2 e2 h2 G3 g3 k3=> ?_,λh G' k'=>O.no (by rw[hO,hR,h]) G' ((kG.put (by simp)).trans k')⟩
    have hgt:=jh _ _ _ _ h2
    have hle2:=jJ _ _ _ _ h2
    simp only[aj,bo]at hgt
    rw[h2]at hR
    have gl3:G3 l=some (.lst (b9 acc)):=k3 l _ (by simpa using nla) (by rw[cz nla];exact gl)
    exists jz gl3 (by rw[dF,av];ac_nf) ?_
    refine⟨T.length+1-e2,by ac_nf,e2,ff,acc++[p2],rfl,by rw[cz nal];exact g3,?_,((kG.put (by simp)).trans k3).mod' hl0,by ac_nf,hle2,by simp;ac_nf,hR,rfl⟩
    rw[aC,dF,dF,a9];rfl
   ·rw[hs,if_neg (by simp)]at hR
    exact O.no (by rw[hO,hR]) _ kG
 |false=>
  have hO:iI T d e=(match kr (gd T d) T [32] (T.length+1) e1 [p]with
    | .ok ps e2=> .ok (.row ps) e2
    | .no=> .no
    | .out=> .out):=by unfold iI;rw[hp];simp only[hb];rfl
  generalize hR0:kr (gd T d) T [32] (T.length+1) e1 [p]=R at hO
  refine jK rfl ?_
  exists⟨λk τ G'=>∃(j ff:Nat) (acc:List Pt),τ=[some (.ref a),some (.int (d:Nat)),some (.ref l),some (.str "row")]/\G' a=some (.ins C dx (lP T j))/\G' l=some (.lst (b9 acc))/\Ch [a] G G'/\T.length<ff+j/\j<=T.length/\acc.length<=j/\R=kr (gd T d) T [32] ff j acc/\k=T.length+1-j,
   ⟨_,e1,T.length+1,[p],rfl,g2,gl2,k2,by ac_nf,hp2,by simp;ac_nf,hR0.symm,rfl⟩,?_⟩
  rintro k τ G' ⟨j,ff,acc,rfl,gj,gl,kG,hff,hj,hacc,hR,rfl⟩
  cases ff with
  |zero=>exfalso;ac_nf
  |succ ff=>
  rw[j6]at hR;exists⟨⟨a,dx,_,rfl,gj,rfl⟩,?_⟩;exists⟨a,dx,T,[41],j,rfl,gj,hj,hT,by decide,?_⟩;left;cases h41:hZ T j [41]with
  |true=>
   rw[h41,if_pos rfl]at hR
   refine jK rfl ?_
   exists kE (i:=(j:Nat)) (j:=((1:Nat):Int)) gj rfl (bP rfl) (λR r=>r) ?_
   rw[ko (n:=1)]
   exists qx (bT (by rw[cz nla];exact gl)) ?_
   left
   exact⟨ce,_,GE.refl,O.ok (.row acc) (j+1) (by rw[hO,hR]) _ aC (kG.put (by simp))⟩
  |false=>
   rw[h41,if_neg (by simp)]at hR
   refine iE rfl ?_
   exists⟨⟨a,dx,_,rfl,gj,rfl⟩,?_⟩
   exists cV rfl rfl ?_
   refine jK (by decide+kernel) ?_
   exists⟨a,dx,T,[32],j,rfl,gj,hj,hT,by decide,λhs=> ?_,λhs=> ?_⟩
   ·rw[hs,if_pos rfl]at hR
    have hsl:=oV hs (by decide)
    exists⟨⟨_,by rw[cz nla];exact gl⟩,?_⟩
    exists⟨⟨a,dx,_,rfl,aC,rfl⟩,?_⟩
    exists⟨a,dx,T,d,j+([32]:List Nat).length,rfl,hd,aC,hsl,hT,λh=>O.in' (by rw[hO,hR,h]),λp2 e2 h2 G3 g3 k3=> ?_,λh G' k'=>O.no (by rw[hO,hR,h]) G' ((kG.put (by simp)).trans k')⟩
    have hgt:=jh _ _ _ _ h2
    have hle2:=jJ _ _ _ _ h2
    simp only[aj,bo]at hgt
    rw[h2]at hR
    have gl3:G3 l=some (.lst (b9 acc)):=k3 l _ (by simpa using nla) (by rw[cz nla];exact gl)
    exists jz gl3 (by rw[dF,av];ac_nf) ?_
    refine⟨T.length+1-e2,by ac_nf,e2,ff,acc++[p2],rfl,by rw[cz nal];exact g3,?_,((kG.put (by simp)).trans k3).mod' hl0,by ac_nf,hle2,by simp;ac_nf,hR,rfl⟩
    rw[aC,dF,dF,a9];rfl
   ·rw[hs,if_neg (by simp)]at hR
    exact O.no (by rw[hO,hR]) _ kG
end
def xZ:Str:= "0123456789"
theorem lB(c:Nat):c∈xZ.cps.toList↔bS c=true:=by
 have e:xZ.cps.toList=(bQ 10).map (· +48):=by decide+kernel
 rw[e];unfold bS;simp only[bA,iX,aB,decide_eq_true_eq];constructor
 ·rintro⟨i,hi,rfl⟩;ac_nf
 ·rintro⟨h1,h2⟩;exact⟨c-48,by ac_nf,by ac_nf⟩
theorem qK{c x:Nat}:i7 (.str ⟨#[c]⟩) (.str (cx [x]))=decide (c=x):=by
 show(cx [c]==cx [x])=_;rw[lS,cR];simp
def yq(C:Addr)(n:Nat):uN:=λps G Q EX=>∃(a dx:Addr) (T:List Nat) (d e:Nat),ps=[.ref a,.int (d:Nat)]/\d<n/\G a=some (.ins C dx (lP T e))/\(∃c,T[e]? =some c/\bS c=true)/\T.length<=600/\OD C a dx T (jQ T d e) G Q EX
section
variable{P:aG}{w:aX}{K:PySem.W.Frag}{mg:Str->Option ae}{base:Heap}{f fi ft fp fa fs C D:Addr}{fd di dt dp da ds:bb}
theorem Mj:bp ["self", "depth", "sign"] ["self", "depth"] (aJ OL):=⟨rfl,rfl,rfl,by decide+kernel,rfl,by decide+kernel,by decide+kernel⟩
theorem MW{n k:Nat}(hk:3<=k){t1 t2:Tok}(hL:mg "LETTERS" =some (.str AT t1))(hF:mg "FIGURES" =some (.str xZ t2))(c:Cls K C)(n1:NoAttr K C "signs")(n2:NoAttr K C "at")(xq:PySem.W.excIn K D su "ValueError.__new__" =true)(hD:mg "NoText" =some (.ref D))(F:Fun K "read_make" "Reader.read_make" OL f fd)(B:BN mg)
  (MS:kY P w K mg base D C 3 "read_signs" fs ds ["self"] (Iz C)) (MP:kY P w K mg base D C k "read_parts" fp dp ["self", "depth"] (vh C n)) (MH:kY P w K mg base D C k "read_held" fi di ["self", "depth"] (Bu C n)) (MQ:kY P w K mg base D C k "read_price" ft dt ["self", "depth"] (yq C n)) (MM:kY P w K mg base D C k "read_make" fa da ["self", "depth"] (wV C n)):AW P w K mg base D (k+1) f fd ["self", "depth"] (wV C (n+1)):=by
 have nd:=Mj.nd;have hUE:=eD.mk;refine La F Mj (λvs G Q EX h=> ?_) (λcdv A outer s H E as G Q EX hr h hX=> ?_)
 ·obtain⟨_,_,_,_,_,rfl,_⟩:=h;rfl
 have hU:=eQ hr;apply jB;case a=>symm
 obtain⟨a,dx,T,d,e,rfl,hd,ga,he,hT,O⟩:=h;exists cV rfl rfl ?_;left;cases d with
 |zero=>
  refine iE rfl ?_
  left
  exact⟨ce,O.no rfl G Ch.refl⟩
 |succ d=>
 rw[j7]at O;refine jK (by show((((d+1:Nat):Int))==0)=false;rw[beq_eq_false_iff_ne];ac_nf) ?_;exists gH ga rfl ?_;exists gH ga rfl ?_;exists lx (by rw[aV];ac_nf) ?_;rw[aV];exists cV rfl rfl ?_;left;rw[show i7 (.int ((e:Nat):Int)) (.int (T.length:Nat))=decide (e=T.length)by
  show(((e:Nat):Int)==((T.length:Nat):Int))=_;rw[cR];simp;ac_nf]
 refine gf (λhe1=> ?_) (λhe1=> ?_)
 ·left;have hn:T[e]? =none:=by rw[of_decide_eq_true he1];simp
  rw[hn]at O;exact⟨ce,O.no rfl G Ch.refl⟩
 have hl1:e<T.length:=by have:=of_decide_eq_false he1;ac_nf
 have hc:T[e]? =some T[e]:=au hl1;generalize T[e]=x at hc;rw[hc]at O;dsimp only at O;exists gH ga rfl ?_;exists gH ga rfl ?_;exists qZ (c:=x) (by rw[aV];ac_nf) (kF (by rw[gU];exact hc)) ?_;exists cV rfl rfl ?_;left;rw[show i7 (.str ⟨#[x]⟩) (.str (al "["))=decide (x=91)from qK];refine gf (λh=> ?_) (λh=> ?_)
 ·have hx:=of_decide_eq_true h;subst hx;rw[if_pos rfl]at O;unfold sJ at O;exists⟨⟨a,dx,_,rfl,ga,rfl⟩,?_⟩;exists⟨a,dx,T,e,rfl,ga,hc,hT,λs e2 h2=> ?_,λh2 G' k'=>O.no (by rw[h2]) G' k'⟩;left;exact⟨ce,_,GE.refl,O.ok (.sign (cx s)) e2 (by rw[h2]) _ aC (Ch.refl.put (by simp))⟩
 have h91:=of_decide_eq_false h;rw[if_neg h91]at O;exists cV rfl rfl ?_;left;rw[show i7 (.str ⟨#[x]⟩) (.str (al "("))=decide (x=40)from qK];refine gf (λh=> ?_) (λh=> ?_)
 ·have hx:=of_decide_eq_true h;subst hx;rw[if_pos rfl]at O;exists⟨⟨a,dx,_,rfl,ga,rfl⟩,?_⟩;left;exact⟨a,dx,T,d,e,by show[PV.ref a,PV.int (((d+1:Nat):Int)-1)]=_;rw[show((d+1:Nat):Int)-1=(d:Int)by ac_nf],by ac_nf,ga,hc,hT,O.in',λp e2 h2 G' g' k'=>⟨G',GE.refl,O.ok p e2 h2 G' g' k'⟩,O.no⟩
 have h40:=of_decide_eq_false h;rw[if_neg h40]at O;exists zi ?_;exists gf (λh=> ?_) (λh=> ?_)
 ·rw[if_pos ((jw x).mp (of_decide_eq_true h))]at O;exists⟨⟨a,dx,_,rfl,ga,rfl⟩,?_⟩;left;exact⟨a,dx,T,d,e,by show[PV.ref a,PV.int (((d+1:Nat):Int)-1)]=_;rw[show((d+1:Nat):Int)-1=(d:Int)by ac_nf],by ac_nf,ga,he,hT,O.in',λp e2 h2 G' g' k'=>⟨G',GE.refl,O.ok p e2 h2 G' g' k'⟩,O.no⟩
 rw[if_neg (λz=>of_decide_eq_false h ((jw x).mpr z))]at O;exists zi ?_;exists gf (λh=> ?_) (λh=> ?_)
 ·rw[if_pos ((lB x).mp (of_decide_eq_true h))]at O;exists⟨⟨a,dx,_,rfl,ga,rfl⟩,?_⟩;left;exact⟨a,dx,T,d,e,by show[PV.ref a,PV.int (((d+1:Nat):Int)-1)]=_;rw[show((d+1:Nat):Int)-1=(d:Int)by ac_nf],by ac_nf,ga,⟨x,hc,(lB x).mp (of_decide_eq_true h)⟩,hT,O.in',λp e2 h2 G' g' k'=>⟨G',GE.refl,O.ok p e2 h2 G' g' k'⟩,O.no⟩
 rw[if_neg (λz=>of_decide_eq_false h ((lB x).mpr z))]at O;exists kE (i:=(e:Nat)) (j:=((1:Nat):Int)) ga rfl (bP rfl) (λR r=>r) ?_;rw[ko (n:=1)];have g1:up G a (.ins C dx (lP T (e+1))) a=some (.ins C dx (lP T (e+1))):=aC;have k1:Ch [a] G (up G a (.ins C dx (lP T (e+1)))):=Ch.refl.put (by simp);generalize up G a (.ins C dx (lP T (e+1)))=G1 at g1 k1⊢;exists cV rfl rfl ?_;left;rw[show i7 (.str ⟨#[x]⟩) (.str (al "*"))=decide (x=42)from qK];refine gf (λh=> ?_) (λh=> ?_)
 ·rw[if_pos (of_decide_eq_true h)]at O;unfold o4 at O;exists⟨⟨a,dx,_,rfl,g1,rfl⟩,?_⟩;exists⟨a,dx,T,d,e+1,by show[PV.ref a,PV.int (((d+1:Nat):Int)-1)]=_;rw[show((d+1:Nat):Int)-1=(d:Int)by ac_nf],by ac_nf,g1,by ac_nf,hT,λh2=>O.in' (by rw[h2]),λp e2 h2 G' g' k'=> ?_,λh2 G' k'=>O.no (by rw[h2]) G' (k1.trans k')⟩;left;exact⟨ce,G',GE.refl,O.ok (.again p) e2 (by rw[h2]) G' g' (k1.trans k')⟩
 rw[if_neg (of_decide_eq_false h)]at O;exists cV rfl rfl ?_;left;rw[show i7 (.str ⟨#[x]⟩) (.str (al "-"))=decide (x=45)from qK];refine gf (λh=> ?_) (λh=> ?_)
 ·rw[if_pos (of_decide_eq_true h)]at O;left;exact⟨ce,G1,GE.refl,O.ok .blank (e+1) rfl G1 g1 k1⟩
 rw[if_neg (of_decide_eq_false h)]at O;exists cV rfl rfl ?_;left;rw[show i7 (.str ⟨#[x]⟩) (.str (al "!"))=decide (x=33)from qK];refine gf (λh=> ?_) (λh=> ?_)
 ·rw[if_pos (of_decide_eq_true h)]at O;left;exact⟨ce,G1,GE.refl,O.ok .none (e+1) rfl G1 g1 k1⟩
 rw[if_neg (of_decide_eq_false h)]at O;left;exact⟨ce,O.no rfl G1 k1⟩
end
theorem zr{am:Nat->Bool}{T:List Nat}{e:Nat}:cut T e (eE am T e)=(T.drop e).takeWhile am:=by
 unfold cut eE;rw[show e+((T.drop e).takeWhile am).length-e=((T.drop e).takeWhile am).length by ac_nf];exact(xX.mp (List.takeWhile_prefix am)).symm
theorem mn{am:Nat->Bool}:∀{l:List Nat} {c:Nat},c∈l.takeWhile am->am c=true
 |[],_,h=>by cases h
 |x::l,c,h=>by
  rw[eJ]at h;split at h
  ·rename_i hx;rcases aw.mp h with rfl|h
   ·exact hx
   ·exact mn h
  ·cases h
theorem zo{T:List Nat}{e c:Nat}(hT:T.length<=600)(hc:T[e]? =some c)(hf:bS c=true):PySem.intText? (cx (cut T e (eE bS T e)))=some (lq (cut T e (eE bS T e)))/\(cx (cut T e (eE bS T e))).length<=600:=by
 have hl:(cut T e (eE bS T e)).length<=600:=by
  unfold cut;rw[aO,aW];ac_nf
 refine⟨Ay (λx hx=> ?_) (λz=> ?_) hl,by rw[aV];exact hl⟩
 ·rw[zr]at hx;have:=mn hx;unfold bS at this;simpa using this
 ·rw[zr,uB hc,eJ,if_pos hf]at z;cases z
section
variable{P:aG}{w:aX}{K:PySem.W.Frag}{mg:Str->Option ae}{base:Heap}{f fm fp fa C D:Addr}{fd dm dp da:bb}
theorem DO{x:Str}{n:Int}{G:Gp}{Q:K2}(h:PySem.intText? x=some n)(hl:x.length<=640)(q:Q (.int n) G):zg [.str x] G Q:=⟨n,h,hl,q⟩
theorem yD:bp ["self", "depth", "number"] ["self", "depth"] (aJ wA):=⟨rfl,rfl,rfl,by decide+kernel,rfl,by decide+kernel,by decide+kernel⟩
theorem Cu{n k:Nat}(hk:2<=k){tk:Tok}(hL:mg "FIGURES" =some (.str xZ tk))(c:Cls K C)(n1:NoAttr K C "signs")(n2:NoAttr K C "at")(xq:PySem.W.excIn K D su "ValueError.__new__" =true)(hD:mg "NoText" =some (.ref D))(F:Fun K "read_price" "Reader.read_price" wA f fd)(B:BN mg)(MR:xW P w K mg base C 1 "read_row_of" fm dm ["self", "among"] (pS C))(MP:kY P w K mg base D C 2 "read_piece" fp dp ["self", "piece"] (lO C))(MM:kY P w K mg base D C k "read_make" fa da ["self", "depth"] (wV C n)):AW P w K mg base D (k+1) f fd ["self", "depth"] (yq C n):=by
 have nd:=yD.nd;have hUE:=eD.mk;refine La F yD (λvs G Q EX h=> ?_) (λcdv A outer s H E as G Q EX hr h hX=> ?_)
 ·obtain⟨_,_,_,_,_,rfl,_⟩:=h;rfl
 have hU:=eQ hr;apply jB;case a=>symm
 obtain⟨a,dx,T,d,e,rfl,hd,ga,⟨x0,hx0,hx1⟩,hT,O⟩:=h;have he:e<=T.length:=i5 (ak.mp hx0).1;have hle:=t6 (am:=bS) he;exists⟨⟨a,dx,_,rfl,ga,rfl⟩,?_⟩;exists⟨a,dx,T,xZ,bS,e,rfl,lB,ga,he,hT,?_⟩;exists⟨⟨a,dx,_,rfl,aC,rfl⟩,?_⟩;exists⟨a,dx,T,[36],eE bS T e,rfl,aC,hle,hT,by decide,λh58=> ?_,λh58=> ?_⟩
 ·have hle2:=oV h58 (by decide);obtain⟨hnum,hnl⟩:=zo hT hx0 hx1;have hsz:eE bS T e-e<=600:=by
   by_cases hz:eE bS T e-e<=600
   ·exact hz
   ·exact absurd (by unfold jQ;rw[if_pos h58,if_neg hz]) O.in'
  have hO:jQ T d e=(match gd T d (eE bS T e+1)with
    | .ok p e2=> .ok (.price (lq (cut T e (eE bS T e))) p) e2
    | .no=> .no
    | .out=> .out):=by unfold jQ;rw[if_pos h58,if_pos hsz]<;>rfl
  exists DO hnum (bj hnl (by decide)) ?_;exists⟨⟨a,dx,_,rfl,aC,rfl⟩,?_⟩;exists⟨a,dx,T,d,eE bS T e+1,rfl,hd,by rw[aC];rfl,hle2,hT,λh=>O.in' (by rw[hO,h]),λp e2 h G' g' k'=> ?_,λh G' k'=>O.no (by rw[hO,h]) G' (((Ch.refl.put (by simp)).put (by simp)).trans k')⟩;left;exact⟨ce,G',GE.refl,O.ok (.price (lq (cut T e (eE bS T e))) p) e2 (by rw[hO,h]) G' g' (((Ch.refl.put (by simp)).put (by simp)).trans k')⟩
 ·exact O.no (by unfold jQ;rw[if_neg (by rw[h58];simp)]) _ (Ch.refl.put (by simp))
end
abbrev tP:Stmt:=top 17
abbrev wD:Stmt:=top 24
section
variable{P:aG}{w:aX}{K:PySem.W.Frag}{mg:Str->Option ae}{base:Heap}{f fi:Addr}{fd di:bb}
theorem pY:bp ["pattern", "kind"] ["pattern"] (aJ tP):=⟨rfl,rfl,rfl,by decide+kernel,rfl,by decide+kernel,by decide+kernel⟩
def nH:i8:=λps G Q=>∃p,ps=[dh p]/\Q (.tup (b9 (dE p))) G
theorem CJ(F:Fun K "inner_patterns" "inner_patterns" tP f fd)(B:BN mg):jd P w K mg base 1 f fd ["pattern"] nH:=by
 have nd:=pY.nd;have hUE:=eD.mk;refine kA F pY (λvs G Q h=> ?_) (λcdv A outer s H E as G Q hr h=> ?_)
 ·obtain⟨p,rfl,_⟩:=h;rfl
 have hU:=eQ hr;apply jB;case a=>symm
 obtain⟨p,rfl,q⟩:=h;cases p with
 |none=>exact⟨ce,rfl,rfl,rfl,rfl,ce,rfl,rfl,ce,G,GE.refl,q⟩
 |blank=>exact⟨ce,rfl,rfl,rfl,rfl,ce,rfl,rfl,ce,G,GE.refl,q⟩
 |sign s=>exact⟨ce,rfl,rfl,rfl,rfl,ce,rfl,rfl,ce,G,GE.refl,q⟩
 |row ps=>exact⟨ce,rfl,rfl,G,GE.refl,q⟩
 |pick ps=>exact⟨ce,rfl,rfl,G,GE.refl,q⟩
 |again p=>exact⟨ce,rfl,rfl,rfl,rfl,ce,G,GE.refl,q⟩
 |held n p=>exact⟨ce,rfl,rfl,rfl,rfl,ce,rfl,rfl,ce,G,GE.refl,q⟩
 |price n p=>exact⟨ce,rfl,rfl,rfl,rfl,ce,rfl,rfl,ce,G,GE.refl,q⟩
theorem yG:bp ["pattern", "makes", "waiting", "make"] ["pattern"] (aJ wD):=⟨rfl,rfl,rfl,by decide+kernel,rfl,by decide+kernel,by decide+kernel⟩
def ub:i8:=λps G Q=>∃p,ps=[dh p]/\size p<=10000/\∀c,G c=none->Q (.ref c) (up G c (.lst (b9 (makes p))))
theorem Cy(F:Fun K "makes_of" "makes_of" wD f fd)(B:BN mg)(C:cQ P w K mg base 1 "inner_patterns" fi di ["pattern"] nH):jd P w K mg base 2 f fd ["pattern"] ub:=by
 have nd:=yG.nd;have hUE:=eD.mk;refine kA F yG (λvs G Q h=> ?_) (λcdv A outer s H E as G Q hr h=> ?_)
 ·obtain⟨p,rfl,_⟩:=h;rfl
 have hU:=eQ hr;apply jB;case a=>symm
 obtain⟨p,rfl,hz,q⟩:=h;refine⟨ce,λm hm=>⟨ce,λv hv=> ?_⟩⟩;obtain⟨hvm,hv⟩:=nG hv;refine⟨λk τ G'=>∃(dn st:List Pt) (z:Option PV),τ=[some (dh p),some (.ref m),some (.ref v),z]/\G' m=some (.lst (b9 dn))/\G' v=some (.lst (b9 st.reverse))/\GE G G'/\dn++fG st=makes p/\k=bL st,
  ⟨_,[],[p],.none,rfl,by rw[cz (aY hvm),aC];rfl,by rw[aC];rfl,(GE.refl.new hm).mod hv,by simp[fG],rfl⟩,?_⟩
 rintro k τ G' ⟨dn,st,z,rfl,gm,gv,ge,he,rfl⟩;have hl:dn.length+bL st=size p:=by
  have:=congrArg cX he;rwa [af,iV,iz]at this
 refine y6 (bT gv) ?_;cases st with
 |nil=>
  have hd:dn=makes p:=by simpa [fG]using he
  subst hd
  exact⟨_,ge.at gm,q m hm⟩
 |cons x st=>
  have ln:(b9 (x::st).reverse).length=st.length+1:=by rw[bU,fI];rfl
  have hs:bL (x::st)=size x+bL st:=rfl
  have hx:=cS x
  have hi:=cA (dE x)
  have hst:=cA st
  rw[show b9 (x::st).reverse=b9 st.reverse++[dh x]by rw[iW,jL];rfl]at gv ln⊢
  refine iE ?_ ?_
  ·refine decide_eq_true ?_
   rw[ln];ac_nf
  refine⟨⟨_,gv⟩,HD gv ?_⟩
  refine⟨⟨b9 dn,by rw[cz (aY hvm)];exact gm⟩,jz (by rw[cz (aY hvm)];exact gm) (by rw[bU];ac_nf) ?_⟩
  refine⟨⟨_,by rw[cz hvm,aC]⟩,x,rfl,Lc (by rw[cz hvm,aC]) ?_ ?_⟩
  ·rw[fI,bU,bU,fI];ac_nf
  refine⟨bL (dE x++st),?_,dn++[x],dE x++st,_,rfl,?_,?_,((ge.mod hv).mod hm).mod hv,?_,rfl⟩
  ·rw[gD];ac_nf
  ·rw[cz (aY hvm),aC,jL];rfl
  ·rw[aC,oA,jL,uA (dE x)]
  ·rw[si]
   rw[<-he]
   simp[fG,fE x]
end
abbrev wx:Stmt:=top 7
abbrev yd:Stmt:=top 8
abbrev yc:Stmt:=top 9
abbrev pR:Stmt:=top 18
abbrev A9:Stmt:=top 19
section
variable{P:aG}{w:aX}{K:PySem.W.Frag}{mg:Str->Option ae}{base:Heap}{f:Addr}{fd:bb}
def Pz:PV->Bool
 | .int _=>true
 |_=>false
theorem yA:bp ["thing"] ["thing"] (aJ wx):=⟨rfl,rfl,rfl,by decide+kernel,rfl,by decide+kernel,by decide+kernel⟩
def t7:i8:=λps G Q=>∃v:PV,ps=[v]/\pk v/\Q (.bl (Pz v)) G
theorem Cr(F:Fun K "is_whole" "is_whole" wx f fd)(B:BN mg):jd P w K mg base 1 f fd ["thing"] t7:=by
 have nd:=yA.nd;have hUE:=eD.mk;refine kA F yA (λvs G Q h=> ?_) (λcdv A outer s H E as G Q hr h=> ?_)
 ·obtain⟨p,rfl,_⟩:=h;rfl
 have hU:=eQ hr;apply jB;case a=>symm
 obtain⟨v,rfl,hv,q⟩:=h;cases v with
 |int n=>
  exists fQ rfl (by decide) ?_
  refine iE rfl ?_
  exists fQ rfl (by decide) ?_
  left
  exact⟨G,GE.refl,q⟩
 |str z=>
  exists fQ rfl (by decide) ?_
  refine jK rfl ?_
  exact⟨G,GE.refl,q⟩
 |tup xs=>
  exists fQ rfl (by decide) ?_
  refine jK rfl ?_
  exact⟨G,GE.refl,q⟩
 |_=>exact hv.elim
theorem all_map{xs:List PV}{g:PV->Bool}:(xs.map g).all id=xs.all g:=by
 rw[List.all_map];rfl
theorem Du{z:Str}{G:Gp}{Q:K2}(h:z.length<=16000000)(q:Q (.int z.length) G):uv [.str z] G Q:=⟨h,q⟩
theorem mQ{xs:List PV}{G:Gp}{Q:K2}(q:Q (.int xs.length) G):uv [.tup xs] G Q:=q
theorem BG:bp ["thing"] ["thing"] (aJ yd):=⟨rfl,rfl,rfl,by decide+kernel,rfl,by decide+kernel,by decide+kernel⟩
theorem Lp:eF (aJ yd) ["thing"] (ic [(".0",.local),("sign",.local),("SIGNS",.globalImplicit)]) ["sign"] [none] 0 "sign" =true:=by decide+kernel
def wR:i8:=λps G Q=>∃v:PV,ps=[v]/\pk v/\Q (.bl (ve v)) G
theorem Fy{t:Tok}(hS:mg "SIGNS" =some (.str wm t))(F:Fun K "is_text" "is_text" yd f fd)(B:BN mg):jd P w K mg base 1 f fd ["thing"] wR:=by
 have nd:=BG.nd;have hUE:=eD.mk;refine kA F BG (λvs G Q h=> ?_) (λcdv A outer s H E as G Q hr h=> ?_)
 ·obtain⟨p,rfl,_⟩:=h;rfl
 have hU:=eQ hr;apply jB;case a=>
  symm
  all_goals try (refine' ly Lp rfl ?_ λ_ _ _ _=>⟨?_,?_⟩)
  all_goals symm
 obtain⟨v,rfl,hv,q⟩:=h;cases v with
 |str z=>
  have hz:z.length<=1000:=hv.2
  exists fQ rfl (by decide) ?_
  left
  intro acc hacc
  refine wf (λ_=>true) (λx=> .bl (GG wm x)) (by rw[mm];ac_nf) (λ_=>trivial) (λx ys R hx r=>r) (λx ys R hx _ r=> ?_) ?_
  ·obtain⟨i,hi⟩:=List.getElem?_of_mem hx
   obtain⟨c,_,rfl⟩:=lj hi
   exact r
  exists kH (bs:=(dA z).map (GG wm)) (bT (by rw[aC,bB,EB.mpr (by simp)];rfl)) ?_
  left
  rw[all_map]
  exact⟨_,GE.refl.new hacc,q⟩
 |int n=>
  exists fQ rfl (by decide) ?_
  exact⟨G,GE.refl,q⟩
 |tup xs=>
  exists fQ rfl (by decide) ?_
  exact⟨G,GE.refl,q⟩
 |_=>exact hv.elim
theorem BF:bp ["thing"] ["thing"] (aJ yc):=⟨rfl,rfl,rfl,by decide+kernel,rfl,by decide+kernel,by decide+kernel⟩
theorem Lo:eF (aJ yc) ["thing"] (ic [(".0",.local),("letter",.local),("LETTERS",.globalImplicit)]) ["letter"] [none] 0 "letter" =true:=by decide+kernel
def wQ:i8:=λps G Q=>∃v:PV,ps=[v]/\pk v/\Q (.bl (qt v)) G
theorem Fx{t t':Tok}(hS:mg "LETTERS" =some (.str LN t))(hL:mg "LONGEST_WORD" =some (.int 8 t'))(F:Fun K "is_word" "is_word" yc f fd)(B:BN mg):jd P w K mg base 1 f fd ["thing"] wQ:=by
 have nd:=BF.nd;have hUE:=eD.mk;refine kA F BF (λvs G Q h=> ?_) (λcdv A outer s H E as G Q hr h=> ?_)
 ·obtain⟨p,rfl,_⟩:=h;rfl
 have hU:=eQ hr;apply jB;case a=>
  symm
  all_goals try (refine' ly Lo rfl ?_ λ_ _ _ _=>⟨?_,?_⟩)
  all_goals symm
 obtain⟨v,rfl,hv,q⟩:=h;cases v with
 |str z=>
  have hz:z.length<=1000:=hv.2
  have q':Q (.bl (jH z)) G:=q
  exists fQ rfl (by decide) ?_
  refine jK rfl ?_
  exists Du (by ac_nf) ?_
  exists gf (λh1=> ?_) (λh1=> ?_)
  ·left
   refine gf (λh2=> ?_) (λh2=> ?_)
   ·left
    refine⟨G,GE.refl,?_⟩
    have h3:decide (z.length<=8)=false:=by
     have h2':(!decide ((z.length:Int)<=8))=true:=h2;rw[Bool.not_eq_true',decide_eq_false_iff_not]at h2';exact decide_eq_false (by ac_nf)
    rw[show jH z=false by unfold jH;rw[h3,e8,bH]]at q'
    exact q'
   ·left
    intro acc hacc
    refine wf (λ_=>true) (λx=> .bl (GG LN x)) (by rw[mm];ac_nf) (λ_=>trivial) (λx ys R hx r=>r) (λx ys R hx _ r=> ?_) ?_
    ·obtain⟨i,hi⟩:=List.getElem?_of_mem hx
     obtain⟨c,_,rfl⟩:=lj hi
     exact r
    refine kH (bs:=(dA z).map (GG LN)) (bT (by rw[aC,bB,EB.mpr (by simp)];rfl)) ?_
    rw[all_map]
    refine⟨_,GE.refl.new hacc,?_⟩
    have h1':decide ((1:Int)<=z.length)=true:=h1
    have h2':(!decide ((z.length:Int)<=8))=false:=h2
    have h3:decide (z.length<=8)=true:=by
     rw[Bool.not_eq_false',decide_eq_true_iff]at h2';exact decide_eq_true (by ac_nf)
    have h4:decide (1<=z.length)=true:=by
     rw[decide_eq_true_iff]at h1';exact decide_eq_true (by ac_nf)
    rw[show jH z=(dA z).all (GG LN)by unfold jH;rw[h3,h4,dj,dj]]at q'
    exact q'
  ·left
   refine⟨G,GE.refl,?_⟩
   have h1':decide ((1:Int)<=z.length)=false:=h1
   have h4:decide (1<=z.length)=false:=by
    rw[decide_eq_false_iff_not]at h1';exact decide_eq_false (by ac_nf)
   rw[show jH z=false by unfold jH;rw[h4,bH,bH]]at q'
   exact q'
 |int n=>
  exists fQ rfl (by decide) ?_
  refine iE rfl ?_
  exact⟨G,GE.refl,q⟩
 |tup xs=>
  exists fQ rfl (by decide) ?_
  refine iE rfl ?_
  exact⟨G,GE.refl,q⟩
 |_=>exact hv.elim
end
abbrev A7:Stmt:=top 20
abbrev tR:Stmt:=top 23
theorem rT:∀ps:List Pt,(ps.map eL).all id=AS ps
 |[]=>rfl
 |p::ps=>by rw[aU,ip,rT ps];rfl
theorem rQ:∀ps:List Pt,(ps.map eL).any id=Es ps
 |[]=>rfl
 |p::ps=>by rw[aU,kQ,rQ ps];rfl
theorem v6{ps:List Pt}{i:Nat}{x:PV}(h:(b9 ps)[i]? =some x):∃c,ps[i]? =some c/\x=dh c:=by
 rw[dF,br]at h;cases e:ps[i]? with
 |none=>rw[e]at h;cases h
 |some c=>rw[e]at h;exact⟨c,rfl,(bt h).symm⟩
theorem ka{cs:List Pt}{c:Gp->Prop}{ix:List (Option Nat)}{j:Nat}{τ:jE}{te:E2}{Q:K2}{G1:Gp}{acc:Addr}(g:Pt->PV)(hz:cs.length<16000000)
  (hc:∀ys,c (up G1 acc (.lst ys))) (he:∀x ys (R:K2),x∈cs->R (g x) (up G1 acc (.lst ys))->te (L3.st (lE ix τ) j (some (dh x))) (up G1 acc (.lst ys)) R)
  (hq:Q (.ref acc) (up G1 acc (.lst (cs.map g)))):EH (b9 cs) c ix j τ ml te Q G1 acc:=by
 refine⟨λi ys G=>ys=(cs.take i).map g/\G=up G1 acc (.lst ys),⟨by simp,rfl⟩,?_,?_,?_⟩
 ·rintro i ys G hi ⟨rfl,rfl⟩;refine⟨hc _,aC,?_⟩;rw[av,aO];ac_nf
 ·rintro i ys G x hx ⟨rfl,rfl⟩;obtain⟨d,hd,rfl⟩:=v6 hx;have tk:cs.take (i+1)=cs.take i++[d]:=by rw[cK,hd];rfl
  refine iE rfl ?_;refine he d _ _ (cy hd) ⟨aC,?_,lg⟩;rw[tk,a9];rfl
 ·rintro ys G ⟨rfl,rfl⟩;rw[bU,dZ];exact hq
theorem FS{v:PV}(h:k9 v=true):qW v=true:=by
 match v,h with
 | .tup [.str k],h=>
  have:k= "none" \/k= "blank" :=by simpa [k9]using h
  rcases this with rfl|rfl<;>rfl
 | .tup [.str k,y],h=>
  have:(((k= "sign" /\ll y=true)\/(k= "row" /\dX y=true))\/(k= "pick" /\dX y=true))\/k= "again" :=by simpa [k9]using h
  rcases this with((⟨rfl,h⟩|⟨rfl,h⟩)|⟨rfl,h⟩)|rfl<;>rfl
 | .tup [.str k,y,z],h=>
  have:(k= "held" /\qt y=true)\/(k= "price" /\lp y=true):=by simpa [k9]using h
  rcases this with⟨rfl,h⟩|⟨rfl,h⟩<;>rfl
theorem AO{z:Str}(h:LL z)(lo hi:Option Int):LL (bO z lo hi):=by
 unfold bO;split
 ·exact h
 ·unfold LL;rw[o9];intro c hc;have hc':c∈(Builtin.Str.strSliceIndices lo hi 1 z.length).filterMap (z.cps[·]?):=by simpa using hc
  obtain⟨i,_,e⟩:=jY.mp hc';unfold LL at h;rw[o9]at h;exact h c (Array.mem_of_getElem? e)
theorem Nc{x y:Str}{G:Gp}{Q:K2}(q:Q (.bl (decide (x.cps.toList<y.cps.toList))) G):FW (.str x) (.str y) G Q:=q
theorem iC{α:Type}{x:α}{xs:List α}:tL (x::xs) 0=some x:=by
 unfold tL DK;rw[if_pos (by decide),if_pos (by simp only[aj];ac_nf)];rfl
section
variable{P:aG}{w:aX}{K:PySem.W.Frag}{mg:Str->Option ae}{base:Heap}{f fk fr fw ft fn fa fi:Addr}{fd dk dr dw dt dn da di:bb}
def qE:i8:=λps G Q=>∃v ys,ps=[v]/\uU v ys/\Q (.tup ys) G
theorem Ad(F:Fun K "inner_patterns" "inner_patterns" tP f fd)(B:BN mg):jd P w K mg base 1 f fd ["pattern"] qE:=by
 have nd:=pY.nd;have hUE:=eD.mk;refine kA F pY (λvs G Q h=> ?_) (λcdv A outer s H E as G Q hr h=> ?_)
 ·obtain⟨_,_,rfl,_⟩:=h;rfl
 have hU:=eQ hr;apply jB;case a=>symm
 obtain⟨v,ys,rfl,hs,q⟩:=h;cases hs with
 |none=>exact⟨ce,rfl,rfl,rfl,rfl,ce,rfl,rfl,ce,G,GE.refl,q⟩
 |blank=>exact⟨ce,rfl,rfl,rfl,rfl,ce,rfl,rfl,ce,G,GE.refl,q⟩
 |sign s=>exact⟨ce,rfl,rfl,rfl,rfl,ce,rfl,rfl,ce,G,GE.refl,q⟩
 |row=>exact⟨ce,rfl,rfl,G,GE.refl,q⟩
 |pick=>exact⟨ce,rfl,rfl,G,GE.refl,q⟩
 |again p=>exact⟨ce,rfl,rfl,rfl,rfl,ce,G,GE.refl,q⟩
 |held n p=>exact⟨ce,rfl,rfl,rfl,rfl,ce,rfl,rfl,ce,G,GE.refl,q⟩
 |price n p=>exact⟨ce,rfl,rfl,rfl,rfl,ce,rfl,rfl,ce,G,GE.refl,q⟩
theorem vt:bp ["thing"] ["thing"] (aJ pR):=⟨rfl,rfl,rfl,by decide+kernel,rfl,by decide+kernel,by decide+kernel⟩
theorem D8:eF (aJ pR) ["thing"] (ic [(".0",.local),("one",.local),("after",.local)]) ["one", "after"] [none,none] 0 "one" =true:=by decide+kernel
theorem AC:qj (ic [(".0",.local),("one",.local),("after",.local)]) ["one", "after"] [none,none] 1 "after" :=⟨rfl,by decide+kernel,rfl⟩
def qD:i8:=λps G Q=>∃v:PV,ps=[v]/\pk v/\Q (.bl (ll v)) G
theorem Ac(F:Fun K "are_rising_signs" "are_rising_signs" pR f fd)(B:BN mg)(C:cQ P w K mg base 1 "is_text" ft dt ["thing"] wR):jd P w K mg base 2 f fd ["thing"] qD:=by
 have nd:=vt.nd;have hUE:=eD.mk;refine kA F vt (λvs G Q h=> ?_) (λcdv A outer s H E as G Q hr h=> ?_)
 ·obtain⟨p,rfl,_⟩:=h;rfl
 have hU:=eQ hr;apply jB;case a=>
  symm
  all_goals try (refine' GB D8 AC rfl ?_ λ_ _ _ _=>⟨?_,Kr ?_ ?_⟩)
  all_goals symm
 obtain⟨v,rfl,hv,q⟩:=h;exists⟨v,rfl,hv,?_⟩;exists gf (λht=> ?_) (λht=> ?_)
 ·left;refine⟨G,GE.refl,?_⟩;have ht':ve v=false:=by
   have:(!ve v)=true:=ht;simpa using this
  have:ll v=false:=by
   cases v with
   |str z=>show jI z=false;unfold jI;rw[show sB z=false from ht',bH,bH]
   |_=>rfl
  rw[this]at q;exact q
 have ht':ve v=true:=by
  have:(!ve v)=false:=ht;simpa using this
 cases v with
 |str z=>
  have hz:LL z:=hv.1
  have hl:z.length<=1000:=hv.2
  have q':Q (.bl (jI z)) G:=q
  have tz:sB z=true:=ht'
  exists cV rfl rfl ?_
  exists gf (λhe=> ?_) (λhne=> ?_)
  ·left
   refine⟨G,GE.refl,?_⟩
   have he':(z== "")=true:=he
   rw[show jI z=false by unfold jI;rw[he',Bool.not_true,e8,bH]]at q'
   exact q'
  have hne':(z== "")=false:=hne
  have h1:1<=z.length:=by
   refine Nat.pos_of_ne_zero λh0=> ?_;have e0:z=⟨#[]⟩:=by
    obtain⟨cs⟩:=z;have:cs= #[]:=Array.eq_empty_of_size_eq_zero h0;rw[this]
   rw[e0]at hne';exact absurd hne' (by decide)
  have ts:=oG h1
  have tl:(bO z (some 1) none).cps.size<z.cps.size:=by
   have e:z.cps.size=z.length:=rfl;ac_nf
  exists⟨by ac_nf,?_⟩
  exists⟨hz,AO hz _ _,tl,?_⟩
  intro acc hacc
  refine AL (λx=> .bl (Ow x)) ?_ (λ_=>trivial) (λx ys R hx r=> ?_) ?_
  ·rw[pc]
   ac_nf
  ·unfold r9 at hx
   obtain⟨i,_,rfl⟩:=bA.mp hx
   exact⟨_,_,rfl,Nc r⟩
  exists kH (bs:=(r9 z (bO z (some 1) none)).map Ow) (bT (by rw[aC,bB];rfl)) ?_
  left
  rw[all_map]
  refine⟨_,GE.refl.new hacc,?_⟩
  rw[show jI z=(r9 z (bO z (some 1) none)).all Ow by unfold jI;rw[tz,hne',dj,Bool.not_false,dj]]at q'
  exact q'
 |_=>cases ht'
theorem BP:bp ["thing"] ["thing"] (aJ A9):=⟨rfl,rfl,rfl,by decide+kernel,rfl,by decide+kernel,by decide+kernel⟩
def wY:i8:=λps G Q=>∃v:PV,ps=[v]/\pk v/\Q (.bl (qW v)) G
theorem FG{dL:Addr}(hD:LH P w K dL xC)(hm:mg "LENGTHS" =some (.ref dL))(F:Fun K "has_kind" "has_kind" A9 f fd)(B:BN mg):jd P w K mg base 1 f fd ["thing"] wY:=by
 have nd:=BP.nd;have hUE:=eD.mk;refine kA F BP (λvs G Q h=> ?_) (λcdv A outer s H E as G Q hr h=> ?_)
 ·obtain⟨p,rfl,_⟩:=h;rfl
 have hU:=eQ hr;apply jB;case a=>symm
 obtain⟨v,rfl,hv,q⟩:=h;cases v with
 |int n=>
  exists fQ rfl (by decide) ?_
  refine iE rfl ?_
  exact⟨G,GE.refl,q⟩
 |str n=>
  exists fQ rfl (by decide) ?_
  refine iE rfl ?_
  exact⟨G,GE.refl,q⟩
 |tup xs=>
  exists fQ rfl (by decide) ?_
  refine jK rfl ?_
  exists mQ ?_
  exists cV rfl rfl ?_
  left
  cases xs with
  |nil=>
   refine iE rfl ?_
   exact⟨G,GE.refl,q⟩
  |cons x xs=>
   refine jK ?_ ?_
   ·show(((x::xs).length:Int)==0)=false
    simp
    ac_nf
   exists fA iC ?_
   left
   have hx:pk x:=hv.1
   cases x with
   |int n=>
    refine fQ rfl (by decide) ?_
    refine iE rfl ?_
    exact⟨G,GE.refl,q⟩
   |tup n=>
    refine fQ rfl (by decide) ?_
    refine iE rfl ?_
    exact⟨G,GE.refl,q⟩
   |str k=>
    refine fQ rfl (by decide) ?_
    refine jK rfl ?_
    exists fA iC ?_
    left
    have q':Q (.bl (xC k==some ((xs.length:Int)+1))) G:=q
    generalize xC k=o at q'⊢
    cases o with
    |none=>
     exists mQ ?_
     exists cV rfl rfl ?_
     exact⟨G,GE.refl,q'⟩
    |some n=>
     exists mQ ?_
     exists cV rfl rfl ?_
     refine⟨G,GE.refl,?_⟩
     have e:i7 (.int n) (.int ((PV.str k::xs).length:Nat))=(some n==some ((xs.length:Int)+1)):=by
      show(n==(((PV.str k::xs).length:Nat):Int))=_;rw[aj];by_cases h:n=(xs.length:Int)+1
      ·subst h;simp
      ·have h2:¬n=((xs.length+1:Nat):Int):=by ac_nf
       rw[beq_eq_false_iff_ne.mpr h2];symm
       simp[h]
     rw[<-e]at q'
     exact q'
   |_=>exact hx.elim
 |_=>exact hv.elim
theorem BM:bp ["thing", "kind"] ["thing"] (aJ A7):=⟨rfl,rfl,rfl,by decide+kernel,rfl,by decide+kernel,by decide+kernel⟩
def wW:i8:=λps G Q=>∃v:PV,ps=[v]/\pk v/\Q (.bl (k9 v)) G
theorem FE{t1 t2 t3:Tok}(h1:mg "FEWEST_PARTS" =some (.int 2 t1))(h2:mg "MOST_PARTS" =some (.int 6 t2))(h3:mg "HIGHEST_PRICE" =some (.int 1000 t3))(F:Fun K "is_make" "is_make" A7 f fd)(B:BN mg)
  (CK:cQ P w K mg base 1 "has_kind" fk dk ["thing"] wY) (CR:cQ P w K mg base 2 "are_rising_signs" fr dr ["thing"] qD) (CW:cQ P w K mg base 1 "is_word" fw dw ["thing"] wQ) (CN:cQ P w K mg base 1 "is_whole" fn dn ["thing"] t7):jd P w K mg base 3 f fd ["thing"] wW:=by
 have nd:=BM.nd;have hUE:=eD.mk;refine kA F BM (λvs G Q h=> ?_) (λcdv A outer s H E as G Q hr h=> ?_)
 ·obtain⟨p,rfl,_⟩:=h;rfl
 have hU:=eQ hr;apply jB;case a=>symm
 obtain⟨v,rfl,hv,q⟩:=h;exists⟨v,rfl,hv,?_⟩;exists gf (λhk=> ?_) (λhk=> ?_)
 ·left;refine⟨G,GE.refl,?_⟩;have:k9 v=false:=by
   have hk':(!qW v)=true:=hk;cases e:k9 v with
   |false=>rfl
   |true=>rw[FS e]at hk';cases hk'
  rw[this]at q;exact q
 have hk':qW v=true:=by
  have:(!qW v)=false:=hk;simpa using this
 cases Kb hk' with
 |none=>exact⟨rfl,rfl,ce,rfl,rfl,rfl,rfl,rfl,rfl,G,GE.refl,q⟩
 |blank=>exact⟨rfl,rfl,ce,rfl,rfl,rfl,rfl,rfl,rfl,G,GE.refl,q⟩
 |again p=>exact⟨rfl,rfl,ce,rfl,rfl,rfl,rfl,rfl,rfl,G,GE.refl,by
   have e:k9 (.tup [.str "again",p])=true:=by
    show((false&&ll p||false&&dX p)||false&&dX p||true)=true;simp
   rw[e]at q;exact q⟩
 |sign y=>exact⟨rfl,rfl,y,rfl,hv.2.1,G,GE.refl,by
   have e:k9 (.tup [.str "sign",y])=ll y:=by
    show((true&&ll y||false&&dX y)||false&&dX y||false)=_;simp
   rw[e]at q;exact q⟩
 |held y z=>exact⟨rfl,rfl,ce,rfl,rfl,rfl,rfl,y,rfl,hv.2.1,G,GE.refl,by
   have e:k9 (.tup [.str "held",y,z])=qt y:=by
    show(true&&qt y||false&&lp y)=_;simp
   rw[e]at q;exact q⟩
 |price y z=>
  have e:k9 (.tup [.str "price",y,z])=lp y:=by
   show(false&&qt y||true&&lp y)=_;simp
  rw[e]at q
  refine⟨rfl,rfl,ce,rfl,rfl,rfl,rfl,rfl,rfl,y,rfl,hv.2.1,?_⟩
  have hy:pk y:=hv.2.1
  left
  cases y with
  |int n=>
   refine iE rfl ?_
   exists gf (λh1=> ?_) (λh1=> ?_)
   ·refine⟨G,GE.refl,?_⟩
    have h1':decide ((0:Int)<=n)=true:=h1
    have e2:lp (.int n)=decide (n<=1000):=by
     show(decide (0<=n)&&decide (n<=1000))=_;rw[h1',dj]
    rw[e2]at q
    exact q
   ·refine⟨G,GE.refl,?_⟩
    have h1':decide ((0:Int)<=n)=false:=h1
    have e2:lp (.int n)=false:=by
     show(decide (0<=n)&&decide (n<=1000))=_;rw[h1',bH]
    rw[e2]at q
    exact q
  |str n=>
   refine jK rfl ?_
   exact⟨G,GE.refl,q⟩
  |tup n=>
   refine jK rfl ?_
   exact⟨G,GE.refl,q⟩
  |_=>exact hy.elim
 |row y=>
  have e:k9 (.tup [.str "row",y])=dX y:=by
   show((false&&ll y||true&&dX y)||false&&dX y||false)=_;simp
  rw[e]at q
  have hy:pk y:=hv.2.1
  cases y with
  |int n=>
   refine⟨rfl,rfl,ce,rfl,rfl,(by decide: "tuple" ∈Hc),?_⟩
   refine jK rfl ?_
   exact⟨G,GE.refl,q⟩
  |str n=>
   refine⟨rfl,rfl,ce,rfl,rfl,(by decide: "tuple" ∈Hc),?_⟩
   refine jK rfl ?_
   exact⟨G,GE.refl,q⟩
  |tup ys=>
   refine⟨rfl,rfl,ce,rfl,rfl,(by decide: "tuple" ∈Hc),?_⟩
   exists iE rfl ?_
   exists fA (i:=1) (x:= .tup ys) (xs:=[_,.tup ys]) rfl ?_
   exists mQ ?_
   exists gf (λh1=> ?_) (λh1=> ?_)
   ·refine⟨G,GE.refl,?_⟩
    have h1':decide ((2:Int)<=(ys.length:Nat))=true:=h1
    have e2:dX (.tup ys)=decide (((ys.length:Nat):Int)<=6):=by
     show(decide (2<=ys.length)&&decide (ys.length<=6))=_;rw[decide_eq_true_iff]at h1';rw[decide_eq_true (show 2<=ys.length by ac_nf),dj];exact decide_eq_decide.mpr (by ac_nf)
    rw[e2]at q
    exact q
   ·refine⟨G,GE.refl,?_⟩
    have h1':decide ((2:Int)<=(ys.length:Nat))=false:=h1
    have e2:dX (.tup ys)=false:=by
     show(decide (2<=ys.length)&&decide (ys.length<=6))=_;rw[decide_eq_false_iff_not]at h1';rw[decide_eq_false (show¬2<=ys.length by ac_nf),bH]
    rw[e2]at q
    exact q
  |_=>exact hy.elim
 |pick y=>
  have e:k9 (.tup [.str "pick",y])=dX y:=by
   show((false&&ll y||false&&dX y)||true&&dX y||false)=_;simp
  rw[e]at q
  have hy:pk y:=hv.2.1
  cases y with
  |int n=>
   refine⟨rfl,rfl,ce,rfl,rfl,(by decide: "tuple" ∈Hc),?_⟩
   refine jK rfl ?_
   exact⟨G,GE.refl,q⟩
  |str n=>
   refine⟨rfl,rfl,ce,rfl,rfl,(by decide: "tuple" ∈Hc),?_⟩
   refine jK rfl ?_
   exact⟨G,GE.refl,q⟩
  |tup ys=>
   refine⟨rfl,rfl,ce,rfl,rfl,(by decide: "tuple" ∈Hc),?_⟩
   exists iE rfl ?_
   exists fA (i:=1) (x:= .tup ys) (xs:=[_,.tup ys]) rfl ?_
   exists mQ ?_
   exists gf (λh1=> ?_) (λh1=> ?_)
   ·refine⟨G,GE.refl,?_⟩
    have h1':decide ((2:Int)<=(ys.length:Nat))=true:=h1
    have e2:dX (.tup ys)=decide (((ys.length:Nat):Int)<=6):=by
     show(decide (2<=ys.length)&&decide (ys.length<=6))=_;rw[decide_eq_true_iff]at h1';rw[decide_eq_true (show 2<=ys.length by ac_nf),dj];exact decide_eq_decide.mpr (by ac_nf)
    rw[e2]at q
    exact q
   ·refine⟨G,GE.refl,?_⟩
    have h1':decide ((2:Int)<=(ys.length:Nat))=false:=h1
    have e2:dX (.tup ys)=false:=by
     show(decide (2<=ys.length)&&decide (ys.length<=6))=_;rw[decide_eq_false_iff_not]at h1';rw[decide_eq_false (show¬2<=ys.length by ac_nf),bH]
    rw[e2]at q
    exact q
  |_=>exact hy.elim
theorem yM:bp ["pattern", "kind", "answers"] ["pattern"] (aJ tR):=⟨rfl,rfl,rfl,by decide+kernel,rfl,by decide+kernel,by decide+kernel⟩
theorem GU:eF (aJ tR) ["pattern", "kind", "answers"] (ic [(".0",.local),("part",.local),("can_be_blank",.globalImplicit)]) ["part"] [none] 0 "part" =true:=by decide+kernel
def iu(n:Nat):i8:=λps G Q=>∃p:Pt,ps=[dh p]/\depth p<n/\size p<=10000/\Q (.bl (eL p)) G
theorem CT{n k:Nat}(hk:1<=k)(F:Fun K "can_be_blank" "can_be_blank" tR f fd)(B:BN mg)(CI:cQ P w K mg base 1 "inner_patterns" fi di ["pattern"] nH)(C:cQ P w K mg base k "can_be_blank" fa da ["pattern"] (iu n)):
  jd P w K mg base (k+1) f fd ["pattern"] (iu (n+1)):=by
 have nd:=yM.nd;have hUE:=eD.mk;refine kA F yM (λvs G Q h=> ?_) (λcdv A outer s H E as G Q hr h=> ?_)
 ·obtain⟨p,rfl,_⟩:=h;rfl
 have hU:=eQ hr;apply jB;case a=>
  symm
  all_goals try (refine' nV (n:=2) (by assumption) rfl rfl GU rfl ?_ λ_ _ _ _=>⟨?_,?_⟩)
  all_goals symm
 obtain⟨p,rfl,hd,hz,q⟩:=h;have hdi:=bM p;have hsi:=cS p;have key:∀(τ:jE) (R:K2),(∀acc,G acc=none->R (.ref acc) (up G acc (.lst ((dE p).map λc=> .bl (eL c)))))->∀acc,G acc=none->EH (b9 (dE p)) (λ_=>True) [none] 0 τ ml (mz (iu n) (mD (eV 0) sw)) R G acc:=λτ R r acc hacc=>by
  refine ka (λc=> .bl (eL c)) ?_ (λ_=>trivial) (λx ys R hx r=> ?_) (r acc hacc)
  ·have:=cA (dE p);ac_nf
  ·have:=eZ hx;have:=fe hx;exact⟨x,rfl,by ac_nf,by ac_nf,r⟩
 cases p with
 |none=>exact⟨ce,rfl,rfl,ce,rfl,rfl,G,GE.refl,q⟩
 |blank=>exact⟨ce,rfl,rfl,G,GE.refl,q⟩
 |sign s=>exact⟨ce,rfl,rfl,ce,rfl,rfl,G,GE.refl,q⟩
 |again p=>exact⟨ce,rfl,rfl,G,GE.refl,q⟩
 |row ps=>
  refine⟨ce,rfl,rfl,ce,rfl,rfl,Pt.row ps,rfl,?_⟩
  refine key _ _ λacc hacc=> ?_
  refine⟨rfl,rfl,?_⟩
  refine kH (bs:=ps.map eL) (bT (by rw[aC,bB];rfl)) ?_
  rw[rT]
  exact⟨_,GE.refl.new hacc,q⟩
 |pick ps=>
  refine⟨ce,rfl,rfl,ce,rfl,rfl,Pt.pick ps,rfl,?_⟩
  refine key _ _ λacc hacc=> ?_
  refine⟨rfl,rfl,?_⟩
  refine Er (bs:=ps.map eL) (bT (by rw[aC,bB];rfl)) ?_
  rw[rQ]
  exact⟨_,GE.refl.new hacc,q⟩
 |held m p=>
  refine⟨ce,rfl,rfl,ce,rfl,rfl,Pt.held m p,rfl,?_⟩
  refine key _ _ λacc hacc=> ?_
  refine⟨rfl,rfl,?_⟩
  refine kH (bs:=[eL p]) (bT (by rw[aC];rfl)) ?_
  rw[show[eL p].all id=eL p by simp]
  exact⟨_,GE.refl.new hacc,q⟩
 |price m p=>
  refine⟨ce,rfl,rfl,ce,rfl,rfl,Pt.price m p,rfl,?_⟩
  refine key _ _ λacc hacc=> ?_
  refine⟨rfl,rfl,?_⟩
  refine kH (bs:=[eL p]) (bT (by rw[aC];rfl)) ?_
  rw[show[eL p].all id=eL p by simp]
  exact⟨_,GE.refl.new hacc,q⟩
end
abbrev A8:Stmt:=top 21
abbrev Ij:Stmt:=top 22
def GP(x:PV×Int):PV:= .tup [x.1,.int x.2]
section
variable{P:aG}{w:aX}{K:PySem.W.Frag}{mg:Str->Option ae}{base:Heap}{f fl fa fi fm:Addr}{fd dl da di dm:bb}
theorem BO:bp ["thing", "waiting", "seen", "pair", "depth", "part"] ["thing"] (aJ A8):=⟨rfl,rfl,rfl,by decide+kernel,rfl,by decide+kernel,by decide+kernel⟩
def wX:i8:=λps G Q=>∃v:PV,ps=[v]/\pk v/\∀b,(b=true↔LF v)->Q (.bl b) G
theorem FF{t1 t2:Tok}(h1:mg "DEEPEST" =some (.int 9 t1))(h2:mg "MOST_MAKES" =some (.int 40 t2))(F:Fun K "is_made_of_makes" "is_made_of_makes" A8 f fd)(B:BN mg)
  (CM:cQ P w K mg base 3 "is_make" fm dm ["thing"] wW) (CI:cQ P w K mg base 1 "inner_patterns" fi di ["pattern"] qE):jd P w K mg base 4 f fd ["thing"] wX:=by
 have nd:=BO.nd;have hUE:=eD.mk;refine kA F BO (λvs G Q h=> ?_) (λcdv A outer s H E as G Q hr h=> ?_)
 ·obtain⟨p,rfl,_⟩:=h;rfl
 have hU:=eQ hr;apply jB;case a=>symm
 obtain⟨t,rfl,ht,q⟩:=h;refine⟨ce,ce,λv hv=> ?_⟩;refine⟨λk τ G'=>∃(st:List (PV×Int)) (sn:Int) (z1 z2 z3:Option PV),τ=[some t,some (.ref v),some (.int sn),z1,z2,z3]/\G' v=some (.lst (st.map GP))/\GE G G'/\(∀x∈st,pk x.1)/\0<=sn/\sn<=40/\(k:Int)=41-sn/\(st.length:Int)<=1+6*sn/\(wn st sn↔LF t),
  ⟨41,[(t,1)],0,.none,.none,.none,rfl,by rw[aC];rfl,GE.refl.new hv,λx hx=>by cases ar.mp hx;exact ht,by decide,by decide,by decide,by simp,BZ⟩,?_⟩
 rintro k τ G' ⟨st,sn,z1,z2,z3,rfl,gv,ge,hok,hs0,hs,hk,hlen,hR⟩;refine y6 (bT gv) ?_;rcases List.eq_nil_or_concat st with rfl|⟨st',x,rfl⟩
 ·exact⟨_,ge,q _ ⟨λ_=>hR.mp (B0 hs),λ_=>rfl⟩⟩
 refine iE ?_ ?_
 ·refine decide_eq_true ?_;simp
 rw[List.concat_eq_append,a9]at gv;rw[List.concat_eq_append]at hok hlen hR;have hxo:pk x.1:=hok x (by simp);obtain⟨x,d⟩:=x;have no:¬wn (st'++[(x,d)]) sn->Q (.bl false) G:=λh=>q _ ⟨λz=>(nomatch z),λz=>absurd (hR.mpr z) h⟩;refine⟨⟨_,gv⟩,HD (y:=GP (x,d)) gv ?_⟩;exists fA (i:=1) (xs:=[x,.int d]) (x:= .int d) rfl ?_;exists gf (λhd=> ?_) (λhd=> ?_)
 ·left;have hd':(9:Int)<d:=of_decide_eq_true hd;exact⟨_,ge.mod hv,no λh=>by have:=(pZ h).1;ac_nf⟩
 have hd':¬(9:Int)<d:=of_decide_eq_false hd;exists gf (λhn=> ?_) (λhn=> ?_)
 ·left;have hn':(40:Int)<sn+1:=of_decide_eq_true hn;exact⟨_,ge.mod hv,no λh=>by have:=(pZ h).2.1;ac_nf⟩
 have hn':¬(40:Int)<sn+1:=of_decide_eq_false hn;exists fA (i:=0) (xs:=[x,.int d]) (x:=x) rfl ?_;exists⟨x,rfl,hxo,?_⟩;exists gf (λhm=> ?_) (λhm=> ?_)
 ·left;have hm':(!k9 x)=true:=hm;exact⟨_,ge.mod hv,no λh=>by rw[(pZ h).2.2.1]at hm';cases hm'⟩
 have hm':k9 x=true:=by
  have:(!k9 x)=false:=hm;simpa using this
 obtain⟨ys,hsh,hl6⟩:=JY hm';exists fA (i:=0) (xs:=[x,.int d]) (x:=x) rfl ?_;exists⟨x,ys,rfl,hsh,?_⟩;left;have hle:(st'++[(x,d)]).length=st'.length+1:=by simp
 refine⟨λi τ G2=>∃z5,τ=[some t,some (.ref v),some (.int (sn+1)),some (GP (x,d)),some (.int d),z5]/\G2 v=some (.lst ((st'++(ys.take i).map λc=>(c,d+1)).map GP))/\GE G G2,⟨_,rfl,by rw[aC];simp,ge.mod hv⟩,λ_ _ _ _ _=>trivial,?_,?_⟩
 ·rintro i y τ G2 hy ⟨z5,rfl,g2,ge2⟩;have hi:i<ys.length:=(ak.mp hy).1;exists⟨⟨_,g2⟩,?_⟩;exists⟨ce,?_⟩;exists jz g2 ?_ ?_
  ·rw[av,af,av,aO];ac_nf
  ·refine⟨_,rfl,?_,ge2.mod hv⟩;have tk:ys.take (i+1)=ys.take i++[y]:=by rw[cK,hy];rfl
   rw[aC,tk];simp only[a9,aI,aU,fW];rfl
 ·rintro τ G2 ⟨z5,rfl,g2,ge2⟩;rw[dZ]at g2;refine⟨k-1,by ac_nf,_,_,_,_,_,rfl,g2,ge2,?_,by ac_nf,by ac_nf,by ac_nf,?_,?_⟩
  ·intro y hy;rcases aH.mp hy with hy|hy
   ·exact hok y (by simp[hy])
   ·obtain⟨c,hc,rfl⟩:=bA.mp hy;exact ID hsh hxo c hc
  ·rw[af,av];ac_nf
  ·rw[<-hR];exact⟨λh=>zR (by ac_nf) hm' hsh h,λh=>(pZ h).2.2.2 ys hsh⟩
theorem uE{p c:Pt}(h:c∈makes p):depth c<=depth p/\size c<=size p:=by
 induction hn:size p using Nat.strongRecOn generalizing p with
 |_ n ih=>
  rw[fE]at h
  rcases aw.mp h with rfl|h
  ·exact⟨ap _,by ac_nf⟩
  ·obtain⟨q,hq,hc⟩:=iK.mp h
   have h1:=fe hq
   have h2:=cS p
   have h3:=eZ hq
   have h4:=bM p
   have:=ih (size q) (by ac_nf) hc rfl
   ac_nf
theorem Hu:bp ["thing", "make"] ["thing"] (aJ Ij):=⟨rfl,rfl,rfl,by decide+kernel,rfl,by decide+kernel,by decide+kernel⟩
def Bt:i8:=λps G Q=>∃v:PV,ps=[v]/\pk v/\∀b,(b=true↔P2 v)->Q (.bl b) G
theorem JC{k:Nat}(hk:4<=k)(F:Fun K "is_pattern" "is_pattern" Ij f fd)(B:BN mg)(CM:cQ P w K mg base 4 "is_made_of_makes" fm dm ["thing"] wX)(CA:cQ P w K mg base 2 "makes_of" fa da ["pattern"] ub)(CB:cQ P w K mg base k "can_be_blank" fl dl ["pattern"] (iu 21)):jd P w K mg base (k+1) f fd ["thing"] Bt:=by
 have nd:=Hu.nd;have hUE:=eD.mk;refine kA F Hu (λvs G Q h=> ?_) (λcdv A outer s H E as G Q hr h=> ?_)
 ·obtain⟨p,rfl,_⟩:=h;rfl
 have hU:=eQ hr;apply jB;case a=>symm
 obtain⟨v,rfl,hv,q⟩:=h;exists⟨v,rfl,hv,λb hb=> ?_⟩;exists gf (λhf=> ?_) (λhf=> ?_)
 ·left;have hf':(!b)=true:=hf;refine⟨_,GE.refl,q _ ⟨λz=>(nomatch z),λ⟨p,e,h1,h2,h3,_⟩=> ?_⟩⟩;rw[hb.mpr ⟨p,e,h1,h2,h3⟩]at hf';cases hf'
 have hf':b=true:=by
  have:(!b)=false:=hf;simpa using this
 obtain⟨p,rfl,hd,hz,hM⟩:=hb.mp hf';exists⟨p,rfl,by ac_nf,λm hm=> ?_⟩;left;rw[gG];exists⟨λi τ G2=>∃z1,τ=[some (dh p),z1]/\G2=up G m (.lst (b9 (makes p)))/\∀c∈(makes p).take i,Ia c=true,⟨_,rfl,rfl,by simp⟩,?_,?_,?_⟩
 ·rintro i τ G2 _ ⟨z1,rfl,rfl,_⟩;exact gG
 ·rintro i y τ G2 hy ⟨z1,rfl,rfl,hA⟩;obtain⟨c,hc,rfl⟩:=v6 hy;have hcm:=cy hc;obtain⟨hcd,hcs⟩:=uE hcm;have tk:(makes p).take (i+1)=(makes p).take i++[c]:=by rw[cK,hc];rfl
  have go:Ia c=true->∀d∈(makes p).take (i+1),Ia d=true:=λh d hd=>by
   rw[tk]at hd;rcases aH.mp hd with hd|hd
   ·exact hA d hd
   ·cases ar.mp hd;exact h
  cases c with
  |again c'=>
   have e1:depth (Pt.again c')=1+depth c':=rfl
   have e2:size (Pt.again c')=1+size c':=rfl
   refine⟨rfl,rfl,c',rfl,by ac_nf,by ac_nf,?_⟩
   refine gf (λhb'=> ?_) (λhb'=> ?_)
   ·refine⟨_,GE.refl.new hm,q _ ⟨λz=>(nomatch z),λh=> ?_⟩⟩
    have:=(lV.mp h).2.2.2 _ hcm
    have e3:(!eL c')=true:=this
    have e4:eL c'=true:=hb'
    rw[e4]at e3
    cases e3
   ·have e4:eL c'=false:=hb'
    exact⟨_,rfl,rfl,go (by show(!eL c')=true;rw[e4];rfl)⟩
  |_=>exact⟨rfl,rfl,_,rfl,rfl,go rfl⟩
 ·rintro τ G2 ⟨z1,rfl,rfl,hA⟩;rw[bU,dZ]at hA;exact⟨_,GE.refl.new hm,q _ ⟨λ_=>lV.mpr ⟨hd,hz,hM,hA⟩,λ_=>rfl⟩⟩
end
theorem dI(a b:List Nat):cx a++cx b=cx (a++b):=by
 show(⟨a.toArray++b.toArray⟩:Str)=⟨(a++b).toArray⟩;rw[List.append_toArray]
theorem GM(c:Nat):(gR c).length<=2:=by unfold gR;split<;>simp
theorem lC:∀l:List Nat,(eU l).length<=2*l.length
 |[]=>by simp[eU]
 |c::l=>by
  have:=lC l;have:=GM c;unfold eU at*;rw[aU,cL,af,aj];ac_nf
theorem AA(l:List Nat)(c:Nat):eU (l++[c])=eU l++gR c:=by
 unfold eU;simp
theorem y8(sep:List Nat):∀ls:List (List Nat),lJ (cx sep) (ls.map cx)=cx (nY sep ls)
 |[]=>rfl
 |[z]=>rfl
 |z::y::r=>by
  have ih:=y8 sep (y::r);show cx z++cx sep++lJ (cx sep) ((y::r).map cx)=cx (z++sep++nY sep (y::r));rw[ih,dI,dI]
theorem vd(sep:List Nat)(ls:List (List Nat)):gs (cx sep) (ls.map cx)=cx (nY sep ls):=by
 have e:gs (cx sep) (ls.map cx)=lJ (cx sep) (ls.map cx):=StrLaws.glued_eq_join _ _;rw[e,y8]
def sk(ls:List (List Nat)):Nat:=(ls.map cX).sum
theorem p0(sep:List Nat):∀ls:List (List Nat),(nY sep ls).length<=sk ls+ls.length*sep.length
 |[]=>by simp[nY]
 |[z]=>by simp[nY,sk]
 |z::y::r=>by
  have ih:=p0 sep (y::r);show(z++sep++nY sep (y::r)).length<=_;rw[af,af];unfold sk at*;rw[aU,jm,aj,Nat.succ_mul];ac_nf
theorem Gm(ls:List (List Nat)):nY [] ls=ls.flatten:=by
 induction ls with
 |nil=>rfl
 |cons z r ih=>
  cases r with
  |nil=>simp[nY]
  |cons y r=>
   show z++[]++nY [] (y::r)=_
   rw[ih];simp
theorem y4(ls:List (List Nat)):((ls.map cx).map (·.length)).sum=sk ls:=by
 unfold sk;rw[bB];exact congrArg List.sum (List.map_congr_left λz _=>aV z)
theorem j0:∀ps:List Pt,g9 ps=ps.map dY
 |[]=>rfl
 |p::ps=>by show dY p::g9 ps=_;rw[j0 ps];rfl
def Ris(s:Str):Prop:=s.cps.toList.Pairwise (· <·)/\∀c∈s.cps.toList,c∈wm.cps.toList
def LM(n:Str):Prop:=∀c∈n.cps.toList,cF c=true
mutual
def wp:Pt->Prop
 | .none=>True
 | .blank=>True
 | .sign s=>(1<=s.length/\s.length<=94)/\Ris s
 | .row ps=>(2<=ps.length/\ps.length<=6)/\yh ps
 | .pick ps=>(2<=ps.length/\ps.length<=6)/\yh ps
 | .again p=>eL p=false/\wp p
 | .held n p=>((1<=n.length/\n.length<=8)/\LM n)/\wp p
 | .price n p=>(0<=n/\n<=1000)/\wp p
def yh:List Pt->Prop
 |[]=>True
 |p::ps=>wp p/\yh ps
end
theorem gC:∀{ps:List Pt},yh ps↔∀c∈ps,wp c
 |[]=>by simp[yh]
 |p::ps=>by
  show wp p/\yh ps↔_;rw[gC (ps:=ps)];simp
theorem j3{p:Pt}(h:wp p):∀c∈dE p,wp c:=by
 cases p with
 |row ps=>exact gC.mp h.2
 |pick ps=>exact gC.mp h.2
 |again p=>intro c hc;cases ar.mp hc;exact h.2
 |held n p=>intro c hc;cases ar.mp hc;exact h.2
 |price n p=>intro c hc;cases ar.mp hc;exact h.2
 |_=>intro c hc;cases hc
theorem GL:∀m,m<1001->(Nat.toDigits 10 m).map Char.toNat=v4 20 m []:=by decide+kernel
theorem xm{n:Int}(h0:0<=n)(h1:n<=1000):(al (toString n)).cps.toList=jR n:=by
 obtain⟨m,rfl⟩:=zE h0;rw[PySem.W.KIN.signs_num,GL m (by ac_nf)];rfl
theorem oK{n:Int}(h0:0<=n)(h1:n<=1000):(al (toString n)).length<=1002:=by
 have:=PyProof.Rows.len_str_of_int n;ac_nf
theorem sP{n:Int}(h0:0<=n)(h1:n<=1000):n.natAbs.log2<1920:=by
 by_cases hz:n.natAbs=0
 ·rw[hz];decide
 ·rw[Nat.log2_lt hz];exact pO (by ac_nf:n.natAbs<=1000) (by decide+kernel)
mutual
theorem gB:∀(p:Pt),wp p->(dY p).length<=1200*size p
 | .none,_=>by simp[dY,size]
 | .blank,_=>by simp[dY,size]
 | .sign s,h=>by
  have h1:=lC s.cps.toList;have h2:s.cps.toList.length<=94:=h.1.2;show(91::(eU s.cps.toList++[93])).length<=1200*1;rw[aj,af];simp only[aj,bo];ac_nf
 | .row ps,h=>by
  have h1:=nA ps h.2;have h2:=p0 [32] (g9 ps);have h3:(g9 ps).length=ps.length:=by rw[j0,av]
  have h4:=h.1;show(40::(nY [32] (g9 ps)++[41])).length<=1200*(1+bL ps);rw[aj,af];simp only[aj,bo]at*;ac_nf
 | .pick ps,h=>by
  have h1:=nA ps h.2;have h2:=p0 [32,124,32] (g9 ps);have h3:(g9 ps).length=ps.length:=by rw[j0,av]
  have h4:=h.1;show(40::(nY [32,124,32] (g9 ps)++[41])).length<=1200*(1+bL ps);rw[aj,af];simp only[aj,bo]at*;ac_nf
 | .again p,h=>by
  have h1:=gB p h.2;show(42::dY p).length<=1200*(1+size p);rw[aj];ac_nf
 | .held n p,h=>by
  have h1:=gB p h.2;have h2:n.cps.toList.length<=8:=h.1.1.2;show(n.cps.toList++(58::dY p)).length<=1200*(1+size p);rw[af,aj];ac_nf
 | .price n p,h=>by
  have h1:=gB p h.2;have h2:(al (toString n)).cps.toList.length<=1002:=oK h.1.1 h.1.2;rw[xm h.1.1 h.1.2]at h2;show(jR n++(36::dY p)).length<=1200*(1+size p);rw[af,aj];ac_nf
theorem nA:∀(ps:List Pt),yh ps->sk (g9 ps)<=1200*bL ps
 |[],_=>by simp[g9,sk]
 |p::ps,h=>by
  have h1:=gB p h.1;have h2:=nA ps h.2;show((dY p::g9 ps).map cX).sum<=1200*(size p+bL ps);unfold sk at h2;rw[aU,jm];ac_nf
end
theorem eZ{ps:List Pt}{c:Pt}(h:c∈ps):depth c<=bX ps:=by
 induction ps with
 |nil=>cases h
 |cons p ps ih=>
  simp only[bX]
  rcases aw.mp h with rfl|h
  ·ac_nf
  ·have:=ih h;ac_nf
theorem fe{ps:List Pt}{c:Pt}(h:c∈ps):size c<=bL ps:=by
 induction ps with
 |nil=>cases h
 |cons p ps ih=>
  simp only[bL]
  rcases aw.mp h with rfl|h
  ·ac_nf
  ·have:=ih h;ac_nf
theorem ij(p:Pt):1<=depth p:=by rw[bM];ac_nf
theorem nZ{p:Pt}:sm p=true↔P2 (dh p):=by
 rw[lV];unfold sm MX Pk;simp[and_assoc]
variable{T:List Nat}
theorem fU{e k:Nat}{x post:List Nat}(h:T.drop e=x++post)(hk:x.length=k):T.drop (e+k)=post:=by
 subst hk;rw[<-List.drop_drop,h,List.drop_left]
theorem dN{e c:Nat}{r:List Nat}(h:T.drop e=c::r):T.drop (e+1)=r:=fU (x:=[c]) h rfl
theorem gq{e c:Nat}{r:List Nat}(h:T.drop e=c::r):T[e]? =some c:=by
 rw[<-List.head?_drop,h];rfl
theorem kz{e:Nat}{x post:List Nat}(h:T.drop e=x++post):hZ T e x=true:=by
 unfold hZ;rw[h,nu];simp
theorem mq{e c k:Nat}{r:List Nat}(h:T.drop e=c::r):hZ T e [k]=decide (c=k):=by
 unfold hZ;rw[h];show(List.take 1 (c::r)==[k])=_;rw[cR];simp
theorem ui:∀(l:List Nat) (f e:Nat) (acc post:List Nat),l.length<f->T.drop e=eU l++93::post->lm T f e acc= .ok (acc++l) (e+(eU l).length+1)
 |[],f,e,acc,post,hf,h=>by
  cases f with
  |zero=>ac_nf
  |succ f=>
   have h':T.drop e=93::post:=h
   rw[iH,mq h',if_pos (by simp)]
   simp[eU]
 |c::l,f,e,acc,post,hf,h=>by
  cases f with
  |zero=>simp at hf
  |succ f=>
   have ec:eU (c::l)=gR c++eU l:=by unfold eU;simp
   rw[ec,aI]at h
   have hl:l.length<f:=by simpa using hf
   by_cases hc:c=93\/c=92
   ·have e1:gR c=[92,c]:=by unfold gR;rw[if_pos hc]
    rw[e1]at h
    have h':T.drop e=92::(c::(eU l++93::post)):=h
    have h1:=dN h'
    have h2:=dN h1
    rw[iH,mq h',mq h',if_neg (by simp),if_pos (by simp),gq h1]
    dsimp only
    rw[ui l f (e+1+1) (acc++[c]) post hl h2,ec,e1]
    simp only[aI,eS,dS,af,aj,bo]
    congr 1
    ac_nf
   ·have e1:gR c=[c]:=by unfold gR;rw[if_neg hc]
    rw[e1]at h
    have h':T.drop e=c::(eU l++93::post):=h
    have h1:=dN h'
    have n1:c≠93:=λz=>hc (.inl z)
    have n2:c≠92:=λz=>hc (.inr z)
    rw[iH,mq h',mq h',if_neg (by simpa using n1),if_neg (by simpa using n2),gq h']
    dsimp only
    rw[ui l f (e+1) (acc++[c]) post hl h1,ec,e1]
    simp only[aI,eS,dS,af,aj,bo]
    congr 1
    ac_nf
theorem FP:∀m,m<1001->(v4 20 m []).length<=600/\(v4 20 m [])≠[]/\(v4 20 m []).all bS=true/\lq (v4 20 m [])=(m:Int):=by decide+kernel
theorem lR{n:Int}(h0:0<=n)(h1:n<=1000):(jR n).length<=600/\jR n≠[]/\(∀c∈jR n,bS c=true)/\lq (jR n)=n:=by
 obtain⟨m,rfl⟩:=zE h0;obtain⟨a,b,c,d⟩:=FP m (by ac_nf);exact⟨a,b,λx hx=>(bv.mp c) x hx,d⟩
theorem tZ{am:Nat->Bool}{e k:Nat}{x r:List Nat}(h:T.drop e=x++k::r)(hx:∀c∈x,am c=true)(hk:am k=false):eE am T e=e+x.length:=by
 unfold eE;rw[h,List.takeWhile_append_of_pos hx,eJ,if_neg (by rw[hk];simp),dz]
theorem uF{e:Nat}{x r:List Nat}(h:T.drop e=x++r):cut T e (e+x.length)=x:=by
 unfold cut;rw[h,zB,nu]
theorem y3{c:Nat}(h:cF c=true):c≠91/\c≠40/\c≠124:=by
 unfold cF at h;simp only[aB,decide_eq_true_eq]at h;ac_nf
theorem zp{c:Nat}(h:bS c=true):c≠91/\c≠40/\c≠124/\cF c=false:=by
 unfold bS at h;unfold cF;simp only[aB,decide_eq_true_eq]at h;refine⟨by ac_nf,by ac_nf,by ac_nf,?_⟩;rw[Bool.and_eq_false_iff];exact .inl (decide_eq_false (by ac_nf))
theorem tS{p:Pt}(h:wp p):∃c r,dY p=c::r/\c≠124:=by
 cases p with
 |none=>exact⟨_,_,rfl,by decide⟩
 |blank=>exact⟨_,_,rfl,by decide⟩
 |sign s=>exact⟨_,_,rfl,by decide⟩
 |row ps=>exact⟨_,_,rfl,by decide⟩
 |pick ps=>exact⟨_,_,rfl,by decide⟩
 |again p=>exact⟨_,_,rfl,by decide⟩
 |held n p=>
  have h1:1<=n.cps.toList.length:=h.1.1.1
  have h2:∀c∈n.cps.toList,cF c=true:=h.1.2
  show∃c r,n.cps.toList++(58::dY p)=c::r/\_
  generalize n.cps.toList=l at h1 h2
  cases l with
  |nil=>simp at h1
  |cons c l=>exact⟨c,_,rfl,(y3 (h2 c (by simp))).2.2⟩
 |price n p=>
  obtain⟨_,h1,h2,_⟩:=lR h.1.1 h.1.2
  show∃c r,jR n++(36::dY p)=c::r/\_
  generalize jR n=l at h1 h2
  cases l with
  |nil=>exact absurd rfl h1
  |cons c l=>exact⟨c,_,rfl,(zp (h2 c (by simp))).2.2.1⟩
def km(sep:List Nat)(ps:List Pt):List Nat:=(ps.map λp=>sep++dY p).flatten
theorem nX(sep:List Nat):∀(p:Pt) (ps:List Pt),nY sep (g9 (p::ps))=dY p++km sep ps
 |p,[]=>by
  show dY p=_;unfold km;simp
 |p,q::ps=>by
  show dY p++sep++nY sep (g9 (q::ps))=_;rw[nX sep q ps];unfold km;simp
theorem uk{g:Nat->Rd Pt}{sep:List Nat}{sr:List Nat}(hs:sep=32::sr):∀(ps:List Pt) (f e:Nat) (acc:List Pt) (post:List Nat),(∀p∈ps,∀e post,T.drop e=dY p++post->g e= .ok p (e+(dY p).length))->ps.length<f->T.drop e=km sep ps++41::post->kr g T sep f e acc= .ok (acc++ps) (e+(km sep ps).length+1)
 |[],f,e,acc,post,hg,hf,h=>by
  cases f with
  |zero=>ac_nf
  |succ f=>
   have h':T.drop e=41::post:=h
   rw[j6,mq h',if_pos (by simp)]
   simp[km]
 |p::ps,f,e,acc,post,hg,hf,h=>by
  cases f with
  |zero=>simp at hf
  |succ f=>
   have ec:km sep (p::ps)=sep++(dY p++km sep ps):=by unfold km;simp
   rw[ec,aI]at h
   have h':T.drop e=32::(sr++(dY p++km sep ps++41::post)):=by rw[h,hs];rfl
   have h1:=fU h rfl
   rw[aI]at h1
   have h2:=fU h1 rfl
   rw[j6,mq h',if_neg (by simp),kz h,if_pos rfl,hg p (by simp) _ _ h1]
   dsimp only
   rw[uk hs ps f _ (acc++[p]) post (λq hq=>hg q (by simp[hq])) (by simpa using hf) h2,ec]
   simp only[aI,eS,dS,af]
   congr 1
   ac_nf
theorem wL(sep:List Nat)(ps:List Pt)(hs:1<=sep.length):ps.length<=(km sep ps).length:=by
 induction ps with
 |nil=>simp
 |cons p ps ih=>
  have ec:km sep (p::ps)=sep++(dY p++km sep ps):=by unfold km;simp
  rw[ec,af,af,aj]
  ac_nf
theorem oR{e:Nat}{x post:List Nat}(h:T.drop e=x++post):x.length<=T.length:=by
 have:=congrArg cX h;rw[aW,af]at this;ac_nf
theorem HB:∀(d:Nat) (p:Pt) (e:Nat) (post:List Nat),wp p->depth p<=d->T.drop e=dY p++post->gd T d e= .ok p (e+(dY p).length)
 |0,p,e,post,hw,hd,h=>by have:=ij p;ac_nf
 |d+1,p,e,post,hw,hd,h=>by
  rw[j7];have ih:∀q∈dE p,∀e post,T.drop e=dY q++post->gd T d e= .ok q (e+(dY q).length):=λq hq e post h=>by
   have h1:=bM p;have h2:=eZ hq;exact HB d q e post (j3 hw q hq) (by ac_nf) h
  cases p with
  |none=>
   have h':T.drop e=33::post:=h
   rw[gq h'];rfl
  |blank=>
   have h':T.drop e=45::post:=h
   rw[gq h'];rfl
  |sign s=>
   have h':T.drop e=91::(eU s.cps.toList++93::post):=by rw[h];show 91::(eU s.cps.toList++[93])++post=_;simp
   have h1:=dN h'
   have hl:=oR h1
   have hl2:s.cps.toList.length<=94:=hw.1.2
   have hge:s.cps.toList.length<=(eU s.cps.toList).length:=by
    unfold eU;rw[oB];generalize s.cps.toList=l;induction l with
    |nil=>simp
    |cons c l ih=>
     have:1<=(gR c).length:=by unfold gR;split<;>simp
     simp only[aU,jm,aj]
     ac_nf
   rw[gq h']
   dsimp only
   rw[if_pos rfl]
   unfold sJ
   rw[ui s.cps.toList (T.length+1) (e+1) [] post (by ac_nf) h1]
   dsimp only
   rw[dS,iU]
   congr 1
   show _=e+(91::(eU s.cps.toList++[93])).length
   simp only[aj,af,bo]
   ac_nf
  |row ps=>
   obtain⟨q,rs,rfl⟩:∃q rs,ps=q::rs:=by
    cases ps with
    |nil=>have:=hw.1.1;simp at this
    |cons q rs=>exact⟨q,rs,rfl⟩
   have h':T.drop e=40::(dY q++(km [32] rs++41::post)):=by
    rw[h];show 40::(nY [32] (g9 (q::rs))++[41])++post=_;rw[nX];simp
   have h1:=dN h'
   have h2:=fU h1 rfl
   have hl:=oR h2
   have htl:=wL [32] rs (by decide)
   rw[gq h']
   dsimp only
   rw[if_neg (by decide),if_pos rfl]
   unfold iI
   rw[ih q (by show q∈q::rs;simp) _ _ h1]
   dsimp only
   obtain⟨r1,rs',rfl⟩:∃r1 rs',rs=r1::rs':=by
    cases rs with
    |nil=>have:=hw.1.1;simp at this
    |cons q rs=>exact⟨q,rs,rfl⟩
   have hnp:hZ T (e+1+(dY q).length) [32,124,32]=false:=by
    obtain⟨c,r,ec,nc⟩:=tS (gC.mp hw.2 r1 (by simp));have e2:T.drop (e+1+(dY q).length)=32::c::(r++(km [32] rs'++41::post)):=by
     rw[h2];show(([32]++dY r1)::(rs'.map λp=>[32]++dY p)).flatten++41::post=_;rw[ec];simp[km]
    unfold hZ;rw[e2];show(List.take 3 (32::c::_)==[32,124,32])=false;rw[beq_eq_false_iff_ne];intro z;simp at z;exact nc z.1
   rw[hnp,if_neg (by simp)]
   rw[uk (sep:=[32]) (sr:=[]) rfl (r1::rs') (T.length+1) _ [q] post (λp hp=>ih p (by show p∈q::r1::rs';simp[hp])) (by ac_nf) h2]
   dsimp only
   rw[if_neg (by simp)]
   congr 1
   show _=e+(40::(nY [32] (g9 (q::r1::rs'))++[41])).length
   rw[nX]
   simp only[aj,af,bo]
   ac_nf
  |pick ps=>
   obtain⟨q,rs,rfl⟩:∃q rs,ps=q::rs:=by
    cases ps with
    |nil=>have:=hw.1.1;simp at this
    |cons q rs=>exact⟨q,rs,rfl⟩
   have h':T.drop e=40::(dY q++(km [32,124,32] rs++41::post)):=by
    rw[h];show 40::(nY [32,124,32] (g9 (q::rs))++[41])++post=_;rw[nX];simp
   have h1:=dN h'
   have h2:=fU h1 rfl
   have hl:=oR h2
   have htl:=wL [32,124,32] rs (by decide)
   rw[gq h']
   dsimp only
   rw[if_neg (by decide),if_pos rfl]
   unfold iI
   rw[ih q (by show q∈q::rs;simp) _ _ h1]
   dsimp only
   obtain⟨r1,rs',rfl⟩:∃r1 rs',rs=r1::rs':=by
    cases rs with
    |nil=>have:=hw.1.1;simp at this
    |cons q rs=>exact⟨q,rs,rfl⟩
   have hnp:hZ T (e+1+(dY q).length) [32,124,32]=true:=by
    refine kz (post:=dY r1++(km [32,124,32] rs'++41::post)) ?_;rw[h2];show(([32,124,32]++dY r1)::(rs'.map λp=>[32,124,32]++dY p)).flatten++41::post=_;simp[km]
   rw[hnp,if_pos rfl]
   rw[uk (sep:=[32,124,32]) (sr:=[124,32]) rfl (r1::rs') (T.length+1) _ [q] post (λp hp=>ih p (by show p∈q::r1::rs';simp[hp])) (by ac_nf) h2]
   dsimp only
   rw[if_pos rfl]
   congr 1
   show _=e+(40::(nY [32,124,32] (g9 (q::r1::rs'))++[41])).length
   rw[nX]
   simp only[aj,af,bo]
   ac_nf
  |again q=>
   have h':T.drop e=42::(dY q++post):=h
   have h1:=dN h'
   rw[gq h']
   dsimp only
   rw[if_neg (by decide),if_neg (by decide),if_neg (by decide),if_neg (by decide),if_pos rfl]
   unfold o4
   rw[ih q (by show q∈[q];simp) _ _ h1]
   dsimp only
   congr 1
   show _=e+(42::dY q).length
   rw[aj];ac_nf
  |held n q=>
   have hn:1<=n.cps.toList.length:=hw.1.1.1
   have hle:∀c∈n.cps.toList,cF c=true:=hw.1.2
   have h':T.drop e=n.cps.toList++(58::(dY q++post)):=by rw[h];show n.cps.toList++(58::dY q)++post=_;simp
   have h1:=fU h' rfl
   have h2:=dN h1
   have hsp:=tZ h' hle (by decide)
   have hcu:=uF h'
   obtain⟨c,l,ecl⟩:∃c l,n.cps.toList=c::l:=by
    cases e:n.cps.toList with
    |nil=>rw[e]at hn;simp at hn
    |cons c l=>exact⟨c,l,rfl⟩
   have hc:=hle c (by rw[ecl];simp)
   have hn3:=y3 hc
   have h0:T.drop e=c::(l++(58::(dY q++post))):=by rw[h',ecl];rfl
   rw[gq h0]
   dsimp only
   rw[if_neg hn3.1,if_neg hn3.2.1,if_pos hc]
   unfold n6
   rw[hsp,kz (x:=[58]) h1,if_pos rfl,ih q (by show q∈[q];simp) _ _ h2]
   dsimp only
   rw[hcu,iU]
   congr 1
   show _=e+(n.cps.toList++(58::dY q)).length
   rw[af,aj];ac_nf
  |price n q=>
   obtain⟨hn1,hn2,hn3,hn4⟩:=lR hw.1.1 hw.1.2
   have h':T.drop e=jR n++(36::(dY q++post)):=by rw[h];show jR n++(36::dY q)++post=_;simp
   have h1:=fU h' rfl
   have h2:=dN h1
   have hsp:=tZ h' hn3 (by decide)
   have hcu:=uF h'
   obtain⟨c,l,ecl⟩:∃c l,jR n=c::l:=by
    cases e:jR n with
    |nil=>exact absurd e hn2
    |cons c l=>exact⟨c,l,rfl⟩
   have hc:=hn3 c (by rw[ecl];simp)
   have hn5:=zp hc
   have h0:T.drop e=c::(l++(36::(dY q++post))):=by rw[h',ecl];rfl
   rw[gq h0]
   dsimp only
   rw[if_neg hn5.1,if_neg hn5.2.1,if_neg (by rw[hn5.2.2.2];simp),if_pos hc]
   unfold jQ
   rw[hsp,kz (x:=[36]) h1,if_pos rfl,if_pos (by ac_nf),ih q (by show q∈[q];simp) _ _ h2]
   dsimp only
   rw[hcu,hn4]
   congr 1
   show _=e+(jR n++(36::dY q)).length
   rw[af,aj];ac_nf
abbrev On:Stmt:=top 29
abbrev Oo:Stmt:=top 30
theorem Lg(c:Nat):(!(bq (al "]\\") (c9 c) 0 (al "]\\").length 1).isEmpty)=decide (c=93\/c=92):=by
 have h:=PySem.StrLaws.found_one (al "]\\") c;refine Eq.trans h ?_;rw[show(al "]\\").cps.toList=[93,92]by decide+kernel];simp
theorem NN{c:Nat}{G:Gp}{Q:K2}(q:Q (.bl (decide (c=93\/c=92))) G):DP false (.str (c9 c)) (.str (al "]\\")) G Q:=by
 rw[<-Lg]at q;exact q
section
variable{P:aG}{w:aX}{K:PySem.W.Frag}{mg:Str->Option ae}{base:Heap}{f:Addr}{fd:bb}
theorem Me:bp ["signs"] ["signs"] (aJ On):=⟨rfl,rfl,rfl,by decide+kernel,rfl,by decide+kernel,by decide+kernel⟩
theorem PR:eF (aJ On) ["signs"] (ic [(".0",.local),("sign",.local),("SET_OFF",.globalImplicit)]) ["sign"] [none] 0 "sign" =true:=by decide+kernel
def zN:i8:=λps G Q=>∃s:Str,ps=[.str s]/\s.length<=94/\Q (.str (cx (Ot s))) G
theorem MK{tk:Tok}(hSO:mg "SET_OFF" =some (.str "]\\" tk))(F:Fun K "signs_text" "signs_text" On f fd)(B:BN mg):jd P w K mg base 1 f fd ["signs"] zN:=by
 have nd:=Me.nd;have hUE:=eD.mk;refine kA F Me (λvs G Q h=> ?_) (λcdv A outer s H E as G Q hr h=> ?_)
 ·obtain⟨_,rfl,_⟩:=h;rfl
 have hU:=eQ hr;apply jB;case a=>
  symm
  all_goals try (refine' ly PR rfl ?_ λ_ _ _ _=>⟨?_,?_⟩)
  all_goals symm
 obtain⟨z,rfl,hz,q⟩:=h;have hzl:z.cps.toList.length<=94:=hz;left;intro acc hacc;refine⟨λi ys G'=>ys=(z.cps.toList.take i).map (λc=>PV.str (cx (gR c)))/\G'=up G acc (.lst ys),⟨by simp,rfl⟩,?_,?_,?_⟩
 ·rintro i ys G' hi ⟨rfl,rfl⟩;refine⟨trivial,aC,?_⟩;rw[av,aO];ac_nf
 ·rintro i ys G' x hx ⟨rfl,rfl⟩;obtain⟨c,hc,rfl⟩:=lj hx;have tk:z.cps.toList.take (i+1)=z.cps.toList.take i++[c]:=by rw[cK,hc];rfl
  refine iE rfl ?_;exists NN ?_;exists gf (λh1=> ?_) (λh1=> ?_)
  ·left;have e:(al "\\")++c9 c=cx (gR c):=by
    unfold gR;rw[if_pos (of_decide_eq_true h1)];rfl
   refine eH (by show 1+1<=_;ac_nf) ?_;rw[e];exact⟨aC,by rw[tk,a9];rfl,lg⟩
  ·left;have e:c9 c=cx (gR c):=by
    unfold gR;rw[if_neg (of_decide_eq_false h1)];rfl
   rw[e];exact⟨aC,by rw[tk,a9];rfl,lg⟩
 ·rintro ys G' ⟨rfl,rfl⟩;have hl:(dA z).length=z.cps.toList.length:=by unfold dA;rw[av]
  rw[hl,dZ];left;have hle:=lC z.cps.toList;have e1:(z.cps.toList.map λc=>PV.str (cx (gR c)))=((z.cps.toList.map gR).map cx).map PV.str:=by rw[bB,bB];rfl
  have e3:sk (z.cps.toList.map gR)=(eU z.cps.toList).length:=by
   unfold sk eU;rw[oB]
  refine nW (zs:=(z.cps.toList.map gR).map cx) (by rw[gG,e1]) (by rw[y4,e3];show _+_*0<=_;ac_nf) ?_;have e2:gs (al "") ((z.cps.toList.map gR).map cx)=cx (eU z.cps.toList):=by
   rw[show al "" =cx []from rfl,vd,Gm];rfl
  rw[e2];exists eH (by rw[aV];show 1+_<=_;ac_nf) ?_;rw[show al "[" =cx [91]by decide+kernel,dI];exists eH (by rw[aV,af];show 1+_+1<=_;ac_nf) ?_;rw[show al "]" =cx [93]by decide+kernel,dI];exact⟨G,GE.refl.new hacc,q⟩
end
def yf(c:Pt):PV:= .str (cx (dY c))
theorem EM(ps:List Pt):ps.map yf=((g9 ps).map cx).map PV.str:=by
 rw[j0,bB,bB];rfl
theorem c40:al "(" =cx [40]:=by decide+kernel
theorem c41:al ")" =cx [41]:=by decide+kernel
theorem c42:al "*" =cx [42]:=by decide+kernel
theorem c58:al ":" =cx [58]:=by decide+kernel
theorem c36:al "$" =cx [36]:=by decide+kernel
theorem c33:al "!" =cx [33]:=by decide+kernel
theorem c45:al "-" =cx [45]:=by decide+kernel
theorem c32:al " " =cx [32]:=by decide+kernel
theorem Ef:al " | " =cx [32,124,32]:=by decide+kernel
theorem GY{sep:List Nat}{ps:List Pt}{acc:Addr}{G:Gp}{Q:K2}(hw:yh ps)(hp:ps.length<=6)(hs:bL ps<=200)(h3:sep.length<=3)(g:lk G acc=some (ps.map yf))
  (q:Q (.str (cx (40::(nY sep (g9 ps)++[41])))) G):sY (.str (cx sep)) [.ref acc] G λy G2=>jb (.str (al "(")) y G2 λx G1=>jb x (.str (al ")")) G1 Q:=by
 have h1:=nA ps hw;have h2:=p0 sep (g9 ps);have h4:(g9 ps).length=ps.length:=by rw[j0,av]
 have h5:(g9 ps).length*sep.length<=6*3:=Nat.mul_le_mul (by ac_nf) h3;refine nW (zs:=(g9 ps).map cx) (by rw[g,EM]) (by rw[y4,av,aV];ac_nf) ?_;rw[vd,c40,c41];refine eH (by rw[aV,aV];show 1+_<=_;ac_nf) ?_;rw[dI];refine eH (by rw[aV,aV,af];show 1+_+1<=_;ac_nf) ?_;rw[dI];exact q
section
variable{P:aG}{w:aX}{K:PySem.W.Frag}{mg:Str->Option ae}{base:Heap}{f fi ft fa:Addr}{fd di dt da:bb}
theorem Mi:bp ["pattern", "kind", "parts"] ["pattern"] (aJ Oo):=⟨rfl,rfl,rfl,by decide+kernel,rfl,by decide+kernel,by decide+kernel⟩
theorem PU:eF (aJ Oo) ["pattern", "kind", "parts"] (ic [(".0",.local),("part",.local),("pattern_text",.globalImplicit)]) ["part"] [none] 0 "part" =true:=by decide+kernel
def mO(n:Nat):i8:=λps G Q=>∃p:Pt,ps=[dh p]/\depth p<=n/\wp p/\size p<=200/\Q (yf p) G
theorem MV{n k:Nat}(hk:1<=k)(F:Fun K "pattern_text" "pattern_text" Oo f fd)(B:BN mg)(CI:cQ P w K mg base 1 "inner_patterns" fi di ["pattern"] nH)(CS:cQ P w K mg base 1 "signs_text" ft dt ["signs"] zN)
  (C:cQ P w K mg base k "pattern_text" fa da ["pattern"] (mO n)):jd P w K mg base (k+1) f fd ["pattern"] (mO (n+1)):=by
 have nd:=Mi.nd;have hUE:=eD.mk;refine kA F Mi (λvs G Q h=> ?_) (λcdv A outer s H E as G Q hr h=> ?_)
 ·obtain⟨_,rfl,_⟩:=h;rfl
 have hU:=eQ hr;apply jB;case a=>
  symm
  all_goals try (refine' nV (n:=2) (by assumption) rfl rfl PU rfl ?_ λ_ _ _ _=>⟨?_,?_⟩)
  all_goals symm
 obtain⟨p,rfl,hd,hw,hz,q⟩:=h;have hdi:=bM p;have hsi:=cS p;have hwl:=gB p hw;have key:∀(τ:jE) (R:K2),(∀acc,G acc=none->R (.ref acc) (up G acc (.lst ((dE p).map yf))))->∀acc,G acc=none->EH (b9 (dE p)) (λ_=>True) [none] 0 τ ml (mz (mO n) (mD (eV 0) sw)) R G acc:=λτ R r acc hacc=>by
  refine ka yf ?_ (λ_=>trivial) (λx ys R hx r=> ?_) (r acc hacc)
  ·have:=cA (dE p);ac_nf
  ·have:=eZ hx;have:=fe hx;exact⟨x,rfl,by ac_nf,j3 hw x hx,by ac_nf,r⟩
 cases p with
 |none=>
  unfold yf at q
  rw[show dY .none=[33]from rfl,<-c33]at q
  exact⟨rfl,rfl,G,GE.refl,q⟩
 |blank=>
  unfold yf at q
  rw[show dY .blank=[45]from rfl,<-c45]at q
  exact⟨rfl,rfl,rfl,rfl,G,GE.refl,q⟩
 |sign s=>exact⟨rfl,rfl,rfl,rfl,rfl,rfl,s,rfl,hw.1.2,G,GE.refl,q⟩
 |row ps=>
  refine⟨rfl,rfl,rfl,rfl,rfl,rfl,Pt.row ps,rfl,?_⟩
  refine key _ _ λacc hacc=> ?_
  refine⟨rfl,rfl,?_⟩
  refine iE rfl ?_
  left
  rw[c32]
  have hz':1+bL ps<=200:=hz
  exact GY (sep:=[32]) hw.2 hw.1.2 (by ac_nf) (by decide) gG ⟨G,GE.refl.new hacc,q⟩
 |pick ps=>
  refine⟨rfl,rfl,rfl,rfl,rfl,rfl,Pt.pick ps,rfl,?_⟩
  refine key _ _ λacc hacc=> ?_
  refine⟨rfl,rfl,rfl,rfl,?_⟩
  left
  rw[Ef]
  have hz':1+bL ps<=200:=hz
  exact GY (sep:=[32,124,32]) hw.2 hw.1.2 (by ac_nf) (by decide) gG ⟨G,GE.refl.new hacc,q⟩
 |again p=>
  refine⟨rfl,rfl,rfl,rfl,rfl,rfl,Pt.again p,rfl,?_⟩
  refine key _ _ λacc hacc=> ?_
  refine⟨rfl,rfl,rfl,rfl,rfl,rfl,?_⟩
  refine iE rfl ?_
  exists fT gG iC ?_
  have hz':1+size p<=200:=hz
  have hw1:=gB p hw.2
  refine eH (by rw[aV];show 1+_<=_;ac_nf) ?_
  rw[c42,dI]
  exact⟨G,GE.refl.new hacc,q⟩
 |held m p=>
  refine⟨rfl,rfl,rfl,rfl,rfl,rfl,Pt.held m p,rfl,?_⟩
  refine key _ _ λacc hacc=> ?_
  refine⟨rfl,rfl,rfl,rfl,rfl,rfl,?_⟩
  refine jK rfl ?_
  exists⟨rfl,rfl,?_⟩
  exists iE rfl ?_
  left
  have hz':1+size p<=200:=hz
  have hw1:=gB p hw.2
  have hm8:=hw.1.1.2
  refine eH (by show _+1<=_;ac_nf) ?_
  exists fT gG iC ?_
  have em:=iU m
  rw[c58,<-em,dI]
  refine eH (by rw[aV,aV,af];show m.length+1+_<=_;ac_nf) ?_
  rw[dI]
  refine⟨G,GE.refl.new hacc,?_⟩
  rw[aI]
  exact q
 |price m p=>
  refine⟨rfl,rfl,rfl,rfl,rfl,rfl,Pt.price m p,rfl,?_⟩
  refine key _ _ λacc hacc=> ?_
  refine⟨rfl,rfl,rfl,rfl,rfl,rfl,?_⟩
  refine jK rfl ?_
  exists⟨sP hw.1.1 hw.1.2,?_⟩
  exists cV rfl rfl ?_
  exists jK rfl ?_
  left
  have hz':1+size p<=200:=hz
  have hw1:=gB p hw.2
  have hm8:=oK hw.1.1 hw.1.2
  refine eH (by show _+1<=_;ac_nf) ?_
  exists fT gG iC ?_
  have em:=iU (al (toString m))
  rw[c36,<-em,dI]
  refine eH (by rw[aV,aV,af];show(al (toString m)).length+1+_<=_;ac_nf) ?_
  rw[dI]
  refine⟨G,GE.refl.new hacc,?_⟩
  rw[aI,xm hw.1.1 hw.1.2]
  exact q
end
abbrev OK:Stmt:=top 32
def IA:uN:=λps G Q EX=>(∃T:List Nat,ps=[.str (cx T)]/\T.length<=600/\(∀p e,gd T 9 0= .ok p e->pk (dh p)/\(sm p=true->wp p))/\uS T≠ .out/\(∀p e,uS T= .ok p e->Q (dh p) G)/\(uS T= .no->∀G',GE G G'->EX G'))\/
 (∃v ty,ps=[v]/\Oq v G=some ty/\NK ty "str" =false/\EX G)
section
variable{P:aG}{w:aX}{K:PySem.W.Frag}{mg:Str->Option ae}{base:Heap}{f fi ft fm fs C D:Addr}{fd di dt dm ds:bb}
theorem Mh:bp ["thing", "pattern"] ["thing"] (aJ OK):=⟨rfl,rfl,rfl,by decide+kernel,rfl,by decide+kernel,by decide+kernel⟩
theorem MN{k:Nat}(hk:2<=k){t1 t2:Tok}(h600:mg "LONGEST_READ" =some (.int 600 t1))(h9:mg "DEEPEST" =some (.int 9 t2))(xq:PySem.W.excIn K D su "ValueError.__new__" =true)(hD:mg "NoText" =some (.ref D))(F:Fun K "read_pattern" "read_pattern" OK f fd)(B:BN mg)(Mk1:Mk K C fi)(oki:jd P w K mg base 1 fi di ["self", "text"] (wZ C))(bi:Binds K di ["self", "text"] [])(hC:mg "Reader" =some (.ref C))
  (MT:kY P w K mg base D C k "read_make" ft dt ["self", "depth"] (wV C 10)) (CI:cQ P w K mg base k "is_pattern" fm dm ["thing"] Bt) (CP:cQ P w K mg base k "pattern_text" fs ds ["pattern"] (mO 9)):AW P w K mg base D (k+1) f fd ["thing"] IA:=by
 have nd:=Mh.nd;have hUE:=eD.mk;refine La F Mh (λvs G Q EX h=> ?_) (λcdv A outer s H E as G Q EX hr h hX=> ?_)
 ·rcases h with⟨_,rfl,_⟩|⟨_,_,rfl,_⟩<;>rfl
 have hU:=eQ hr;apply jB;case a=>symm
 rcases h with⟨T,rfl,hT,hf,ho,q1,q2⟩|⟨v,ty,rfl,hv,hty,q⟩
 ·left;refine fQ rfl (by decide) ?_;refine jK rfl ?_;exists lx (by rw[aV];ac_nf) ?_;rw[aV];exists jK (by rw[decide_eq_false_iff_not];ac_nf) ?_;left;intro x dx hx hdx ne;refine⟨x,dx,T,rfl,aC,rfl,?_⟩;rw[lg];exists⟨⟨x,dx,_,rfl,aC,rfl⟩,?_⟩;left;have geC:∀G',Ch [x] (up G x (.ins C dx (lP T 0))) G'->GE G G':=λG' c=>((GE.refl.new hx).ch.trans c).ge λb hb=>by cases ar.mp hb;exact hx
  refine⟨x,dx,T,9,0,rfl,by decide,aC,c8 _,hT,λh=>ho (by unfold uS;rw[h]),λp e2 h G' g' k'=> ?_,λh G' k'=>q2 (by unfold uS;rw[h]) G' (geC G' k')⟩;have ge:=geC G' k';obtain⟨hok,hwp⟩:=hf _ _ h;exists⟨dh p,rfl,hok,λb hb=> ?_⟩;rw[<-nZ]at hb;cases b with
  |false=>
   refine iE rfl ?_
   left
   have hz:sm p=false:=by
    cases z:sm p with
    |false=>rfl
    |true=>exact absurd (hb.mpr z) (by simp)
   exact⟨ce,q2 (by unfold uS;rw[h];simp[hz]) G' ge⟩
  |true=>
   refine jK rfl ?_
   left
   have hz:=hb.mp rfl
   obtain⟨hd,hs,_⟩:=lV.mp (nZ.mp hz)
   refine⟨p,rfl,hd,hwp hz,by ac_nf,?_⟩
   exists qR rfl rfl ?_
   rw[show i7 (yf p) (.str (cx T))=(dY p==T)from lS _ _]
   cases hw:dY p==T with
   |true=>
    refine jK rfl ?_
    left
    exact⟨G,ge,q1 p e2 (by unfold uS;rw[h];simp[hz,hw])⟩
   |false=>
    refine iE rfl ?_
    left
    exact⟨ce,q2 (by unfold uS;rw[h];simp[hw]) G' ge⟩
 ·left;refine fQ hv (by decide) ?_;rw[hty];refine iE rfl ?_;left;exact⟨ce,q⟩
end
def sj(T:List Nat):Nat->Nat->List Nat->List Nat×Nat
 |0,e,acc=>(acc,e)
 |f+1,e,acc=>match T[e]? with
  |none=>(acc,e)
  |some c=>if c=93 then(acc,e)else
   let e1:=if c=92 then e+1 else e
   sj T f (e1+1) (acc++T[e1]?.toList)
def wt(g:Nat->Option (Pt×Nat))(T:List Nat):Nat->Option (Pt×Nat)->List Pt->Bool->Option (Pt×Nat)
 |0,_,_,_=>none
 |_+1,none,_,_=>none
 |f+1,some (p,e),ps,b=>
  let b':=b||(ps.isEmpty&&hZ T e [32,124,32])
  if hZ T e [41]then some (if b' then .pick (ps++[p])else .row (ps++[p]),e+1)else
   let s:=if b' then[32,124,32]else[32]
   wt g T f (if hZ T e s then g (e+s.length)else none) (ps++[p]) b'
def jo(T:List Nat):Nat->Nat->Option (Pt×Nat)
 |0,_=>none
 |d+1,e=>match T[e]? with
  |none=>none
  |some c=>
   if c=33 then some (.none,e+1)
   else if c=45 then some (.blank,e+1)
   else if c=91 then some (.sign (cx (sj T (T.length+1) (e+1) []).1),(sj T (T.length+1) (e+1) []).2+1)
   else if c=40 then wt (jo T d) T (T.length+1) (jo T d (e+1)) [] false
   else if c=42 then(jo T d (e+1)).map λx=>(.again x.1,x.2)
   else if e<eE bS T e/\eE bS T e<e+5/\hZ T (eE bS T e) [36]=true then
    (jo T d (eE bS T e+1)).map λx=>(.price (lq (cut T e (eE bS T e))) x.1,x.2)
   else if e<eE cF T e/\eE cF T e<e+9/\hZ T (eE cF T e) [58]=true then
    (jo T d (eE cF T e+1)).map λx=>(.held (cx (cut T e (eE cF T e))) x.1,x.2)
   else none
mutual
def lw(n:Nat):Pt->Prop
 | .none=>True
 | .blank=>True
 | .sign s=>s.length<=n
 | .row ps=>Df n ps
 | .pick ps=>Df n ps
 | .again p=>lw n p
 | .held m p=>((1<=m.length/\m.length<=8)/\LM m)/\lw n p
 | .price m p=>(0<=m/\m<=9999)/\lw n p
def Df(n:Nat):List Pt->Prop
 |[]=>True
 |p::ps=>lw n p/\Df n ps
end
theorem lT{n:Nat}:∀{ps:List Pt},Df n ps↔∀c∈ps,lw n c
 |[]=>by simp[Df]
 |p::ps=>by
  show lw n p/\Df n ps↔_;rw[lT (ps:=ps)];simp
theorem Dh{T:List Nat}:∀(f e:Nat) (acc:List Nat),e<=T.length+1->e<=(sj T f e acc).2/\(sj T f e acc).2<=T.length+1/\(sj T f e acc).1.length+e<=acc.length+(sj T f e acc).2
 |0,e,acc,h=>⟨ap _,h,by show acc.length+e<=acc.length+e;ac_nf⟩
 |f+1,e,acc,h0=>by
  unfold sj;cases h:T[e]? with
  |none=>exact⟨ap _,h0,ap _⟩
  |some c=>
   have he:e<T.length:=(ak.mp h).1
   dsimp only
   split
   ·exact⟨ap _,h0,ap _⟩
   ·generalize hz:(if c=92 then e+1 else e)=e1
    have h1:e<=e1/\e1<=e+1:=by rw[<-hz];split<;>ac_nf
    have hl:(T[e1]?.toList).length<=1:=by cases T[e1]? <;>simp
    obtain⟨i1,i2,i3⟩:=Dh (T:=T) f (e1+1) (acc++T[e1]?.toList) (by ac_nf)
    rw[af]at i3
    exact⟨by ac_nf,i2,by ac_nf⟩
theorem C0:∀(l:List Nat) (a k:Nat),(∀c∈l,bS c=true)->a<10^k->l.foldl (λn c=>n*10+(c-48)) a<10^(k+l.length)
 |[],a,k,_,h=>by simpa using h
 |c::l,a,k,hc,h=>by
  have h1:=hc c (by simp);unfold bS at h1;simp only[aB,decide_eq_true_eq]at h1;have:=C0 l (a*10+(c-48)) (k+1) (λx hx=>hc x (by simp[hx])) (by rw[Nat.pow_succ];ac_nf);rw[mj,aj,show k+(l.length+1)=k+1+l.length by ac_nf];exact this
theorem yo{am:Nat->Bool}{T:List Nat}{e:Nat}:∀c∈cut T e (eE am T e),am c=true:=by
 unfold cut eE;rw[zB];intro c hc;have e1:(T.drop e).take ((T.drop e).takeWhile am).length=(T.drop e).takeWhile am:=(xX.mp (List.takeWhile_prefix am)).symm;rw[e1]at hc;have:∀l:List Nat,∀c∈l.takeWhile am,am c=true:=λl=>by
  induction l with
  |nil=>intro c hc;cases hc
  |cons a l ih=>
   intro c hc
   rw[eJ]at hc
   split at hc
   ·rename_i h
    rcases aw.mp hc with rfl|hc
    ·exact h
    ·exact ih c hc
   ·cases hc
 exact this _ c hc
theorem lN{am:Nat->Bool}{T:List Nat}{e:Nat}(h:e<=T.length):e<=eE am T e/\eE am T e<=T.length/\(cut T e (eE am T e)).length=eE am T e-e:=by
 have h1:=t6 (am:=am) h;have h2:e<=eE am T e:=by unfold eE;ac_nf
 refine⟨h2,h1,?_⟩;unfold cut;rw[aO,aW];ac_nf
structure Lk(T:List Nat)(d e:Nat)(p:Pt)(e2:Nat):Prop where
 w:lw (T.length+1) p
 d:depth p<=d
 s:e+size p<=e2
 t:e2<=T.length+2
theorem Dk{T:List Nat}{d e0:Nat}{g:Nat->Option (Pt×Nat)}(hg:∀e p e2,e<=T.length+2->g e=some (p,e2)->Lk T d e p e2):∀(f e1:Nat) (x:Option (Pt×Nat)) (ps:List Pt) (b:Bool) (p:Pt) (e2:Nat),
  (∀q e',x=some (q,e')->Lk T d e1 q e')->Df (T.length+1) ps->bX ps<=d->e0+1+bL ps<=e1->wt g T f x ps b=some (p,e2)->Lk T (d+1) e0 p e2
 |0,_,_,_,_,_,_,_,_,_,_,h=>by cases h
 |f+1,e1,none,ps,b,p,e2,hx,hw,hd,hs,h=>by cases h
 |f+1,e1,some (q,e'),ps,b,p,e2,hx,hw,hd,hs,h=>by
  obtain⟨k1,k2,k3,k4⟩:=hx q e' rfl;unfold wt at h;dsimp only at h;have w2:Df (T.length+1) (ps++[q]):=lT.mpr λc hc=>by
   rcases aH.mp hc with hc|hc
   ·exact lT.mp hw c hc
   ·cases ar.mp hc;exact k1
  have d2:bX (ps++[q])<=d:=by rw[mB];simp only[bX];ac_nf
  have s2:e0+1+bL (ps++[q])<=e':=by rw[gD];simp only[bL];ac_nf
  generalize (b||(ps.isEmpty&&hZ T e' [32,124,32]))=b' at h;split at h
  ·rename_i hf;have he:e'<T.length:=(ak.mp (n9.mp hf)).1;cases h;cases b' with
   |true=>exact⟨w2,by show 1+bX _<=_;ac_nf,by show e0+(1+bL _)<=_;ac_nf,by ac_nf⟩
   |false=>exact⟨w2,by show 1+bX _<=_;ac_nf,by show e0+(1+bL _)<=_;ac_nf,by ac_nf⟩
  ·generalize hsep:(if b'=true then[32,124,32]else[32])=sep at h;have hsl:1<=sep.length/\sep.length<=3:=by rw[<-hsep];split<;>decide
   refine Dk hg f (e'+sep.length) _ (ps++[q]) b' p e2 (λr e3 hr=> ?_) w2 d2 (by ac_nf) h;split at hr
   ·rename_i hf;refine hg _ _ _ ?_ hr;have:e'+sep.length<=T.length:=by
     unfold hZ at hf;rw[beq_iff_eq]at hf;have:=congrArg cX hf;rw[aO,aW]at this;ac_nf
    ac_nf
   ·cases hr
theorem qS{T:List Nat}:∀(d e:Nat) (p:Pt) (e2:Nat),e<=T.length+2->jo T d e=some (p,e2)->Lk T d e p e2
 |0,e,p,e2,_,h=>by cases h
 |d+1,e,p,e2,he,h=>by
  have ih:=qS (T:=T) d;unfold jo at h;cases hc:T[e]? with
  |none=>rw[hc]at h;cases h
  |some c=>
   rw[hc]at h
   dsimp only at h
   have hl:e<T.length:=(ak.mp hc).1
   split at h
   ·cases h;exact⟨trivial,by show 1<=_;ac_nf,by show e+1<=_;ac_nf,by ac_nf⟩
   split at h
   ·cases h;exact⟨trivial,by show 1<=_;ac_nf,by show e+1<=_;ac_nf,by ac_nf⟩
   split at h
   ·cases h
    obtain⟨i1,i2,i3⟩:=Dh (T:=T) (T.length+1) (e+1) [] (by ac_nf)
    simp only[bo]at i3
    refine⟨?_,by show 1<=_;ac_nf,by show e+1<=_;ac_nf,by ac_nf⟩
    show(cx _).length<=_
    rw[aV]
    ac_nf
   split at h
   ·exact Dk (λe p e2 h1 h2=>ih e p e2 h1 h2) _ (e+1) _ [] false p e2 (λq e' hq=>ih _ _ _ (by ac_nf) hq) trivial (by simp only[bX];ac_nf) (by simp only[bL];ac_nf) h
   split at h
   ·cases hx:jo T d (e+1)with
    |none=>rw[hx]at h;cases h
    |some x=>
     rw[hx]at h
     cases h
     obtain⟨k1,k2,k3,k4⟩:=ih _ x.1 x.2 (by ac_nf) hx
     exact⟨k1,by show 1+depth x.1<=_;ac_nf,by show e+(1+size x.1)<=_;ac_nf,k4⟩
   split at h
   ·rename_i hf
    obtain⟨b1,b2,b3⟩:=lN (am:=bS) (T:=T) (e:=e) (by ac_nf)
    cases hx:jo T d (eE bS T e+1)with
    |none=>rw[hx]at h;cases h
    |some x=>
     rw[hx]at h
     cases h
     obtain⟨k1,k2,k3,k4⟩:=ih _ x.1 x.2 (by ac_nf) hx
     have hn:=C0 (cut T e (eE bS T e)) 0 0 yo (by decide)
     rw[b3,Nat.zero_add]at hn
     have h10:(10:Nat)^(eE bS T e-e)<=10^4:=Nat.pow_le_pow_right (by decide) (by ac_nf)
     refine⟨⟨⟨?_,?_⟩,k1⟩,by show 1+depth x.1<=_;ac_nf,by show e+(1+size x.1)<=_;ac_nf,k4⟩
     ·unfold lq;ac_nf
     ·unfold lq
      have:(10:Nat)^4=10000:=by decide
      ac_nf
   split at h
   ·rename_i hf
    obtain⟨b1,b2,b3⟩:=lN (am:=cF) (T:=T) (e:=e) (by ac_nf)
    cases hx:jo T d (eE cF T e+1)with
    |none=>rw[hx]at h;cases h
    |some x=>
     rw[hx]at h
     cases h
     obtain⟨k1,k2,k3,k4⟩:=ih _ x.1 x.2 (by ac_nf) hx
     refine⟨⟨⟨⟨?_,?_⟩,?_⟩,k1⟩,by show 1+depth x.1<=_;ac_nf,by show e+(1+size x.1)<=_;ac_nf,k4⟩
     ·rw[aV,b3];ac_nf
     ·rw[aV,b3];ac_nf
     ·unfold LM;rw[gU];exact yo
   ·cases h
theorem xA{T:List Nat}:∀(l:List Nat) (f e:Nat) (acc post:List Nat),l.length<f->T.drop e=eU l++93::post->sj T f e acc=(acc++l,e+(eU l).length)
 |[],f,e,acc,post,hf,h=>by
  cases f with
  |zero=>ac_nf
  |succ f=>
   have h':T.drop e=93::post:=h
   unfold sj
   rw[gq h']
   simp[eU]
 |c::l,f,e,acc,post,hf,h=>by
  cases f with
  |zero=>simp at hf
  |succ f=>
   have ec:eU (c::l)=gR c++eU l:=by unfold eU;simp
   rw[ec,aI]at h
   have hl:l.length<f:=by simpa using hf
   unfold sj
   by_cases hc:c=93\/c=92
   ·have e1:gR c=[92,c]:=by unfold gR;rw[if_pos hc]
    rw[e1]at h
    have h':T.drop e=92::(c::(eU l++93::post)):=h
    have h1:=dN h'
    have h2:=dN h1
    rw[gq h']
    dsimp only
    rw[if_neg (by decide),if_pos rfl,gq h1]
    show sj T f (e+1+1) (acc++[c])=_
    rw[xA l f (e+1+1) (acc++[c]) post hl h2,ec,e1]
    simp only[aI,eS,dS,af,aj,bo]
    congr 1
    ac_nf
   ·have e1:gR c=[c]:=by unfold gR;rw[if_neg hc]
    rw[e1]at h
    have h':T.drop e=c::(eU l++93::post):=h
    have h1:=dN h'
    rw[gq h']
    dsimp only
    rw[if_neg λz=>hc (.inl z),if_neg λz=>hc (.inr z),gq h']
    show sj T f (e+1) (acc++[c])=_
    rw[xA l f (e+1) (acc++[c]) post hl h1,ec,e1]
    simp only[aI,eS,dS,af,aj,bo]
    congr 1
    ac_nf
def gE(b:Bool):List Nat:=if b then[32,124,32]else[32]
def FU(b:Bool)(ps:List Pt):Pt:=if b then .pick ps else .row ps
theorem nR{g:Nat->Option (Pt×Nat)}{T:List Nat}{f e:Nat}{p:Pt}{ps:List Pt}{b b':Bool}(h:(b||(ps.isEmpty&&hZ T e [32,124,32]))=b'):wt g T (f+1) (some (p,e)) ps b=if hZ T e [41]then some (FU b' (ps++[p]),e+1)else wt g T f (if hZ T e (gE b')then g (e+(gE b').length)else none) (ps++[p]) b':=by
 subst h;rfl
theorem Dj{T:List Nat}{g:Nat->Option (Pt×Nat)}{b:Bool}:∀(rest:List Pt) (f e:Nat) (p a:Pt) (acc post:List Nat×List Pt),(∀q∈rest,∀e post,T.drop e=dY q++post->g e=some (q,e+(dY q).length))->rest.length<f->T.drop e=km (gE b) rest++41::post.1->
  wt g T f (some (p,e)) (a::acc.2) b=some (FU b (a::acc.2++p::rest),e+(km (gE b) rest).length+1)
 |[],f,e,p,a,acc,post,hg,hf,h=>by
  cases f with
  |zero=>ac_nf
  |succ f=>
   have h':T.drop e=41::post.1:=h
   rw[nR (b':=b) (by simp),mq h',if_pos (by simp)]
   simp[km]
 |q::rest,f,e,p,a,acc,post,hg,hf,h=>by
  cases f with
  |zero=>simp at hf
  |succ f=>
   have ec:km (gE b) (q::rest)=gE b++(dY q++km (gE b) rest):=by unfold km;simp
   rw[ec,aI]at h
   obtain⟨sr,hsr⟩:∃sr,gE b=32::sr:=by cases b<;>exact⟨_,rfl⟩
   have h':T.drop e=32::(sr++(dY q++km (gE b) rest++41::post.1)):=by rw[h,hsr];rfl
   have h1:=fU h rfl
   rw[aI]at h1
   have h2:=fU h1 rfl
   rw[nR (b':=b) (by simp),mq h',if_neg (by simp),kz h,if_pos rfl,hg q (by simp) _ _ h1]
   have:=Dj rest f _ q a ([],acc.2++[p]) post (λr hr=>hg r (by simp[hr])) (by simpa using hf) h2
   rw[show(a::acc.2++[p])=a::(acc.2++[p])from rfl,this,ec]
   simp only[aI,eS,dS,af]
   congr 2
   ac_nf
theorem M8{c:Nat}{r:List Nat}{T:List Nat}{e:Nat}(h:T.drop e=c::r)(hc:bS c=false):eE bS T e=e:=by
 unfold eE;rw[h,eJ,if_neg (by rw[hc];simp)];rfl
theorem Dt{c:Nat}(h:cF c=true):bS c=false/\c≠33/\c≠45/\c≠91/\c≠40/\c≠42:=by
 unfold cF at h;simp only[aB,decide_eq_true_eq]at h;refine⟨?_,by ac_nf,by ac_nf,by ac_nf,by ac_nf,by ac_nf⟩;unfold bS;rw[Bool.and_eq_false_iff];exact .inr (decide_eq_false (by ac_nf))
theorem DZ{c:Nat}(h:bS c=true):c≠33/\c≠45/\c≠91/\c≠40/\c≠42:=by
 unfold bS at h;simp only[aB,decide_eq_true_eq]at h;exact⟨by ac_nf,by ac_nf,by ac_nf,by ac_nf,by ac_nf⟩
theorem FO:∀m,m<1001->(v4 20 m []).length<=4:=by decide+kernel
theorem iA{T:List Nat}{d e c:Nat}(h:T[e]? =some c):jo T (d+1) e=
   if c=33 then some (.none,e+1)
   else if c=45 then some (.blank,e+1)
   else if c=91 then some (.sign (cx (sj T (T.length+1) (e+1) []).1),(sj T (T.length+1) (e+1) []).2+1)
   else if c=40 then wt (jo T d) T (T.length+1) (jo T d (e+1)) [] false
   else if c=42 then(jo T d (e+1)).map λx=>(.again x.1,x.2)
   else if e<eE bS T e/\eE bS T e<e+5/\hZ T (eE bS T e) [36]=true then
    (jo T d (eE bS T e+1)).map λx=>(.price (lq (cut T e (eE bS T e))) x.1,x.2)
   else if e<eE cF T e/\eE cF T e<e+9/\hZ T (eE cF T e) [58]=true then
    (jo T d (eE cF T e+1)).map λx=>(.held (cx (cut T e (eE cF T e))) x.1,x.2)
   else none:=by
 conv=>lhs;unfold jo
 rw[h]
theorem sV{T:List Nat}{d e:Nat}{q r1:Pt}{rs post:List Nat}{rs':List Pt}(b:Bool)(ih:∀x∈q::r1::rs',∀e post,T.drop e=dY x++post->jo T d e=some (x,e+(dY x).length))(hw:b=false->wp r1)
  (h1:T.drop (e+1)=dY q++(km (gE b) (r1::rs')++41::post)):wt (jo T d) T (T.length+1) (jo T d (e+1)) [] false=some (FU b (q::r1::rs'),e+1+(dY q).length+(km (gE b) (r1::rs')).length+1):=by
 have h2:=fU h1 rfl;have hl:=oR h2;have htl:=wL (gE b) (r1::rs') (by cases b<;>decide);have hnp:hZ T (e+1+(dY q).length) [32,124,32]=b:=by
  cases b with
  |true=>
   refine kz (post:=dY r1++(km [32,124,32] rs'++41::post)) ?_
   rw[h2]
   show(([32,124,32]++dY r1)::(rs'.map λp=>[32,124,32]++dY p)).flatten++41::post=_
   simp[km]
  |false=>
   obtain⟨c,r,ec,nc⟩:=tS (hw rfl)
   have e2:T.drop (e+1+(dY q).length)=32::c::(r++(km [32] rs'++41::post)):=by
    rw[h2];show(([32]++dY r1)::(rs'.map λp=>[32]++dY p)).flatten++41::post=_;rw[ec];simp[km]
   unfold hZ
   rw[e2]
   show(List.take 3 (32::c::_)==[32,124,32])=false
   rw[beq_eq_false_iff_ne]
   intro z
   simp at z
   exact nc z.1
 have ec:km (gE b) (r1::rs')=gE b++(dY r1++km (gE b) rs'):=by unfold km;simp
 have h3:=h2;rw[ec,aI]at h3;obtain⟨sr,hsr⟩:∃sr,gE b=32::sr:=by cases b<;>exact⟨_,rfl⟩
 have h4:T.drop (e+1+(dY q).length)=32::(sr++(dY r1++km (gE b) rs'++41::post)):=by rw[h3,hsr];rfl
 have h5:=fU h3 rfl;rw[aI]at h5;have h6:=fU h5 rfl;rw[ih q (by simp) _ _ h1,nR (b':=b) (by rw[hnp];rfl),mq h4,if_neg (by simp),kz h3,if_pos rfl,ih r1 (by simp) _ _ h5];have hl6:=oR h6;rw[aj]at htl;have:=Dj (g:=jo T d) (b:=b) rs' T.length _ r1 q ([],[]) (post,[]) (λr hr=>ih r (by simp[hr])) (by ac_nf) h6;rw[show([]++[q]:List Pt)=q::[]from rfl,this,ec];simp only[af,dS,eS];congr 2;ac_nf
theorem Di{T:List Nat}:∀(d:Nat) (p:Pt) (e:Nat) (post:List Nat),wp p->depth p<=d->T.drop e=dY p++post->jo T d e=some (p,e+(dY p).length)
 |0,p,e,post,hw,hd,h=>by have:=ij p;ac_nf
 |d+1,p,e,post,hw,hd,h=>by
  have ih:∀q∈dE p,∀e post,T.drop e=dY q++post->jo T d e=some (q,e+(dY q).length):=λq hq e post h=>by
   have h1:=bM p;have h2:=eZ hq;exact Di d q e post (j3 hw q hq) (by ac_nf) h
  cases p with
  |none=>
   have h':T.drop e=33::post:=h
   rw[iA (gq h')];rfl
  |blank=>
   have h':T.drop e=45::post:=h
   rw[iA (gq h')];rfl
  |sign s=>
   have h':T.drop e=91::(eU s.cps.toList++93::post):=by rw[h];show 91::(eU s.cps.toList++[93])++post=_;simp
   have h1:=dN h'
   have hl:=oR h1
   have hge:s.cps.toList.length<=(eU s.cps.toList).length:=by
    unfold eU;rw[oB];generalize s.cps.toList=l;induction l with
    |nil=>simp
    |cons c l ih=>
     have:1<=(gR c).length:=by unfold gR;split<;>simp
     simp only[aU,jm,aj]
     ac_nf
   rw[iA (gq h'),if_neg (by decide),if_neg (by decide),if_pos rfl,xA s.cps.toList (T.length+1) (e+1) [] post (by ac_nf) h1]
   dsimp only
   rw[dS,iU]
   congr 2
   show _=e+(91::(eU s.cps.toList++[93])).length
   simp only[aj,af,bo]
   ac_nf
  |row ps=>
   obtain⟨q,r1,rs',rfl⟩:∃q r1 rs',ps=q::r1::rs':=by
    match ps,hw.1.1 with
    |q::r1::rs',_=>exact⟨q,r1,rs',rfl⟩
   have h':T.drop e=40::(dY q++(km (gE false) (r1::rs')++41::post)):=by
    rw[h];show 40::(nY [32] (g9 (q::r1::rs'))++[41])++post=_;rw[nX];simp[gE]
   rw[iA (gq h'),if_neg (by decide),if_neg (by decide),if_neg (by decide),if_pos rfl,sV (rs:=[]) (post:=post) false (λx hx=>ih x hx) (λ_=>gC.mp hw.2 r1 (by simp)) (dN h')]
   show some (Pt.row (q::r1::rs'),_)=_
   congr 2
   show _=e+(40::(nY [32] (g9 (q::r1::rs'))++[41])).length
   rw[nX]
   simp only[aj,af,bo,gE]
   simp only[fX,if_false]
   ac_nf
  |pick ps=>
   obtain⟨q,r1,rs',rfl⟩:∃q r1 rs',ps=q::r1::rs':=by
    match ps,hw.1.1 with
    |q::r1::rs',_=>exact⟨q,r1,rs',rfl⟩
   have h':T.drop e=40::(dY q++(km (gE true) (r1::rs')++41::post)):=by
    rw[h];show 40::(nY [32,124,32] (g9 (q::r1::rs'))++[41])++post=_;rw[nX];simp[gE]
   rw[iA (gq h'),if_neg (by decide),if_neg (by decide),if_neg (by decide),if_pos rfl,sV (rs:=[]) (post:=post) true (λx hx=>ih x hx) (λz=>by cases z) (dN h')]
   show some (Pt.pick (q::r1::rs'),_)=_
   congr 2
   show _=e+(40::(nY [32,124,32] (g9 (q::r1::rs'))++[41])).length
   rw[nX]
   simp only[aj,af,bo,gE]
   simp only[if_true]
   ac_nf
  |again q=>
   have h':T.drop e=42::(dY q++post):=h
   have h1:=dN h'
   rw[iA (gq h'),if_neg (by decide),if_neg (by decide),if_neg (by decide),if_neg (by decide),if_pos rfl,ih q (by show q∈[q];simp) _ _ h1]
   show some (Pt.again q,_)=_
   congr 2
   show _=e+(42::dY q).length
   rw[aj];ac_nf
  |held n q=>
   have hn:1<=n.cps.toList.length:=hw.1.1.1
   have hn8:n.cps.toList.length<=8:=hw.1.1.2
   have hle:∀c∈n.cps.toList,cF c=true:=hw.1.2
   have h':T.drop e=n.cps.toList++(58::(dY q++post)):=by rw[h];show n.cps.toList++(58::dY q)++post=_;simp
   have h1:=fU h' rfl
   have h2:=dN h1
   have hsp:=tZ h' hle (by decide)
   have hcu:=uF h'
   obtain⟨c,l,ecl⟩:∃c l,n.cps.toList=c::l:=by
    cases e:n.cps.toList with
    |nil=>rw[e]at hn;simp at hn
    |cons c l=>exact⟨c,l,rfl⟩
   have hc:=hle c (by rw[ecl];simp)
   obtain⟨m1,m2,m3,m4,m5,m6⟩:=Dt hc
   have h0:T.drop e=c::(l++(58::(dY q++post))):=by rw[h',ecl];rfl
   rw[iA (gq h0),if_neg m2,if_neg m3,if_neg m4,if_neg m5,if_neg m6,M8 h0 m1,if_neg (by ac_nf),hsp,if_pos ⟨by ac_nf,by ac_nf,kz (x:=[58]) h1⟩,ih q (by show q∈[q];simp) _ _ h2,hcu,iU]
   show some (Pt.held n q,_)=_
   congr 2
   show _=e+(n.cps.toList++(58::dY q)).length
   rw[af,aj];ac_nf
  |price n q=>
   obtain⟨hn1,hn2,hn3,hn4⟩:=lR hw.1.1 hw.1.2
   have hn5:(jR n).length<=4:=FO _ (by have:=hw.1.2;have:=hw.1.1;ac_nf)
   have h':T.drop e=jR n++(36::(dY q++post)):=by rw[h];show jR n++(36::dY q)++post=_;simp
   have h1:=fU h' rfl
   have h2:=dN h1
   have hsp:=tZ h' hn3 (by decide)
   have hcu:=uF h'
   obtain⟨c,l,ecl⟩:∃c l,jR n=c::l:=by
    cases e:jR n with
    |nil=>exact absurd e hn2
    |cons c l=>exact⟨c,l,rfl⟩
   have hc:=hn3 c (by rw[ecl];simp)
   obtain⟨m2,m3,m4,m5,m6⟩:=DZ hc
   have hlen:1<=(jR n).length:=by rw[ecl];simp
   have h0:T.drop e=c::(l++(36::(dY q++post))):=by rw[h',ecl];rfl
   rw[iA (gq h0),if_neg m2,if_neg m3,if_neg m4,if_neg m5,if_neg m6,hsp,if_pos ⟨by ac_nf,by ac_nf,kz (x:=[36]) h1⟩,ih q (by show q∈[q];simp) _ _ h2,hcu,hn4]
   show some (Pt.price n q,_)=_
   congr 2
   show _=e+(jR n++(36::dY q)).length
   rw[af,aj];ac_nf
abbrev A3:Stmt:=top 34
abbrev A6:Stmt:=top 35
abbrev A4:Stmt:=top 36
abbrev Im:Stmt:=top 37
abbrev ye:Stmt:=top 38
abbrev tO:Stmt:=top 39
abbrev EL:Stmt:=top 40
abbrev tQ:Stmt:=top 41
abbrev Ii:Stmt:=top 42
abbrev Om:Stmt:=top 43
abbrev wE:Stmt:=top 44
abbrev Ig:Stmt:=top 45
abbrev wC:Stmt:=top 46
abbrev Ih:Stmt:=top 47
abbrev A5:Stmt:=top 48
abbrev OJ:Stmt:=top 49
abbrev EK:Stmt:=top 50
abbrev qo:Stmt:=top 51
abbrev Il:Stmt:=top 52
abbrev wy:Stmt:=top 53
abbrev wF:Stmt:=top 54
abbrev zH:Stmt:=top 55
theorem iS{G:Gp}{a l:Addr}(p:Pool G a)(h:G l=none):l≠a:=λe=>by
 obtain⟨o,z⟩:=p.some;subst e;rw[h]at z;cases z
section
variable{P:aG}{w:aX}{K:PySem.W.Frag}{mg:Str->Option ae}{base:Heap}{f fn:Addr}{fd dn:bb}
theorem BI:bp ["cell"] ["cell"] (aJ A3):=⟨rfl,rfl,rfl,by decide+kernel,rfl,by decide+kernel,by decide+kernel⟩
theorem FA(F:Fun K "_law_pool" "_law_pool" A3 f fd)(B:BN mg):jd P w K mg base 1 f fd ["cell"] wT:=by
 have nd:=BI.nd;have hUE:=eD.mk;refine kA F BI (λvs G Q h=> ?_) (λcdv A outer s H E as G Q hr h=> ?_)
 ·obtain⟨p,rfl,_⟩:=h;rfl
 have hU:=eQ hr;apply jB;case a=>symm
 obtain⟨c,rfl,q⟩:=h;have cp:LJ 10 18:=⟨by decide,by decide,by decide⟩;refine⟨cp,cp,(by decide:(0:Int)<10^18),ce,λa ha=>⟨_,GE.refl,q a _ ha ⟨_,_,0,aC,?_⟩ (Ch.refl.put (by simp))⟩⟩;show(0:Int)<=if c-10^18>0 then c-10^18 else 0
 split<;>ac_nf
theorem BL:bp ["pool", "base", "digit", "near"] ["pool", "base"] (aJ A6):=⟨rfl,rfl,rfl,by decide+kernel,rfl,by decide+kernel,by decide+kernel⟩
theorem FD(F:Fun K "_law_next" "_law_next" A6 f fd)(B:BN mg):jd P w K mg base 1 f fd ["pool", "base"] lh:=by
 have nd:=BL.nd;have hUE:=eD.mk;refine kA F BL (λvs G Q h=> ?_) (λcdv A outer s H E as G Q hr h=> ?_)
 ·obtain⟨a,b,rfl,_⟩:=h;rfl
 have hU:=eQ hr;apply jB;case a=>symm
 obtain⟨a,b,rfl,⟨x,y,z,ga,hx⟩,b1,b2,q⟩:=h;exists fT (bT ga) rfl ?_;refine gf (λhp=> ?_) (λhp=> ?_)
 ·left;refine fT (i:=0) (bT ga) rfl ?_;refine⟨by ac_nf,?_⟩;exists fT (i:=0) (bT ga) rfl ?_;refine⟨⟨by ac_nf,Int.le_trans b2 (by decide)⟩,?_⟩;exists w9 (k:=0) ga rfl ?_;exact⟨_,GE.refl,q _ _ (jG _ (by ac_nf)) (iG _ (by ac_nf)) ⟨x/b,y,z,aC,Int.ediv_nonneg hx (by ac_nf)⟩ (Ch.refl.put (by simp))⟩
 ·left;refine fT (i:=2) (bT ga) rfl ?_;exists w9 (k:=2) ga rfl ?_;exists fT (i:=1) (bT aC) rfl ?_;exists fT (i:=2) (bT aC) rfl ?_;refine⟨.inl ⟨by decide,by decide⟩,(by decide:(0:Int)<1000000007),?_⟩;have n0:0<=(y+7919*(z+1))%1000000007:=jG _ (by decide);have n1:(y+7919*(z+1))%1000000007<1000000007:=iG _ (by decide);refine⟨.inl ⟨?_,?_⟩,(by decide:(0:Int)<998244353),?_⟩
  ·show-(2^64)<(y+7919*(z+1))%1000000007+11;ac_nf
  ·show(y+7919*(z+1))%1000000007+11<2^64;ac_nf
  generalize ((y+7919*(z+1))%1000000007+11)*((y+7919*(z+1))%1000000007+48271)=k;have s0:0<=k%998244353:=jG _ (by decide);have s1:k%998244353<998244353:=iG _ (by decide);refine⟨.inl ⟨?_,?_⟩,(by decide:(0:Int)<2147483647),⟨by decide,by decide⟩,(by ac_nf:0<b),?_⟩
  ·show-(2^64)<k%998244353;ac_nf
  ·show k%998244353<2^64;ac_nf
  exact⟨_,GE.refl,q _ _ (jG _ (by ac_nf)) (iG _ (by ac_nf)) ⟨x,y,z+1,aC,hx⟩ (Ch.refl.put (by simp))⟩
theorem BJ:bp ["pool", "some"] ["pool", "some"] (aJ A4):=⟨rfl,rfl,rfl,by decide+kernel,rfl,by decide+kernel,by decide+kernel⟩
def mM:i8:=λps G Q=>∃(a:Addr) (y:PV),ps=[.ref a,y]/\Pool G a/\
 ((∃(l:Addr) (xs:List PV),y= .ref l/\l≠a/\G l=some (.lst xs)/\1<=xs.length/\xs.length<=1000/\∀x G',x∈xs->Pool G' a->Ch [a] G G'->Q x G')\/
  (∃z:Str,y= .str z/\1<=z.length/\z.length<=1000/\∀c G',c∈z.cps.toList->Pool G' a->Ch [a] G G'->Q (.str (c9 c)) G'))
theorem FB(F:Fun K "_law_pick" "_law_pick" A4 f fd)(B:BN mg)(C:cQ P w K mg base 1 "_law_next" fn dn ["pool", "base"] lh):jd P w K mg base 2 f fd ["pool", "some"] mM:=by
 have nd:=BJ.nd;have hUE:=eD.mk;refine kA F BJ (λvs G Q h=> ?_) (λcdv A outer s H E as G Q hr h=> ?_)
 ·obtain⟨_,_,rfl,_⟩:=h;rfl
 have hU:=eQ hr;apply jB;case a=>symm
 obtain⟨a,y,rfl,hp,⟨l,xs,rfl,nla,gl,h1,h2,q⟩|⟨z,rfl,h1,h2,q⟩⟩:=h
 ·left;refine y6 (bT gl) ?_;exists⟨a,xs.length,rfl,hp,by ac_nf,by ac_nf,λm G1 m0 m1 p1 c1=> ?_⟩;obtain⟨x,ex,mx⟩:=Eo (xs:=xs) m0 m1;exists fT (bT (c1 l _ (by simpa using nla) gl)) ex ?_;exact⟨_,GE.refl,q x G1 mx p1 c1⟩
 ·left;refine⟨by ac_nf,?_⟩;refine⟨a,z.length,rfl,hp,by ac_nf,by ac_nf,λm G1 m0 m1 p1 c1=> ?_⟩;obtain⟨c,ec,mc⟩:=Eo (xs:=z.cps.toList) m0 (by rw[aE];exact m1);exists qZ (by ac_nf) ec ?_;exact⟨_,GE.refl,q c G1 mc p1 c1⟩
def io:Str:=al " !\"#$&'()*+,-./0123456789:;<=>?@ABCDEFGHIJKLMNOPQRSTUVWXYZ[" ++al "\\]^_`abcdefghijklmnopqrstuvwxyz{|}~"
theorem rS:io.length=94:=by decide+kernel
theorem Hy:bp ["signs"] [] (aJ Im):=⟨rfl,rfl,rfl,by decide+kernel,rfl,by decide+kernel,by decide+kernel⟩
def yu:i8:=λps G Q=>ps=[]/\Q (.str io) G
theorem JK(F:Fun K "_law_all_signs" "_law_all_signs" Im f fd)(B:BN mg):jd P w K mg base 1 f fd [] yu:=by
 have nd:=Hy.nd;have hUE:=eD.mk;refine kA F Hy (λvs G Q h=> ?_) (λcdv A outer s H E as G Q hr h=> ?_)
 ·obtain⟨rfl,_⟩:=h;rfl
 have hU:=eQ hr;apply jB;case a=>symm
 obtain⟨rfl,q⟩:=h;exists⟨by decide+kernel,G,GE.refl,q⟩
end
theorem sM{T:List Nat}:∀(f e:Nat) (acc:List Nat),T.length<f+e->e<=T.length->(∀c∈acc,c∈T)->lm T f e acc≠ .out/\∀s e2,lm T f e acc= .ok s e2->(∀c∈s,c∈T)/\s.length+e<=acc.length+e2
 |0,e,acc,h,he,ha=>by ac_nf
 |f+1,e,acc,h,he,ha=>by
  rw[iH];split
  ·exact⟨(λz=>by cases z),λs e2 z=>by cases z;exact⟨ha,by ac_nf⟩⟩
  ·generalize hz:(if hZ T e [92]then e+1 else e)=e1;have h1:e<=e1:=by rw[<-hz];split<;>ac_nf
   cases hc:T[e1]? with
   |none=>exact⟨(λz=>by cases z),λs e2 z=>by cases z⟩
   |some c=>
    dsimp only
    have hm:=cy hc
    obtain⟨i1,i2⟩:=sM f (e1+1) (acc++[c]) (by ac_nf) (ak.mp hc).1 λx hx=>by
     rcases aH.mp hx with hx|hx
     ·exact ha x hx
     ·cases ar.mp hx;exact hm
    refine⟨i1,λs e2 z=> ?_⟩
    obtain⟨a,b⟩:=i2 s e2 z
    rw[af,List.length_singleton]at b
    exact⟨a,by ac_nf⟩
theorem sN{T sep:List Nat}{g:Nat->Rd Pt}(hs:1<=sep.length)(hg:∀e,g e≠ .out/\∀p e2,g e= .ok p e2->pk (dh p)/\e<e2/\e2<=T.length):∀(f e:Nat) (acc:List Pt),T.length<f+e->e<=T.length->(∀p∈acc,pk (dh p))->kr g T sep f e acc≠ .out/\∀ps e2,kr g T sep f e acc= .ok ps e2->∀p∈ps,pk (dh p)
 |0,e,acc,h,he,ha=>by ac_nf
 |f+1,e,acc,h,he,ha=>by
  rw[j6];split
  ·exact⟨(λz=>by cases z),λs e2 z=>by cases z;exact ha⟩
  ·split
   ·obtain⟨g1,g2⟩:=hg (e+sep.length);cases hc:g (e+sep.length)with
    |no=>exact⟨(λz=>by cases z),λs e2 z=>by cases z⟩
    |out=>exact absurd hc g1
    |ok p e2=>
     dsimp only
     obtain⟨a,b,c⟩:=g2 p e2 hc
     exact sN hs hg f e2 (acc++[p]) (by ac_nf) c λx hx=>by
      rcases aH.mp hx with hx|hx
      ·exact ha x hx
      ·cases ar.mp hx;exact a
   ·exact⟨(λz=>by cases z),λs e2 z=>by cases z⟩
theorem CV{s:Str}(h:∀c∈s.cps.toList,c<128)(hl:s.length<=1000):okT s:=by
 refine⟨?_,hl⟩;show(s.cps.all λx=>decide (x<128))=true;rw[o9];intro c hc;exact decide_eq_true (h c (by simpa using hc))
theorem sT{ps:List Pt}(h:∀p∈ps,pk (dh p)):Ae (b9 ps):=iy.mpr λx hx=>by
 rw[dF]at hx;obtain⟨q,hq,rfl⟩:=bA.mp hx;exact h q hq
theorem sO{T:List Nat}(hT:T.length<=600)(ha:∀c∈T,c<128):∀(d e:Nat),gd T d e≠ .out/\∀p e2,gd T d e= .ok p e2->pk (dh p)
 |0,e=>⟨(λz=>by cases z),λp e2 z=>by cases z⟩
 |d+1,e=>by
  have ih:=sO hT ha d;rw[j7];cases hc:T[e]? with
  |none=>exact⟨(λz=>by cases z),λs e2 z=>by cases z⟩
  |some c=>
   have he:e<T.length:=(ak.mp hc).1
   have hl:= @ji
   have sub:∀a b,∀c∈cut T a b,c<128:=λa b c hc=>ha c (nw (nv hc))
   have sul:∀a b,(cx (cut T a b)).length<=1000:=λa b=>by
    rw[aV];unfold cut;rw[aO,aW];ac_nf
   dsimp only
   split
   ·unfold sJ
    obtain⟨i1,i2⟩:=sM (T:=T) (T.length+1) (e+1) [] (by ac_nf) (by ac_nf) (λc hc=>by cases hc)
    cases hs:lm T (T.length+1) (e+1) []with
    |no=>exact⟨(λz=>by cases z),λs e2 z=>by cases z⟩
    |out=>exact absurd hs i1
    |ok s e2=>
     obtain⟨a,b⟩:=i2 s e2 hs
     have:=uj _ _ _ _ _ hs
     simp only[bo]at b
     exact⟨(λz=>by cases z),λp e3 z=>by cases z;exact⟨ji,CV (λc hc=>ha c (a c (by rw[gU]at hc;exact hc))) (by rw[aV];ac_nf),trivial⟩⟩
   split
   ·unfold iI
    obtain⟨i1,i2⟩:=ih (e+1)
    cases hs:gd T d (e+1)with
    |no=>exact⟨(λz=>by cases z),λs e2 z=>by cases z⟩
    |out=>exact absurd hs i1
    |ok q e1=>
     dsimp only
     have q1:=i2 q e1 hs
     have q2:=jJ _ _ _ _ hs
     obtain⟨j1,j2⟩:=sN (T:=T) (g:=gd T d) (sep:=if hZ T e1 [32,124,32]then[32,124,32]else[32]) (by split<;>decide) (λe=>⟨(ih e).1,λp e2 z=>⟨(ih e).2 p e2 z,jh _ _ _ _ z,jJ _ _ _ _ z⟩⟩) (T.length+1) e1 [q] (by ac_nf) q2 (λp hp=>by cases ar.mp hp;exact q1)
     cases hp:kr (gd T d) T (if hZ T e1 [32,124,32]then[32,124,32]else[32]) (T.length+1) e1 [q]with
     |no=>exact⟨(λz=>by cases z),λs e2 z=>by cases z⟩
     |out=>exact absurd hp j1
     |ok ps e2=>
      refine⟨(λz=>by cases z),λp e3 z=> ?_⟩
      have z':(if hZ T e1 [32,124,32]then Pt.pick ps else Pt.row ps)=p:=by injection z
      rw[<-z']
      split
      ·exact⟨ji,sT (j2 ps e2 hp),trivial⟩
      ·exact⟨ji,sT (j2 ps e2 hp),trivial⟩
   split
   ·unfold n6
    split
    ·obtain⟨i1,i2⟩:=ih (eE cF T e+1)
     cases hs:gd T d (eE cF T e+1)with
     |no=>exact⟨(λz=>by cases z),λs e2 z=>by cases z⟩
     |out=>exact absurd hs i1
     |ok q e1=>exact⟨(λz=>by cases z),λp e3 z=>by cases z;exact⟨ji,CV (by rw[gU];exact sub _ _) (sul _ _),i2 q e1 hs,trivial⟩⟩
    ·exact⟨(λz=>by cases z),λs e2 z=>by cases z⟩
   split
   ·unfold jQ
    split
    ·rw[if_pos (by have:=t6 (am:=bS) (T:=T) (j:=e) (by ac_nf);ac_nf)]
     obtain⟨i1,i2⟩:=ih (eE bS T e+1)
     cases hs:gd T d (eE bS T e+1)with
     |no=>exact⟨(λz=>by cases z),λs e2 z=>by cases z⟩
     |out=>exact absurd hs i1
     |ok q e1=>exact⟨(λz=>by cases z),λp e3 z=>by cases z;exact⟨ji,trivial,i2 q e1 hs,trivial⟩⟩
    ·exact⟨(λz=>by cases z),λs e2 z=>by cases z⟩
   split
   ·unfold o4
    obtain⟨i1,i2⟩:=ih (e+1)
    cases hs:gd T d (e+1)with
    |no=>exact⟨(λz=>by cases z),λs e2 z=>by cases z⟩
    |out=>exact absurd hs i1
    |ok q e1=>exact⟨(λz=>by cases z),λp e3 z=>by cases z;exact⟨ji,i2 q e1 hs,trivial⟩⟩
   split
   ·exact⟨(λz=>by cases z),λp e3 z=>by cases z;exact⟨ji,trivial⟩⟩
   split
   ·exact⟨(λz=>by cases z),λp e3 z=>by cases z;exact⟨ji,trivial⟩⟩
   ·exact⟨(λz=>by cases z),λs e2 z=>by cases z⟩
theorem qb{S:Str}{c:Nat}:GG S (.str (c9 c))=true↔c∈S.cps.toList:=by
 show(!(bq S ⟨#[c]⟩ 0 S.length 1).isEmpty)=true↔_;rw[jW];exact decide_eq_true_iff
theorem wI{l:List Nat}(h:∀(i a b:Nat),l[i]? =some a->l[i+1]? =some b->a<b):l.Pairwise (· <·):=by
 have key:∀(d i a b:Nat),l[i]? =some a->l[i+1+d]? =some b->a<b:=λd=>by
  induction d with
  |zero=>exact h
  |succ d ih=>
   intro i a b ha hb
   have hl:i+1+d<l.length:=by have:=(ak.mp hb).1;ac_nf
   have hc:l[i+1+d]? =some l[i+1+d]:=au hl
   have h1:=ih i a _ ha hc
   have h2:=h (i+1+d) _ b hc hb
   ac_nf
 refine bd.mpr λi j hi hj hij=> ?_;exact key (j-i-1) i _ _ (au hi) (by rw[show i+1+(j-i-1)=j by ac_nf];exact au hj)
theorem BX{s:Str}(h:jI s=true):(1<=s.length/\s.length<=94)/\Ris s:=by
 unfold jI at h;rw[aB,aB]at h;obtain⟨⟨h1,h2⟩,h3⟩:=h;have el:s.cps.toList.length=s.length:=by simp[mi]
 have l1:1<=s.length:=by
  by_cases z:s.length=0
  ·have e:s= "" :=by
    obtain⟨⟨l⟩⟩:=s;have:l=[]:=fK.mp z;rw[this];rfl
   rw[e]at h2
   simp at h2
  ·ac_nf
 have m:∀c∈s.cps.toList,c∈wm.cps.toList:=λc hc=>by
  unfold sB at h1;rw[bv]at h1;exact qb.mp (h1 (.str (c9 c)) (bA.mpr ⟨c,hc,rfl⟩))
 have p:s.cps.toList.Pairwise (· <·):=wI λi a b ha hb=>by
  rw[bv]at h3;have hi:i+1<s.cps.toList.length:=(ak.mp hb).1;have e2:(bO s (some 1) none).cps[i]? =s.cps[i+1]? :=by
   have:=congrArg (λl=>l[i]?) (qz l1);simp only[aZ,pE]at this;rw[this,Nat.add_comm]
  have:=h3 (.tup [.str ⟨#[(s.cps[i]?).getD 0]⟩,.str ⟨#[((bO s (some 1) none).cps[i]?).getD 0]⟩]) (bA.mpr ⟨i,iX.mpr (by rw[oG l1];ac_nf),rfl⟩);rw[e2]at this;have g1:s.cps[i]? =some a:=by rw[<-aZ];exact ha
  have g2:s.cps[i+1]? =some b:=by rw[<-aZ];exact hb
  rw[g1,g2]at this;have h5:[a]<[b]:=of_decide_eq_true this;cases h5 with
  |rel h'=>exact h'
  |cons h'=>cases h'
 refine⟨⟨l1,?_⟩,p,m⟩;have:=iT (p.imp aN) m;rw[yx,el]at this;exact this
theorem Hg:∀(n:Nat) {p:Pt},size p<=n->(∀c∈makes p,k9 (dh c)=true/\Ia c=true)->wp p
 |0,p,h,_=>by have:=iw p;ac_nf
 |n+1,p,h,hm=>by
  have hp:=hm p (by rw[fE];simp);have ih:∀q∈dE p,wp q:=λq hq=>by
   have:=fe hq;have:=cS p;exact Hg n (by ac_nf) λc hc=>hm c (by rw[fE];exact bC _ (iK.mpr ⟨q,hq,hc⟩))
  cases p with
  |none=>trivial
  |blank=>trivial
  |sign s=>
   have e:k9 (dh (.sign s))=((true&&jI s||false&&false)||false&&false||false):=rfl
   rw[e]at hp
   exact BX (by simpa using hp.1)
  |row ps=>
   have e:k9 (dh (.row ps))=((false&&false||true&&(decide (2<=(b9 ps).length)&&decide ((b9 ps).length<=6)))||false&&(decide (2<=(b9 ps).length)&&decide ((b9 ps).length<=6))||false):=rfl
   rw[e,bU]at hp
   exact⟨by simpa using hp.1,gC.mpr ih⟩
  |pick ps=>
   have e:k9 (dh (.pick ps))=((false&&false||false&&(decide (2<=(b9 ps).length)&&decide ((b9 ps).length<=6)))||true&&(decide (2<=(b9 ps).length)&&decide ((b9 ps).length<=6))||false):=rfl
   rw[e,bU]at hp
   exact⟨by simpa using hp.1,gC.mpr ih⟩
  |again p=>
   have:=hp.2
   exact⟨by simpa [Ia]using this,ih p (by show p∈[p];simp)⟩
  |held m p=>
   have e:k9 (dh (.held m p))=(true&&jH m||false&&false):=rfl
   rw[e]at hp
   have h2:jH m=true:=by simpa using hp.1
   unfold jH at h2
   rw[aB,aB,bv]at h2
   refine⟨⟨⟨of_decide_eq_true h2.1.1,of_decide_eq_true h2.1.2⟩,λc hc=>(jw c).mp (qb.mp (h2.2 (.str (c9 c)) (bA.mpr ⟨c,hc,rfl⟩)))⟩,ih p (by show p∈[p];simp)⟩
  |price m p=>
   have e:k9 (dh (.price m p))=(false&&false||true&&(decide (0<=m)&&decide (m<=1000))):=rfl
   rw[e]at hp
   exact⟨by simpa using hp.1,ih p (by show p∈[p];simp)⟩
theorem zd{p:Pt}(h:sm p=true):wp p/\depth p<=9/\size p<=40:=by
 obtain⟨h1,h2,h3,h4⟩:=lV.mp (nZ.mp h);exact⟨Hg _ (ap _) λc hc=>⟨h3 c hc,h4 c hc⟩,h1,h2⟩
theorem qp:∀(n:Nat) {p c:Pt},size p<=n->wp p->c∈makes p->wp c
 |0,p,c,h,_,_=>by have:=iw p;ac_nf
 |n+1,p,c,h,hw,hc=>by
  rw[fE]at hc;rcases aw.mp hc with rfl|hc
  ·exact hw
  ·obtain⟨q,hq,hc⟩:=iK.mp hc;have:=fe hq;have:=cS p;exact qp n (by ac_nf) (j3 hw q hq) hc
theorem Dg{n:Str}(h:(1<=n.length/\n.length<=8)/\LM n):jH n=true:=by
 unfold jH;rw[decide_eq_true h.1.1,decide_eq_true h.1.2,dj,dj,bv];intro x hx;unfold dA at hx;obtain⟨c,hc,rfl⟩:=bA.mp hx;exact qb.mpr ((jw c).mpr (h.2 c hc))
theorem Hh{p:Pt}(h:wp p):k9 (dh p)=true/\Ia p=true:=by
 cases p with
 |none=>exact⟨rfl,rfl⟩
 |blank=>exact⟨rfl,rfl⟩
 |sign s=>
  refine⟨?_,rfl⟩
  have e:k9 (dh (.sign s))=((true&&jI s||false&&false)||false&&false||false):=rfl
  have h1:1<=s.cps.toList.length:=h.1.1
  rw[e,E8 (λz=>by rw[z]at h1;simp at h1) h.2.1 λc hc=>qb.mpr (h.2.2 c hc)]
  rfl
 |row ps=>
  refine⟨?_,rfl⟩
  have e:k9 (dh (.row ps))=((false&&false||true&&(decide (2<=(b9 ps).length)&&decide ((b9 ps).length<=6)))||false&&(decide (2<=(b9 ps).length)&&decide ((b9 ps).length<=6))||false):=rfl
  rw[e,bU,decide_eq_true h.1.1,decide_eq_true h.1.2]
  rfl
 |pick ps=>
  refine⟨?_,rfl⟩
  have e:k9 (dh (.pick ps))=((false&&false||false&&(decide (2<=(b9 ps).length)&&decide ((b9 ps).length<=6)))||true&&(decide (2<=(b9 ps).length)&&decide ((b9 ps).length<=6))||false):=rfl
  rw[e,bU,decide_eq_true h.1.1,decide_eq_true h.1.2]
  rfl
 |again p=>
  refine⟨?_,by show(!eL p)=true;rw[h.1];rfl⟩
  show((false&&ll (dh p)||false&&dX (dh p))||false&&dX (dh p)||true)=true
  simp
 |held n p=>
  refine⟨?_,rfl⟩
  have e:k9 (dh (.held n p))=(true&&jH n||false&&false):=rfl
  rw[e,Dg h.1]
  rfl
 |price n p=>
  refine⟨?_,rfl⟩
  have e:k9 (dh (.price n p))=(false&&false||true&&(decide (0<=n)&&decide (n<=1000))):=rfl
  rw[e,decide_eq_true h.1.1,decide_eq_true h.1.2]
  rfl
theorem EN{p:Pt}(h:wp p)(hd:depth p<=9)(hs:size p<=40):sm p=true:=
 nZ.mpr (lV.mpr ⟨hd,hs,λc hc=>(Hh (qp _ (ap _) h hc)).1,λc hc=>(Hh (qp _ (ap _) h hc)).2⟩)
def NQ(s:Str):Bool:= !s.cps.toList.isEmpty&&(decide (∀c∈s.cps.toList,c∈io.cps.toList)&&decide (s.cps.toList.Pairwise (· <·)))
mutual
def ng:Pt->Bool
 | .none=>true
 | .blank=>true
 | .sign s=>NQ s
 | .row ps=>(decide (2<=ps.length)&&decide (ps.length<=6))&&rj ps
 | .pick ps=>(decide (2<=ps.length)&&decide (ps.length<=6))&&rj ps
 | .again p=> !eL p&&ng p
 | .held _ p=>ng p
 | .price m p=>decide (m<=1000)&&ng p
def rj:List Pt->Bool
 |[]=>true
 |p::ps=>ng p&&rj ps
end
theorem jy:∀ps:List Pt,rj ps=ps.all ng
 |[]=>rfl
 |p::ps=>by show(ng p&&rj ps)=_;rw[jy ps];rfl
theorem rR:io.cps.toList=wm.cps.toList:=by decide+kernel
theorem DV{n:Nat}:∀(k:Nat) {p:Pt},size p<=k->lw n p->ng p=true->wp p
 |0,p,h,_,_=>by have:=iw p;ac_nf
 |k+1,p,h,hl,hg=>by
  have hs:=cS p;have ih:∀q∈dE p,lw n q->ng q=true->wp q:=λq hq=>by
   have:=fe hq;exact DV k (by ac_nf)
  cases p with
  |none=>trivial
  |blank=>trivial
  |sign s=>
   have hg':NQ s=true:=hg
   unfold NQ at hg'
   rw[aB,aB]at hg'
   obtain⟨h1,h2,h3⟩:=hg'
   have m:∀c∈s.cps.toList,c∈wm.cps.toList:=by rw[<-rR];exact of_decide_eq_true h2
   have p:=of_decide_eq_true h3
   have l1:=iT (p.imp aN) m
   rw[yx]at l1
   have l0:1<=s.cps.toList.length:=by
    generalize s.cps.toList=l at h1;cases l with
    |nil=>cases h1
    |cons a l=>simp
   exact⟨⟨l0,l1⟩,p,m⟩
  |row ps=>
   have hg':((decide (2<=ps.length)&&decide (ps.length<=6))&&rj ps)=true:=hg
   rw[jy,aB,aB,bv]at hg'
   exact⟨⟨of_decide_eq_true hg'.1.1,of_decide_eq_true hg'.1.2⟩,gC.mpr λc hc=>ih c hc (lT.mp hl c hc) (hg'.2 c hc)⟩
  |pick ps=>
   have hg':((decide (2<=ps.length)&&decide (ps.length<=6))&&rj ps)=true:=hg
   rw[jy,aB,aB,bv]at hg'
   exact⟨⟨of_decide_eq_true hg'.1.1,of_decide_eq_true hg'.1.2⟩,gC.mpr λc hc=>ih c hc (lT.mp hl c hc) (hg'.2 c hc)⟩
  |again q=>
   have hg':(!eL q&&ng q)=true:=hg
   rw[aB]at hg'
   exact⟨by simpa using hg'.1,ih q (by show q∈[q];simp) hl hg'.2⟩
  |held m q=>exact⟨hl.1,ih q (by show q∈[q];simp) hl.2 hg⟩
  |price m q=>
   have hg':(decide (m<=1000)&&ng q)=true:=hg
   rw[aB]at hg'
   exact⟨⟨hl.1.1,of_decide_eq_true hg'.1⟩,ih q (by show q∈[q];simp) hl.2 hg'.2⟩
theorem Hi:∀(k:Nat) {p:Pt},size p<=k->wp p->ng p=true
 |0,p,h,_=>by have:=iw p;ac_nf
 |k+1,p,h,hw=>by
  have hs:=cS p;have ih:∀q∈dE p,ng q=true:=λq hq=>by
   have:=fe hq;exact Hi k (by ac_nf) (j3 hw q hq)
  cases p with
  |none=>rfl
  |blank=>rfl
  |sign s=>
   have l0:1<=s.cps.toList.length:=hw.1.1
   show NQ s=true
   unfold NQ
   rw[rR,decide_eq_true hw.2.2,decide_eq_true hw.2.1]
   generalize s.cps.toList=l at l0
   cases l with
   |nil=>simp at l0
   |cons a l=>rfl
  |row ps=>
   show((decide (2<=ps.length)&&decide (ps.length<=6))&&rj ps)=true
   rw[jy,decide_eq_true hw.1.1,decide_eq_true hw.1.2,show ps.all ng=true from bv.mpr ih]
   rfl
  |pick ps=>
   show((decide (2<=ps.length)&&decide (ps.length<=6))&&rj ps)=true
   rw[jy,decide_eq_true hw.1.1,decide_eq_true hw.1.2,show ps.all ng=true from bv.mpr ih]
   rfl
  |again q=>
   show(!eL q&&ng q)=true
   rw[hw.1,ih q (by show q∈[q];simp)]
   rfl
  |held m q=>exact ih q (by show q∈[q];simp)
  |price m q=>
   show(decide (m<=1000)&&ng q)=true
   rw[decide_eq_true hw.1.2,ih q (by show q∈[q];simp)]
   rfl
def nj(T:List Nat):Option Pt:=match jo T 9 0 with
 |some (p,e)=>if e=T.length/\size p<=40/\ng p=true/\dY p=T then some p else none
 |none=>none
theorem qe{T:List Nat}{p:Pt}:nj T=some p↔wp p/\depth p<=9/\size p<=40/\dY p=T:=by
 constructor
 ·intro h;unfold nj at h;split at h
  ·rename_i q e hr;split at h
   ·rename_i hc;cases h;have k:=qS 9 0 _ e (by ac_nf) hr;exact⟨DV _ (ap _) k.w hc.2.2.1,k.d,hc.2.1,hc.2.2.2⟩
   ·cases h
  ·cases h
 ·rintro⟨hw,hd,hs,rfl⟩;unfold nj;rw[Di 9 p 0 [] hw hd (by simp)];dsimp only;rw[if_pos ⟨by ac_nf,hs,Hi _ (ap _) hw,rfl⟩]
theorem ul{T:List Nat}{p:Pt}:(∃e,uS T= .ok p e)↔wp p/\depth p<=9/\size p<=40/\dY p=T:=by
 constructor
 ·rintro⟨e,h⟩;obtain⟨h1,h2⟩:=IM h;obtain⟨a,b,c⟩:=zd h2;exact⟨a,b,c,h1⟩
 ·rintro⟨hw,hd,hs,rfl⟩;refine⟨0+(dY p).length,?_⟩;unfold uS;rw[HB (T:=dY p) 9 p 0 [] hw hd (by simp)];simp[EN hw hd hs]
theorem IL{T:List Nat}(hT:T.length<=600)(ha:∀c∈T,c<128):(∀p,nj T=some p->∃e,uS T= .ok p e)/\(nj T=none->uS T= .no)/\uS T≠ .out/\∀p e,gd T 9 0= .ok p e->pk (dh p)/\(sm p=true->wp p):=by
 obtain⟨h1,h2⟩:=sO hT ha 9 0;have h3:uS T≠ .out:=by
  unfold uS;cases h:gd T 9 0 with
  |no=>simp
  |out=>exact absurd h h1
  |ok p e=>dsimp only;split<;>simp
 refine⟨λp h=>ul.mpr (qe.mp h),λh=> ?_,h3,λp e h=>⟨h2 p e h,λhp=>(zd hp).1⟩⟩;cases hr:uS T with
 |no=>rfl
 |out=>exact absurd hr h3
 |ok p e=>
  have:=qe.mpr (ul.mp ⟨e,hr⟩)
  rw[h]at this
  cases this
theorem N4{T:Addr->Gp->Prop}{facts:Addr->Gp->Prop}{g:Prop}(main:(∀l G3,facts l G3->T l G3)->g)(tail:∀l G3,facts l G3->T l G3):g:=main tail
theorem zf{lo:Int}{n i:Nat}{x:PV}(h:(mo lo n)[i]? =some x):i<n/\x= .int (lo+i):=by
 unfold mo at h;rw[br]at h;cases e:(bQ n)[i]? with
 |none=>rw[e]at h;cases h
 |some j=>
  rw[e]at h
  have hi:i<n:=by
   have:=(ak.mp e).1;simpa using this
  rw[jF hi]at e
  cases e
  cases h
  exact⟨hi,rfl⟩
theorem j9(lo:Int)(n:Nat):(mo lo n).length=n:=by unfold mo;simp
theorem zA{G:Gp}{a b:Addr}{xs ys:List PV}{Q:K2}(h:lk G a=some xs)(h2:lk G b=some ys)(hl:xs.length+ys.length<=16000000)(q:∀c,G c=none->Q (.ref c) (up G c (.lst (xs++ys)))):jb (.ref a) (.ref b) G Q:=by
 unfold jb;exact LA h h2 hl q
def gK(cs:List Nat):List PV:=cs.map λc=> .str (c9 c)
theorem nP(cs:List Nat):gK cs=(cs.map c9).map PV.str:=by unfold gK;rw[bB];rfl
theorem nQ(cs:List Nat):(gK cs).length=cs.length:=av _
theorem zy:∀c∈io.cps.toList,c∈wm.cps.toList:=by decide+kernel
theorem Eu:io.cps.toList.Pairwise (· <·):=by decide+kernel
theorem zO{ds:List Nat}(h:(ds.map c9).Pairwise Pn)(hn:ds.Nodup):ds.Pairwise (· <·):=by
 refine((List.pairwise_map.mp h).and hn).imp fun{a b} hh=> ?_;obtain⟨h1,h2⟩:=hh;by_cases hz:b<a
 ·exact absurd (show(c9 b).cps.toList<(c9 a).cps.toList from List.Lex.rel hz) (of_decide_eq_false h1)
 ·exact Nat.lt_of_le_of_ne (by ac_nf) h2
theorem Pj{fi st:Int}(h0:0<=fi)(h1:fi<94)(s0:0<=st)(s1:st<30){i j:Nat}(hij:i<j)(hj:j<3):((fi+(1+st)*(0+(i:Int)))%94).toNat≠((fi+(1+st)*(0+(j:Int)))%94).toNat:=by
 have:(i=0/\j=1)\/(i=0/\j=2)\/(i=1/\j=2):=by ac_nf
 rcases this with⟨rfl,rfl⟩|⟨rfl,rfl⟩|⟨rfl,rfl⟩<;>ac_nf
theorem uq{ss:List Str}{cs:List Nat}(h:ss.Perm (cs.map c9)):∃ds:List Nat,ss=ds.map c9/\ds.length=cs.length/\ds.Perm cs:=by
 obtain⟨ds,rfl⟩:=yV (ss:=ss) λy hy=>by
  obtain⟨c,_,e⟩:=bA.mp (h.mem_iff.mp hy);exact⟨c,e.symm⟩
 refine⟨ds,rfl,?_,?_⟩
 ·have:=h.length_eq;simpa using this
 ·have h2:=h.map (λx:Str=>x.cps.toList.headD 0);rw[bB,bB]at h2;have e:∀l:List Nat,l.map ((λx:Str=>x.cps.toList.headD 0)∘c9)=l:=λl=>by
   induction l with
   |nil=>rfl
   |cons c l ih=>rw[aU,ih];rfl
  rw[e,e]at h2;exact h2
section
variable{P:aG}{w:aX}{K:PySem.W.Frag}{mg:Str->Option ae}{base:Heap}{f fn fi fa:Addr}{fd dn di da:bb}
theorem BH:bp ["pool", "signs", "first", "step", "some"] ["pool"] (aJ ye):=⟨rfl,rfl,rfl,by decide+kernel,rfl,by decide+kernel,by decide+kernel⟩
theorem Lq:eF (aJ ye) ["pool", "signs", "first", "step", "some"] (ic [(".0",.local),("k",.local),("first",.free),("signs",.free),("step",.free)]) ["k", "first", "signs", "step"] [none,some 2,some 1,some 3] 0 "k" =true:=by decide+kernel
def t9:i8:=λps G Q=>∃(a:Addr),ps=[.ref a]/\Pool G a/\∀s G',wp (.sign s)->Pool G' a->Ch [a] G G'->Q (dh (.sign s)) G'
theorem Fz(F:Fun K "_law_sign" "_law_sign" ye f fd)(B:BN mg)(CN:cQ P w K mg base 1 "_law_next" fn dn ["pool", "base"] lh)(CA:cQ P w K mg base 1 "_law_all_signs" fa da [] yu)(CP:cQ P w K mg base 2 "_law_pick" fi di ["pool", "some"] mM):jd P w K mg base 3 f fd ["pool"] t9:=by
 have nd:=BH.nd;have hUE:=eD.mk;refine kA F BH (λvs G Q h=> ?_) (λcdv A outer s H E as G Q hr h=> ?_)
 ·obtain⟨_,rfl,_⟩:=h;rfl
 have hU:=eQ hr;apply jB;case a=>
  symm
  all_goals try (refine' nV (n:=4) nd rfl rfl Lq rfl ?_ (λC s H fp=>⟨?_,?_⟩))
  all_goals symm
 obtain⟨a,rfl,hp,q⟩:=h;exists⟨rfl,?_⟩;exists⟨a,94,rfl,hp,by decide,by decide,λfi G1 f0 f1 p1 c1=> ?_⟩;exists⟨a,30,rfl,p1,by decide,by decide,λst G2 s0 s1 p2 c2=> ?_⟩;exists⟨ce,λl hl=> ?_⟩;have nla:=iS p2 hl;exists⟨a,.ref l,rfl,p2.new hl,.inl ⟨l,_,rfl,nla,aC,by decide,by decide,λx G3 hx p3 c3=> ?_⟩⟩;obtain⟨m,rfl,m1,m3⟩:∃m:Int,x= .int m/\1<=m/\m<=3:=by
  simp only[aw,bu,or_false]at hx;rcases hx with rfl|rfl|rfl|rfl
  ·exact⟨1,rfl,by decide,by decide⟩
  ·exact⟨1,rfl,by decide,by decide⟩
  ·exact⟨2,rfl,by decide,by decide⟩
  ·exact⟨3,rfl,by decide,by decide⟩
 have k3:Ch [a] G G3:=(c1.trans c2).new hl|>.trans c3;exists⟨by ac_nf,by ac_nf,λacc hacc=> ?_⟩;have naa:=iS p3 hacc;refine⟨λi ys G4=>∃cs:List Nat,(cs.length=i/\∀(j:Nat) c,cs[j]? =some c->io.cps.toList[((fi+(1+st)*(0+(j:Int)))%94).toNat]? =some c)/\ys=gK cs/\G4=up G3 acc (.lst ys),⟨[],⟨rfl,by simp⟩,rfl,rfl⟩,?_,?_,?_⟩
 ·rintro i ys G4 hi ⟨cs,⟨hcs,_⟩,rfl,rfl⟩;rw[j9]at hi;exact⟨trivial,aC,by rw[nQ];ac_nf⟩
 ·rintro i ys G4 x hx ⟨cs,⟨hcs,hat⟩,rfl,rfl⟩;obtain⟨hi,rfl⟩:=zf hx;refine iE rfl ?_;exists⟨.inl ⟨by ac_nf,by ac_nf⟩,?_⟩;refine b8 ?_;exists⟨(by decide:(0:Int)<94),?_⟩;left;have hpos:=jG (fi+(1+st)*(0+(i:Int))) (by decide:(94:Int)≠0);have hlt:=iG (fi+(1+st)*(0+(i:Int))) (by decide:(0:Int)<94);have hnn:((((fi+(1+st)*(0+(i:Int)))%94).toNat:Nat):Int)=(fi+(1+st)*(0+(i:Int)))%94:=by ac_nf
  have hl94:io.cps.toList.length=94:=rS;obtain⟨c,hc⟩:∃c,io.cps.toList[((fi+(1+st)*(0+(i:Int)))%94).toNat]? =some c:=⟨_,au (by ac_nf)⟩;refine qZ (by rw[rS];decide) (by rw[<-hnn];exact kF hc) ?_;refine⟨aC,cs++[c],⟨by rw[af,hcs];rfl,λj c' hj=> ?_⟩,by unfold gK;rw[a9];rfl,lg⟩;by_cases hji:j<cs.length
  ·rw[dW hji]at hj;exact hat j c' hj
  ·rw[cn (by ac_nf)]at hj;have hj0:j-cs.length=0:=by
    have:=(ak.mp hj).1;simp at this;ac_nf
   rw[hj0]at hj;cases hj;rw[show j=i by ac_nf];exact hc
 rintro ys G4 ⟨cs,⟨hcs,hat⟩,rfl,rfl⟩;rw[j9]at hcs;have hsg:∀c∈cs,c∈wm.cps.toList:=λc hc=>by
  obtain⟨j,hj⟩:=i9.mp hc;exact zy c (cy (hat j c hj))
 have hnod:cs.Nodup:=by
  refine bd.mpr λi j hi hj hij e=> ?_;have h1:=hat i _ (au hi);have h2:=hat j _ (au hj);rw[e]at h1;have hne:=Pj f0 f1 s0 s1 hij (by ac_nf);obtain⟨l1,e1⟩:=ak.mp h1;obtain⟨l2,e2⟩:=ak.mp h2;exact hne ((List.getElem_inj (Eu.imp aN)).mp (e1.trans e2.symm))
 have g4:up G3 acc (.lst (gK cs)) acc=some (.lst (gK cs)):=aC;have p4:=p3.new (o:= .lst (gK cs)) hacc;have k4:Ch [a] G (up G3 acc (.lst (gK cs))):=k3.new hacc;generalize up G3 acc (.lst (gK cs))=G4 at g4 p4 k4⊢;exists⟨a,2,rfl,p4,by decide,by decide,λn1 G5 n10 n12 p5 c5=> ?_⟩;have g5:=c5 acc _ (by simpa using naa) g4;have k5:=k4.trans c5;exists cV rfl rfl ?_;apply N4 (facts:=λy G6=>∃cs:List Nat,(1<=cs.length/\cs.length<=94/\cs.Nodup/\∀c∈cs,c∈wm.cps.toList)/\G6 y=some (.lst (gK cs))/\Pool G6 a/\Ch [a] G G6/\y≠a);case main=>
  intro h
  refine gf (λ_=> ?_) (λ_=> ?_)
  ·left
   refine⟨a,.str "\\]\\][- |()",rfl,p5,.inr ⟨_,rfl,by decide+kernel,by decide+kernel,λc G6 hc p6 c6=> ?_⟩⟩
   have hx7:∀x∈(al "\\]\\][- |()").cps.toList,x∈wm.cps.toList:=by decide+kernel
   have g6:=c6 acc _ (by simpa using naa) g5
   exists⟨ce,λl2 hl2=> ?_⟩
   left
   have n26:acc≠l2:=gF g6 hl2
   refine zA (xs:=gK cs) (ys:=gK [c]) (bT (by rw[cz n26];exact g6)) (bT aC) (by rw[nQ,nQ];show cs.length+1<=_;ac_nf) λl3 hl3=> ?_
   refine⟨l3,rfl,.inl ⟨(cs++[c]).map c9,by rw[gG,<-nP];unfold gK;rw[a9],by rw[av,af];show cs.length+1<=4000;ac_nf,λms y hnd hm0 _ hy=> ?_⟩⟩
   obtain⟨ds,rfl⟩:=yV (ss:=ms) λy hy=>by
    obtain⟨c,_,e⟩:=bA.mp ((hm0 y).mp hy);exact⟨c,e.symm⟩
   have hd:ds.Nodup:=(List.pairwise_map.mp hnd).imp λh e=>h (by rw[e])
   have hm:∀x,x∈ds↔x∈cs++[c]:=λx=>by
    have:=hm0 (c9 x);rw[bA,bA]at this;constructor
    ·intro h;obtain⟨a,ha,e⟩:=this.mp ⟨x,h,rfl⟩;rw[<-qM e];exact ha
    ·intro h;obtain⟨a,ha,e⟩:=this.mpr ⟨x,h,rfl⟩;rw[<-qM e];exact ha
   rw[<-nP]
   have p8:=((p6.new (o:= .lst [PV.str (c9 c)]) hl2).new (o:= .lst (gK cs++gK [c])) hl3).new (o:= .lst (gK ds)) hy
   have k8:=(((k5.trans c6).new (o:= .lst [PV.str (c9 c)]) hl2).new (o:= .lst (gK cs++gK [c])) hl3).new (o:= .lst (gK ds)) hy
   have nya:=iS ((p6.new (o:= .lst [PV.str (c9 c)]) hl2).new (o:= .lst (gK cs++gK [c])) hl3) hy
   have hdl:ds.length<=(cs++[c]).length:=iT hd λx hx=>(hm x).mp hx
   have hd1:1<=ds.length:=List.length_pos_of_mem ((hm c).mpr (by simp))
   rw[af]at hdl
   have hdl':ds.length<=cs.length+1:=hdl
   left
   have g8:up (up (up G6 l2 (.lst [PV.str (c9 c)])) l3 (.lst (gK cs++gK [c]))) y (.lst (gK ds)) y=some (.lst (gK ds)):=aC
   generalize up (up (up G6 l2 (.lst [PV.str (c9 c)])) l3 (.lst (gK cs++gK [c]))) y (.lst (gK ds))=G8 at g8 p8 k8⊢
   exact h y G8 ⟨ds,⟨hd1,by ac_nf,hd,λx hx=>by
    rcases aH.mp ((hm x).mp hx)with hx|hx
    ·exact hsg x hx
    ·cases ar.mp hx;exact hx7 _ hc⟩,g8,p8,k8,nya⟩
  ·left
   have n1:=naa
   have g7:=g5
   have p7:=p5
   have k7:=k5
   generalize acc=y at n1 g7⊢
   generalize G5=G7 at g7 p7 k7⊢
   exact h y G7 ⟨cs,⟨by ac_nf,by ac_nf,hnod,hsg⟩,g7,p7,k7,n1⟩
 case tail=>
  rintro y G6 ⟨cs,⟨h1,h3,h4,h5⟩,g6,p6,k6,nya⟩
  exists⟨a,30,rfl,p6,by decide,by decide,λn2 G7 n20 n22 p7 c7=> ?_⟩
  have g7:=c7 y _ (by simpa using nya) g6
  have k7:=k6.trans c7
  exists cV rfl rfl ?_
  apply N4 (facts:=λy G6=>∃cs:List Nat,(1<=cs.length/\cs.length<=94/\cs.Nodup/\∀c∈cs,c∈wm.cps.toList)/\G6 y=some (.lst (gK cs))/\Pool G6 a/\Ch [a] G G6)
  case main=>
   intro h
   refine gf (λ_=> ?_) (λ_=> ?_)
   ·left
    refine⟨by rw[rS];decide,λy2 hy2=> ?_⟩
    have p8:=p7.new (o:= .lst (dA io)) hy2
    have k8:=k7.new (o:= .lst (dA io)) hy2
    have g8:up G7 y2 (.lst (dA io)) y2=some (.lst (gK io.cps.toList)):=aC
    left
    generalize up G7 y2 (.lst (dA io))=G8 at g8 p8 k8⊢
    exact h y2 G8 ⟨_,⟨by decide+kernel,by decide+kernel,Eu.imp aN,zy⟩,g8,p8,k8⟩
   ·left
    have g8:=g7
    have p8:=p7
    have k8:=k7
    have y2:=y
    generalize y=y2 at g8⊢
    generalize G7=G8 at g8 p8 k8⊢
    exact h y2 G8 ⟨cs,⟨h1,h3,h4,h5⟩,g8,p8,k8⟩
  case tail=>
   rintro y G6 ⟨cs,⟨h1,h3,h4,h5⟩,g6,p6,k6⟩
   exists⟨y,rfl,.inl ⟨cs.map c9,by rw[<-nP];exact bT g6,by rw[av];ac_nf,λss l3 hp3 hso hl3=> ?_⟩⟩
   obtain⟨ds,rfl,hds,hpm⟩:=uq hp3
   exists nW (zs:=ds.map c9) gG (by rw[qA,av];show ds.length+ds.length*0<=_;ac_nf) ?_
   left
   have hle:(gs (al "") (ds.map c9)).length=ds.length:=by
    have:=congrArg cX (jx ds);rw[aE]at this;exact this
   have ej:=jx ds
   refine⟨ce,_,GE.refl,q _ _ ⟨⟨by rw[hle];ac_nf,by rw[hle];ac_nf⟩,by rw[ej];exact zO hso (hpm.nodup_iff.mpr h4),by rw[ej];exact λc hc=>h5 c (hpm.mem_iff.mp hc)⟩ (p6.new hl3) (k6.new hl3)⟩
end
section
variable{P:aG}{w:aX}{K:PySem.W.Frag}{mg:Str->Option ae}{base:Heap}{f fn fi:Addr}{fd dn di:bb}
theorem yH:bp ["pool", "letters"] ["pool"] (aJ tO):=⟨rfl,rfl,rfl,by decide+kernel,rfl,by decide+kernel,by decide+kernel⟩
theorem GS:eF (aJ tO) ["pool", "letters"] (ic [(".0",.local),("k",.local),("_law_pick",.globalImplicit),("letters",.free),("pool",.free)]) ["k", "letters", "pool"] [none,some 1,some 0] 0 "k" =true:=by decide+kernel
def pT:i8:=λps G Q=>∃(a:Addr),ps=[.ref a]/\Pool G a/\∀s G',((1<=s.length/\s.length<=8)/\LM s)->Pool G' a->Ch [a] G G'->Q (.str s) G'
theorem Cz(F:Fun K "_law_word" "_law_word" tO f fd)(B:BN mg)(CN:cQ P w K mg base 1 "_law_next" fn dn ["pool", "base"] lh)(CP:cQ P w K mg base 2 "_law_pick" fi di ["pool", "some"] mM):jd P w K mg base 3 f fd ["pool"] pT:=by
 have nd:=yH.nd;have hUE:=eD.mk;refine kA F yH (λvs G Q h=> ?_) (λcdv A outer s H E as G Q hr h=> ?_)
 ·obtain⟨_,rfl,_⟩:=h;rfl
 have hU:=eQ hr;apply jB;case a=>
  symm
  all_goals try (refine' ly GS rfl ?_ λ_ _ _ _=>⟨?_,?_⟩)
  all_goals symm
 obtain⟨a,rfl,hp,q⟩:=h;exists⟨a,8,rfl,hp,by decide,by decide,λn1 G1 n0 n8 p1 c1=> ?_⟩;exists⟨by ac_nf,by ac_nf,λacc hacc=> ?_⟩;have naa:=iS p1 hacc;refine⟨λi ys G2=>∃cs:List Nat,(cs.length=i/\∀c∈cs,cF c=true)/\ys=gK cs/\G2 acc=some (.lst ys)/\Pool G2 a/\Ch [a] G G2,⟨[],⟨rfl,by simp⟩,rfl,aC,p1.new hacc,c1.new hacc⟩,?_,?_,?_⟩
 ·rintro i ys G2 hi ⟨cs,⟨hcs,hlt⟩,rfl,g2,_⟩;rw[j9]at hi;exact⟨trivial,g2,by rw[nQ];ac_nf⟩
 ·rintro i ys G2 x hx ⟨cs,⟨hcs,hlt⟩,rfl,g2,p2,c2⟩;refine iE rfl ?_;exists⟨a,.str "abcdefghijklmnopqrstuvwxyz",rfl,p2,.inr ⟨_,rfl,by decide+kernel,by decide+kernel,λc G3 hc p3 c3=> ?_⟩⟩;refine⟨c3 acc _ (by simpa using naa) g2,cs++[c],⟨by rw[af,hcs];rfl,λx hx=>by
   rcases aH.mp hx with hx|hx
   ·exact hlt x hx
   ·cases ar.mp hx;exact(jw _).mp hc⟩,by unfold gK;rw[a9];rfl,aC,p3.ne naa,(c2.trans c3).mod' ?_⟩
  cases e:G acc with
  |none=>rfl
  |some o=>have:=c1 acc o (by simpa using naa) e;rw[hacc]at this;cases this
 ·rintro ys G2 ⟨cs,⟨hcs,hlt⟩,rfl,g2,p2,c2⟩;rw[j9]at hcs;exists nW (zs:=cs.map c9) (by rw[<-nP];exact bT g2) (by rw[qA,av];show cs.length+cs.length*0<=_;ac_nf) ?_;have hle:(gs (al "") (cs.map c9)).length=cs.length:=by
   have:=congrArg cX (jx cs);rw[aE]at this;exact this
  exact⟨_,GE.refl,q _ _ ⟨⟨by rw[hle];ac_nf,by rw[hle];ac_nf⟩,by unfold LM;rw[jx];exact hlt⟩ p2 c2⟩
end
theorem om(c k:Nat):i7 (.str (c9 c)) (.str (c9 k))=decide (c=k):=by
 show(c9 c==c9 k)=_;by_cases h:c=k
 ·subst h;simp
 ·rw[decide_eq_false h];rw[beq_eq_false_iff_ne];exact λe=>h (qM e)
theorem HH:al "]" =c9 93:=by decide+kernel
theorem HI:al "\\" =c9 92:=by decide+kernel
section
variable{P:aG}{w:aX}{K:PySem.W.Frag}{mg:Str->Option ae}{base:Heap}{f fa:Addr}{fd da:bb}
theorem yL:bp ["pattern"] ["pattern"] (aJ tQ):=⟨rfl,rfl,rfl,by decide+kernel,rfl,by decide+kernel,by decide+kernel⟩
theorem GT:eF (aJ tQ) ["pattern"] (ic [(".0",.local),("part",.local),("_law_count",.globalImplicit)]) ["part"] [none] 0 "part" =true:=by decide+kernel
def jg(n:Nat):i8:=λps G Q=>∃p,ps=[dh p]/\depth p<=n/\size p<=10000/\Q (.int (size p:Nat)) G
theorem sH:∀ps:List Pt,(ps.map λp=>((size p:Nat):Int)).sum=((bL ps:Nat):Int)
 |[]=>rfl
 |p::ps=>by rw[aU,jm,sH ps];simp only[bL];ac_nf
theorem CQ{n k:Nat}(hk:1<=k)(F:Fun K "_law_count" "_law_count" tQ f fd)(B:BN mg)(C:cQ P w K mg base k "_law_count" fa da ["pattern"] (jg n)):jd P w K mg base (k+1) f fd ["pattern"] (jg (n+1)):=by
 have nd:=yL.nd;have hUE:=eD.mk;refine kA F yL (λvs G Q h=> ?_) (λcdv A outer s H E as G Q hr h=> ?_)
 ·obtain⟨_,rfl,_⟩:=h;rfl
 have hU:=eQ hr;apply jB;case a=>
  symm
  all_goals try (refine' ly GT rfl ?_ λ_ _ _ _=>⟨?_,?_⟩)
  all_goals symm
 obtain⟨p,rfl,hd,hz,q⟩:=h;have hdi:=bM p;have hsi:=cS p;have key:∀(ps:List Pt) (τ:jE) (R:K2),bX ps<=n->bL ps<=10000->(∀acc,G acc=none->R (.ref acc) (up G acc (.lst (ps.map λc=> .int (size c:Nat)))))->∀acc,G acc=none->EH (b9 ps) (λ_=>True) [none] 0 τ ml (mz (jg n) (mD (eV 0) sw)) R G acc:=λps τ R h1 h2 r acc hacc=>by
  refine ka (λc=> .int (size c:Nat)) ?_ (λ_=>trivial) (λx ys R hx r=> ?_) (r acc hacc)
  ·have:=cA ps;ac_nf
  ·have:=eZ hx;have:=fe hx;exact⟨x,rfl,by ac_nf,by ac_nf,r⟩
 have fin:∀(ps:List Pt) (acc:Addr),G acc=none->size p=1+bL ps->zL [.ref acc] (up G acc (.lst (ps.map λc=> .int (size c:Nat)))) λy G2=>jb (.int 1) y G2 λp G'=>∃G0,GE G0 G'/\Q p G0:=λps acc hacc e=>by
  refine Ix (ns:=ps.map λc=>((size c:Nat):Int)) (bT (by rw[aC,bB];rfl)) ?_;rw[sH];refine b8 ⟨G,GE.refl.new hacc,?_⟩;rw[show(1:Int)+((bL ps:Nat):Int)=((size p:Nat):Int)by ac_nf];exact q
 have one:∀(p':Pt),dE p=[p']->jg n [dh p'] G λy G2=>jb (.int 1) y G2 λp G'=>∃G0,GE G0 G'/\Q p G0:=λp' e=>by
  rw[e]at hdi hsi;simp only[bX,bL]at hdi hsi;refine⟨p',rfl,by ac_nf,by ac_nf,?_⟩;refine b8 ⟨G,GE.refl,?_⟩;rw[show(1:Int)+((size p':Nat):Int)=((size p:Nat):Int)by ac_nf];exact q
 cases p with
 |row ps=>
  have hdi':depth (.row ps)=1+bX ps:=hdi
  have hsi':size (.row ps)=1+bL ps:=hsi
  refine⟨ce,rfl,rfl,?_⟩
  exact key ps _ _ (by ac_nf) (by ac_nf) λacc hacc=>fin ps acc hacc hsi
 |pick ps=>
  have hdi':depth (.pick ps)=1+bX ps:=hdi
  have hsi':size (.pick ps)=1+bL ps:=hsi
  refine⟨ce,rfl,rfl,?_⟩
  exact key ps _ _ (by ac_nf) (by ac_nf) λacc hacc=>fin ps acc hacc hsi
 |again p'=>exact⟨ce,rfl,rfl,ce,rfl,rfl,one p' rfl⟩
 |held m p'=>exact⟨ce,rfl,rfl,ce,rfl,rfl,one p' rfl⟩
 |price m p'=>exact⟨ce,rfl,rfl,ce,rfl,rfl,one p' rfl⟩
 |none=>exact⟨ce,rfl,rfl,ce,rfl,rfl,G,GE.refl,q⟩
 |blank=>exact⟨ce,rfl,rfl,ce,rfl,rfl,G,GE.refl,q⟩
 |sign s=>exact⟨ce,rfl,rfl,ce,rfl,rfl,G,GE.refl,q⟩
theorem Hs:bp ["signs", "found", "sign"] ["signs"] (aJ Ii):=⟨rfl,rfl,rfl,by decide+kernel,rfl,by decide+kernel,by decide+kernel⟩
theorem Jx(F:Fun K "_law_signs_text" "_law_signs_text" Ii f fd)(B:BN mg):jd P w K mg base 1 f fd ["signs"] zN:=by
 have nd:=Hs.nd;have hUE:=eD.mk;refine kA F Hs (λvs G Q h=> ?_) (λcdv A outer s H E as G Q hr h=> ?_)
 ·obtain⟨_,rfl,_⟩:=h;rfl
 have hU:=eQ hr;apply jB;case a=>symm
 obtain⟨z,rfl,hz,q⟩:=h;have hzl:z.cps.toList.length<=94:=hz;exists⟨λi τ G'=>∃y:Option PV,τ=[some (.str z),some (.str (cx (91::eU (z.cps.toList.take i)))),y]/\G'=G,⟨_,by rw[show al "[" =cx [91]by decide+kernel];rfl,rfl⟩,λ_ _ _ _ _=>trivial,?_,?_⟩
 ·rintro i x τ G' hx ⟨y,rfl,rfl⟩;obtain⟨c,hc,rfl⟩:=lj hx;have tk:z.cps.toList.take (i+1)=z.cps.toList.take i++[c]:=by rw[cK,hc];rfl
  have hle:=lC (z.cps.toList.take i);rw[aO]at hle;have fin:∀(k:Int),(k=if c=93\/c=92 then 1 else 0)->yX (PV.str (al "\\")) (.int k) G' (λy2 G2=>jb (.str (cx (91::eU (z.cps.toList.take i)))) y2 G2 λx G1=>jb x (.str (c9 c)) G1 λp G1=>∃y:Option PV,[some (.str z),some p,some (.str (c9 c))]=[some (.str z),some (.str (cx (91::eU (z.cps.toList.take (i+1))))),y]/\G1=G'):=by
   rintro k rfl;have hk:vE (al "\\") (if c=93\/c=92 then 1 else 0)++c9 c=cx (gR c)/\(vE (al "\\") (if c=93\/c=92 then 1 else 0)).length<=1:=by
    by_cases h:c=93\/c=92
    ·rw[if_pos h];refine⟨?_,by decide+kernel⟩;unfold gR;rw[if_pos h,show vE (al "\\") 1=cx [92]by decide+kernel,show c9 c=cx [c]from rfl,dI];rfl
    ·rw[if_neg h];refine⟨?_,by decide+kernel⟩;unfold gR;rw[if_neg h,show vE (al "\\") 0=cx []by decide+kernel,show c9 c=cx [c]from rfl,dI];rfl
   have hk2:(0:Int)<=(if c=93\/c=92 then 1 else 0)/\(if c=93\/c=92 then 1 else 0)<=(1000:Int):=by split<;>decide
   refine⟨hk2.1,hk2.2,by decide+kernel,?_⟩;generalize vE (al "\\") (if c=93\/c=92 then 1 else 0)=rr at hk⊢;refine eH (by rw[aV,aj];ac_nf) ?_;refine eH (by
    show(cx _++rr).cps.size+1<=_;show((cx (91::eU (z.cps.toList.take i))).cps++rr.cps).size+1<=_;rw[pQ];have h1:=aV (91::eU (z.cps.toList.take i));have h2:=hk.2;rw[aj]at h1;unfold mi at h1 h2;ac_nf) ?_
   refine⟨some (.str (c9 c)),?_,rfl⟩;have e:cx (91::eU (z.cps.toList.take i))++rr++c9 c=cx (91::eU (z.cps.toList.take (i+1))):=by
    have ea:∀x y z:Str,x++y++z=x++(y++z):=λx y z=>by
     show(⟨x.cps++y.cps++z.cps⟩:Str)=⟨x.cps++(y.cps++z.cps)⟩;rw[Array.append_assoc]
    rw[ea,hk.1,dI,tk,AA];rfl
   rw[e]
  left;rw[HH,HI];refine cV rfl rfl ?_;rw[om];exists gf (λh1=> ?_) (λh1=> ?_)
  ·have h1':c=93:=of_decide_eq_true h1;exact fin 1 (by rw[if_pos (.inl h1')])
  ·have h1':¬c=93:=of_decide_eq_false h1;exists cV rfl rfl ?_;rw[om];by_cases h2:c=92
   ·rw[decide_eq_true h2];exact fin 1 (by rw[if_pos (.inr h2)])
   ·rw[decide_eq_false h2];exact fin 0 (by rw[if_neg (by ac_nf)])
 ·rintro τ G' ⟨y,rfl,rfl⟩;have hl:(dA z).length=z.cps.toList.length:=by unfold dA;rw[av]
  rw[hl,dZ];have hle:=lC z.cps.toList;exists eH (by rw[aV,aj];show _+1<=_;ac_nf) ?_;rw[show al "]" =cx [93]by decide+kernel,dI];exact⟨_,GE.refl,q⟩
end
section
variable{P:aG}{w:aX}{K:PySem.W.Frag}{mg:Str->Option ae}{base:Heap}{f ft fa:Addr}{fd dt da:bb}
theorem Md:bp ["pattern", "word", "between"] ["pattern"] (aJ Om):=⟨rfl,rfl,rfl,by decide+kernel,rfl,by decide+kernel,by decide+kernel⟩
theorem PQ:eF (aJ Om) ["pattern", "word", "between"] (ic [(".0",.local),("part",.local),("_law_written",.globalImplicit)]) ["part"] [none] 0 "part" =true:=by decide+kernel
theorem MJ{n k:Nat}(hk:1<=k)(F:Fun K "_law_written" "_law_written" Om f fd)(B:BN mg)(CS:cQ P w K mg base 1 "_law_signs_text" ft dt ["signs"] zN)
  (C:cQ P w K mg base k "_law_written" fa da ["pattern"] (mO n)):jd P w K mg base (k+1) f fd ["pattern"] (mO (n+1)):=by
 have nd:=Md.nd;have hUE:=eD.mk;refine kA F Md (λvs G Q h=> ?_) (λcdv A outer s H E as G Q hr h=> ?_)
 ·obtain⟨_,rfl,_⟩:=h;rfl
 have hU:=eQ hr;apply jB;case a=>
  symm
  all_goals try (refine' ly PQ rfl ?_ λ_ _ _ _=>⟨?_,?_⟩)
  all_goals symm
 obtain⟨p,rfl,hd,hw,hz,q⟩:=h;have hdi:=bM p;have hsi:=cS p;have hwl:=gB p hw;have key:∀(ps:List Pt) (G:Gp) (τ:jE) (R:K2),bX ps<=n->bL ps<=200->yh ps->(∀acc,G acc=none->R (.ref acc) (up G acc (.lst (ps.map yf))))->∀acc,G acc=none->EH (b9 ps) (λ_=>True) [none] 0 τ ml (mz (mO n) (mD (eV 0) sw)) R G acc:=λps G τ R h1 h2 h3 r acc hacc=>by
  refine ka yf ?_ (λ_=>trivial) (λx ys R hx r=> ?_) (r acc hacc)
  ·have:=cA ps;ac_nf
  ·have:=eZ hx;have:=fe hx;exact⟨x,rfl,by ac_nf,gC.mp h3 x hx,by ac_nf,r⟩
 cases p with
 |none=>
  unfold yf at q
  rw[show dY .none=[33]from rfl,<-c33]at q
  refine⟨rfl,rfl,rfl,rfl,rfl,rfl,rfl,rfl,rfl,rfl,rfl,rfl,ce,λl hl=>⟨rfl,rfl,?_⟩⟩
  refine fT gG iC ?_
  exact⟨G,GE.refl.new hl,q⟩
 |blank=>
  unfold yf at q
  rw[show dY .blank=[45]from rfl,<-c45]at q
  refine⟨rfl,rfl,rfl,rfl,rfl,rfl,rfl,rfl,rfl,rfl,rfl,rfl,ce,λl hl=>⟨rfl,rfl,?_⟩⟩
  refine fT (x:= .str "-") gG rfl ?_
  exact⟨G,GE.refl.new hl,q⟩
 |sign s=>exact⟨rfl,rfl,rfl,rfl,rfl,rfl,rfl,rfl,rfl,rfl,rfl,rfl,s,rfl,hw.1.2,G,GE.refl,q⟩
 |row ps=>
  have hz':1+bL ps<=200:=hz
  have hd':1+bX ps<=n+1:=hd
  refine⟨rfl,rfl,ce,λl hl=>⟨rfl,rfl,?_⟩⟩
  refine fT (x:= .str " ") gG rfl ?_
  exists key ps _ _ _ (by ac_nf) (by ac_nf) hw.2 λacc hacc=> ?_
  left
  rw[c32]
  exact GY (sep:=[32]) hw.2 hw.1.2 (by ac_nf) (by decide) gG ⟨G,(GE.refl.new hl).new hacc,q⟩
 |pick ps=>
  have hz':1+bL ps<=200:=hz
  have hd':1+bX ps<=n+1:=hd
  refine⟨rfl,rfl,rfl,rfl,ce,λl hl=>⟨rfl,rfl,?_⟩⟩
  refine fT (x:= .str " | ") gG rfl ?_
  exists key ps _ _ _ (by ac_nf) (by ac_nf) hw.2 λacc hacc=> ?_
  left
  rw[Ef]
  exact GY (sep:=[32,124,32]) hw.2 hw.1.2 (by ac_nf) (by decide) gG ⟨G,(GE.refl.new hl).new hacc,q⟩
 |again p=>
  have hz':1+size p<=200:=hz
  have hd':1+depth p<=n+1:=hd
  have hw1:=gB p hw.2
  refine⟨rfl,rfl,rfl,rfl,rfl,rfl,p,rfl,by ac_nf,hw.2,by ac_nf,?_⟩
  refine eH (by rw[aV];show 1+_<=_;ac_nf) ?_
  rw[c42,dI]
  exact⟨G,GE.refl,q⟩
 |held m p=>
  have hz':1+size p<=200:=hz
  have hd':1+depth p<=n+1:=hd
  have hw1:=gB p hw.2
  have hm8:=hw.1.1.2
  have em:=iU m
  refine⟨rfl,rfl,rfl,rfl,rfl,rfl,rfl,rfl,?_⟩
  exists⟨by show m.length+1<=_;ac_nf,?_⟩
  refine⟨p,rfl,by ac_nf,hw.2,by ac_nf,?_⟩
  rw[c58,<-em,dI]
  refine eH (by rw[aV,aV,af];show m.length+1+_<=_;ac_nf) ?_
  rw[dI]
  refine⟨G,GE.refl,?_⟩
  rw[aI]
  exact q
 |price m p=>
  have hz':1+size p<=200:=hz
  have hd':1+depth p<=n+1:=hd
  have hw1:=gB p hw.2
  have hm8:=oK hw.1.1 hw.1.2
  have em:=iU (al (toString m))
  refine⟨rfl,rfl,rfl,rfl,rfl,rfl,rfl,rfl,rfl,rfl,sP hw.1.1 hw.1.2,?_⟩
  exists eH (by show _+1<=_;ac_nf) ?_
  refine⟨p,rfl,by ac_nf,hw.2,by ac_nf,?_⟩
  rw[c36,<-em,dI]
  refine eH (by rw[aV,aV,af];show(al (toString m)).length+1+_<=_;ac_nf) ?_
  rw[dI]
  refine⟨G,GE.refl,?_⟩
  rw[aI,xm hw.1.1 hw.1.2]
  exact q
end
theorem GR{T g:Prop}(main:T->g)(tail:T):g:=main tail
theorem J0{i j:Int}{G:Gp}{Q:K2}(q:Q (.int (if j>i then j else i)) G):yZ [.int i,.int j] G Q:=q
theorem JZ{i j:Int}{G:Gp}{Q:K2}(q:Q (.int (if j<i then j else i)) G):yY [.int i,.int j] G Q:=q
theorem lA{b:Bool}{G:Gp}{Q:K2}(q:Q (.int (if b then 1 else 0)) G):zh [.bl b] G Q:=q
theorem wG{ps qs:List Pt}:yh (ps++qs)↔yh ps/\yh qs:=by
 rw[gC,gC,gC];constructor
 ·exact λh=>⟨λc hc=>h c (by simp[hc]),λc hc=>h c (by simp[hc])⟩
 ·rintro⟨h1,h2⟩ c hc;rcases aH.mp hc with hc|hc
  ·exact h1 c hc
  ·exact h2 c hc
theorem Ep:∀{ps:List Pt},(∀q∈ps,eL q=false)->Es ps=false
 |[],_=>rfl
 |p::ps,h=>by
  show(eL p||Es ps)=false;rw[h p (by simp),Ep λq hq=>h q (by simp[hq])];rfl
theorem Ev:∀{ps:List Pt} {j:Nat} {q:Pt},ps[j]? =some q->eL q=false->AS ps=false
 |[],j,q,h,_=>by simp at h
 |p::ps,0,q,h,hq=>by
  cases h;show(eL p&&AS ps)=false;rw[hq];rfl
 |p::ps,j+1,q,h,hq=>by
  show(eL p&&AS ps)=false;rw[Ev (j:=j) (by simpa using h) hq,e8]
section
variable{P:aG}{w:aX}{K:PySem.W.Frag}{mg:Str->Option ae}{base:Heap}{f fn fi fa fs fw:Addr}{fd dn di da ds dw:bb}
theorem Hx:bp ["pool", "deep", "room", "blank", "way", "size", "hard", "parts", "number"] ["pool", "deep", "room", "blank"] (aJ EL):=⟨rfl,rfl,rfl,by decide+kernel,rfl,by decide+kernel,by decide+kernel⟩
theorem N7:eF (aJ EL) ["pool", "deep", "room", "blank", "way", "size", "hard", "parts", "number"] (ic [(".0",.local),("k",.local),("_law_any",.globalImplicit),("blank",.free),("deep",.free),("hard",.free),("pool",.free),("room",.free),("way",.free)]) ["k", "blank", "deep", "hard", "pool", "room", "way"] [none,some 3,some 1,some 6,some 0,some 2,some 4] 0 "k" =true:=by decide+kernel
def qF(n:Nat):i8:=λps G Q=>∃(a rm:Addr) (d r:Int) (b:Bool),ps=[.ref a,.int d,.ref rm,.bl b]/\(1<=d/\d<=n)/\Pool G a/\G rm=some (.lst [.int r])/\a≠rm/\
 ∀(p:Pt) (r':Int) G',wp p->(b=false->eL p=false)->(depth p:Int)<=d->(size p:Int)=r-r'->(r<7->r'=r-1)->(7<=r->6-6*(n:Int)<=r')->Pool G' a->G' rm=some (.lst [.int r'])->Ch [a,rm] G G'->Q (dh p) G'
theorem JJ{n k:Nat}(hk:3<=k)(F:Fun K "_law_any" "_law_any" EL f fd)(B:BN mg)(CN:cQ P w K mg base 1 "_law_next" fn dn ["pool", "base"] lh)(CP:cQ P w K mg base 2 "_law_pick" fi di ["pool", "some"] mM)(CS:cQ P w K mg base 3 "_law_sign" fs ds ["pool"] t9)(CW:cQ P w K mg base 3 "_law_word" fw dw ["pool"] pT)
  (C:cQ P w K mg base k "_law_any" fa da ["pool", "deep", "room", "blank"] (qF n)):jd P w K mg base (k+1) f fd ["pool", "deep", "room", "blank"] (qF (n+1)):=by
 have nd:=Hx.nd;have hUE:=eD.mk;refine kA F Hx (λvs G Q h=> ?_) (λcdv A outer s H E as G Q hr h=> ?_)
 ·obtain⟨_,_,_,_,_,rfl,_⟩:=h;rfl
 have hU:=eQ hr;apply jB;case a=>
  symm
  all_goals try (refine' nV (n:=7) (by assumption) rfl rfl N7 rfl ?_ λ_ _ _ _=>⟨?_,?_⟩)
  all_goals symm
 obtain⟨a,rm,d,r,b,rfl,hd,hp,gr,har,q⟩:=h;exists⟨a,14,rfl,hp,by decide,by decide,λway G1 w0 w14 p1 c1=> ?_⟩;have gr1:=c1 rm _ (by simpa using aY har) gr;have k1:Ch [a,rm] G G1:=c1.mono (by simp);exists fT (bT gr1) iC ?_;exists w9 (j:=0) gr1 rfl ?_;have gr2:up G1 rm (.lst ([PV.int r].set 0 (.int (r-1)))) rm=some (.lst [.int (r-1)]):=aC;have p2:=p1.ne (o:= .lst ([PV.int r].set 0 (.int (r-1)))) (aY har);have k2:Ch [a,rm] G (up G1 rm (.lst ([PV.int r].set 0 (.int (r-1))))):=k1.put (by simp);generalize up G1 rm (.lst ([PV.int r].set 0 (.int (r-1))))=G2 at gr2 p2 k2⊢;have q1:∀(p:Pt) G',wp p->(b=false->eL p=false)->depth p=1->size p=1->Pool G' a->G' rm=some (.lst [.int (r-1)])->Ch [a,rm] G G'->Q (dh p) G':=λp G' h1 hbl h2 h3 h4 h5 h6=>q p (r-1) G' h1 hbl (by ac_nf) (by ac_nf) (λ_=>rfl) (λ_=>by ac_nf) h4 h5 h6;left;apply GR;case main=>
  intro leaf
  refine gf (λ_=>iE rfl leaf) (λh2=> ?_)
  have hd2:2<=d:=by
   have:¬(d<2):=of_decide_eq_false h2;ac_nf
  exists fT (bT gr2) iC ?_
  exists gf (λ_=>iE rfl leaf) (λh6=> ?_)
  have hr6:6<=r-1:=by
   have:¬(r-1<6):=of_decide_eq_false h6;ac_nf
  clear q1
  exists gf (λ_=>leaf) (λ_=> ?_)
  clear leaf
  left
  have ed1:1<=d-1/\d-1<=(n:Int):=by ac_nf
  refine gf (λ_=> ?_) (λ_=> ?_)
  ·left
   refine⟨a,5,rfl,p2,by decide,by decide,λn5 G3 n50 n55 p3 c3=> ?_⟩
   have gr3:=c3 rm _ (by simpa using aY har) gr2
   have k3:=k2.trans (c3.mono (l':=[a,rm]) (by simp))
   exists b8 ?_
   exists fT (bT gr3) iC ?_
   exists⟨⟨by decide,by decide⟩,?_⟩
   left
   obtain⟨sz,esz,sz2,sz6⟩:∃sz:Int,(if(if(r-1)/4>2 then(r-1)/4 else 2)<2+n5 then(if(r-1)/4>2 then(r-1)/4 else 2)else 2+n5)=sz/\2<=sz/\sz<=6:=⟨_,rfl,by split<;>(try split)<;>ac_nf,by split<;>(try split at*)<;>(try split)<;>ac_nf⟩
   refine J0 ?_
   exists JZ ?_
   rw[esz]
   exists⟨a,sz,rfl,p3,by ac_nf,by ac_nf,λhh G4 h0 h1 p4 c4=> ?_⟩
   have gr4:=c4 rm _ (by simpa using aY har) gr3
   have k4:=k3.trans (c4.mono (l':=[a,rm]) (by simp))
   exists⟨by ac_nf,by ac_nf,λacc hacc=> ?_⟩
   have naa:=iS p4 hacc
   have nar:acc≠rm:=aY (gF gr4 hacc)
   have hGacc:G acc=none:=by
    cases e:G acc with
    |none=>rfl
    |some o=>have:=k4 acc o (by simp[naa,nar]) e;rw[hacc]at this;cases this
   refine⟨λi ys G5=>∃(qs:List Pt) (r1:Int),(b=false->(4<way->∀q∈qs,eL q=false)/\(¬(4:Int)<way->∀(j:Nat) q,qs[j]? =some q->(j:Int)=hh->eL q=false))/\(qs.length=i/\ys=b9 qs/\yh qs/\(bX qs:Int)<=d-1/\(bL qs:Int)=r-1-r1/\6-6*(n:Int)-i<=r1)/\Pool G5 a/\G5 rm=some (.lst [.int r1])/\G5 acc=some (.lst ys)/\Ch [a,rm] G G5,
    ⟨[],r-1,λ_=>⟨(λ_ q hq=>by cases hq),(λ_ j q hq=>by simp at hq)⟩,⟨rfl,rfl,trivial,by simp only[bX];ac_nf,by simp only[bL];ac_nf,by ac_nf⟩,p4.new hacc,by rw[cz (aY nar)];exact gr4,aC,k4.new hacc⟩,?_,?_,?_⟩
   ·rintro i ys G5 hi ⟨qs,r1,_,⟨hq,rfl,_⟩,_,_,g5,_⟩
    rw[j9]at hi
    exact⟨trivial,g5,by rw[bU];ac_nf⟩
   ·rintro i ys G5 x hx ⟨qs,r1,hbl,⟨hq,rfl,hw,hds,hsz,hlo⟩,p5,gr5,g5,k5⟩
    obtain⟨hi,rfl⟩:=zf hx
    refine iE rfl ?_
    left
    have step:∀b':Bool,(b=false->(4<way->b'=false)/\(¬(4:Int)<way->(i:Int)=hh->b'=false))->qF n [.ref a,.int (d-1),.ref rm,.bl b'] G5 λy G3=>G3 acc=some (.lst (b9 qs))/\∃(qs':List Pt) (r1:Int),(b=false->(4<way->∀q∈qs',eL q=false)/\(¬(4:Int)<way->∀(j:Nat) q,qs'[j]? =some q->(j:Int)=hh->eL q=false))/\(qs'.length=i+1/\b9 qs++[y]=b9 qs'/\yh qs'/\(bX qs':Int)<=d-1/\(bL qs':Int)=r-1-r1/\6-6*(n:Int)-(i+1:Nat)<=r1)/\Pool (up G3 acc (.lst (b9 qs++[y]))) a/\up G3 acc (.lst (b9 qs++[y])) rm=some (.lst [.int r1])/\up G3 acc (.lst (b9 qs++[y])) acc=some (.lst (b9 qs++[y]))/\Ch [a,rm] G (up G3 acc (.lst (b9 qs++[y]))):=by
     intro b' hb';refine⟨a,rm,d-1,r1,b',rfl,ed1,p5,gr5,har,λp r2 G6 wp6 bl6 dp6 sz6 ra rb p6 gr6 c6=> ?_⟩;refine⟨c6 acc _ (by simp[naa,nar]) g5,qs++[p],r2,λhb0=>⟨λh4 q hq'=> ?_,λh4 j q hj hjh=> ?_⟩,⟨by rw[af,hq];rfl,by rw[jL];rfl,wG.mpr ⟨hw,wp6,trivial⟩,?_,?_,?_⟩,p6.ne naa,by rw[cz (aY nar)];exact gr6,aC,(k5.trans c6).mod' hGacc⟩
     ·rcases aH.mp hq' with hq'|hq'
      ·exact(hbl hb0).1 h4 q hq'
      ·cases ar.mp hq';exact bl6 ((hb' hb0).1 h4)
     ·by_cases hji:j<qs.length
      ·rw[dW hji]at hj;exact(hbl hb0).2 h4 j q hj hjh
      ·rw[cn (by ac_nf)]at hj;have hj0:j-qs.length=0:=by
        have:=(ak.mp hj).1;simp at this;ac_nf
       rw[hj0]at hj;cases hj;exact bl6 ((hb' hb0).2 h4 (by ac_nf))
     ·rw[mB];simp only[bX];ac_nf
     ·rw[gD];simp only[bL];ac_nf
     ·by_cases h7:r1<7
      ·have:=ra h7;ac_nf
      ·have:=rb (by ac_nf);ac_nf
    cases b with
    |true=>exact step true λh=>by cases h
    |false=>
     refine jK rfl ?_;exists gf (λhw5=> ?_) (λ_=>step false λ_=>⟨λ_=>rfl,λ_ _=>rfl⟩);exists qR rfl rfl ?_;have hw5':way<5:=of_decide_eq_true hw5;refine step _ λ_=>⟨λh=>by ac_nf,λ_ hih=> ?_⟩;show(!(((0:Int)+(i:Int))==hh))=false;rw[show((0:Int)+(i:Int))=hh by ac_nf];simp
   ·rintro ys G5 ⟨qs,r1,hbl,⟨hq,rfl,hw,hds,hsz,hlo⟩,p5,gr5,g5,k5⟩
    rw[j9]at hq hlo
    exists⟨ce,λl hl=> ?_⟩
    have nl:=iS p5 hl
    have nlr:l≠rm:=aY (gF gr5 hl)
    have nla:acc≠l:=gF g5 hl
    left
    have g5':up G5 l (.lst [.str "row",.str "pick"]) acc=some (.lst (b9 qs)):=by rw[cz nla];exact g5
    by_cases hw4:(4:Int)<way
    ·refine lA ?_
     rw[decide_eq_true hw4]
     refine fT (x:= .str "pick") gG rfl ?_
     exists qx (bT g5') ?_
     exists⟨ce,_,GE.refl,q (.pick qs) r1 _ ⟨by ac_nf,hw⟩ (λhb0=>Ep ((hbl hb0).1 hw4)) (by show((1+bX qs:Nat):Int)<=d;ac_nf) (by show((1+bL qs:Nat):Int)=_;ac_nf) (by ac_nf) (by ac_nf) (p5.new hl) (by rw[cz (aY nlr)];exact gr5) (k5.new hl)⟩
    ·refine lA ?_
     rw[decide_eq_false hw4]
     refine fT (x:= .str "row") gG rfl ?_
     exists qx (bT g5') ?_
     exists⟨ce,_,GE.refl,q (.row qs) r1 _ ⟨by ac_nf,hw⟩ (λhb0=>by
      obtain⟨q',hq'⟩:∃q',qs[hh.toNat]? =some q':=⟨_,au (by ac_nf)⟩;exact Ev hq' ((hbl hb0).2 hw4 _ q' hq' (by ac_nf))) (by show((1+bX qs:Nat):Int)<=d;ac_nf) (by show((1+bL qs:Nat):Int)=_;ac_nf) (by ac_nf) (by ac_nf) (p5.new hl) (by rw[cz (aY nlr)];exact gr5) (k5.new hl)⟩
  have recA:∀(b':Bool) (G3:Gp) (R:K2),Pool G3 a->G3 rm=some (.lst [.int (r-1)])->Ch [a,rm] G G3->
    (∀p G',wp p->(b'=false->eL p=false)->(∀q':Pt,wp q'->(b=false->eL q'=false)->depth q'=1+depth p->size q'=1+size p->Q (dh q') G')->R (dh p) G')->qF n [.ref a,.int (d-1),.ref rm,.bl b'] G3 R:=by
   intro b' G3 R p3 gr3 k3 hR;refine⟨a,rm,d-1,r-1,b',rfl,ed1,p3,gr3,har,λp r2 G6 wp6 bl6 dp6 sz6 ra rb p6 gr6 c6=> ?_⟩;refine hR p G6 wp6 bl6 λq' h1 hbl h2 h3=>q q' r2 G6 h1 hbl (by ac_nf) (by ac_nf) (by ac_nf) (λ_=> ?_) p6 gr6 (k3.trans c6);by_cases h7:r-1<7
   ·have:=ra h7;ac_nf
   ·have:=rb (by ac_nf);ac_nf
  exists u0 ?_ (λ_ hB=> ?_)
  ·refine jK rfl ?_
   exists gf (λ_=> ?_) (λ_=> ?_)
   ·left
    refine⟨a,rfl,p2,λwd G3 wl p3 c3=> ?_⟩
    exists recA b G3 _ p3 (c3 rm _ (by simpa using aY har) gr2) (k2.trans (c3.mono (by simp))) λp G4 hw hbp hq=> ?_
    left
    exact⟨ce,_,GE.refl,hq (.held wd p) ⟨wl,hw⟩ hbp rfl rfl⟩
   ·left
    refine⟨a,1001,rfl,p2,by decide,by decide,λn8 G3 n80 n81 p3 c3=> ?_⟩
    have gr3:=c3 rm _ (by simpa using aY har) gr2
    have k3:=k2.trans (c3.mono (l':=[a,rm]) (by simp))
    exists⟨ce,λl hl=> ?_⟩
    have nl:=iS p3 hl
    have nlr:l≠rm:=aY (gF gr3 hl)
    exists⟨a,.ref l,rfl,p3.new hl,.inl ⟨l,_,rfl,nl,aC,by simp,by simp,λx G4 hx p4 c4=> ?_⟩⟩
    obtain⟨m,rfl,m0,m1⟩:∃m:Int,x= .int m/\0<=m/\m<=1000:=by
     simp only[aw,bu,or_false]at hx;rcases hx with rfl|rfl|rfl|rfl|rfl|rfl|rfl|rfl|rfl<;>exact⟨_,rfl,by ac_nf,by ac_nf⟩
    exists recA b G4 _ p4 (c4 rm _ (by simpa using aY har) (by rw[cz (aY nlr)];exact gr3)) ((k3.new hl).trans (c4.mono (by simp))) λp G5 hw hbp hq=> ?_
    left
    exact⟨ce,_,GE.refl,hq (.price m p) ⟨⟨m0,m1⟩,hw⟩ hbp rfl rfl⟩
  ·left
   cases b with
   |false=>exact hB
   |true=>
    refine iE rfl ?_
    exists recA false G2 _ p2 gr2 k2 λp G4 hw hbp hq=> ?_
    left
    exact⟨ce,_,GE.refl,hq (.again p) ⟨hbp rfl,hw⟩ (λh=>by cases h) rfl rfl⟩
 case tail=>
  have sg:∀R,IH (mz t9 (mD (eV 0) sw)) {nx:=R,rt:=λp G'=>∃G0,GE G0 G'/\Q p G0} [some (.ref a),some (.int d),some (.ref rm),some (.bl b),some (.int way),none,none,none,none] G2:=by
   intro R;exists⟨a,rfl,p2,λs G3 ws p3 c3=> ?_⟩;exact⟨_,GE.refl,q1 (.sign s) G3 ws (λ_=>rfl) rfl rfl p3 (c3 rm _ (by simpa using aY har) gr2) (k2.trans (c3.mono (by simp)))⟩
  exists u0 ?_ (λhbt hB=> ?_)
  ·refine jK rfl ?_
   exact sg _
  ·left
   refine gf (λ_=> ?_) (λ_=>sg _)
   exists⟨ce,?_⟩
   exists⟨ce,?_⟩
   exists⟨ce,λl hl=> ?_⟩
   have nl:=iS p2 hl
   have nlr:l≠rm:=aY (gF gr2 hl)
   exists⟨a,2,rfl,p2.new hl,by decide,by decide,λm G3 m0 m2 p3 c3=> ?_⟩
   have e:∃p:Pt,tL [PV.tup [PV.str "blank"],PV.tup [PV.str "none"]] m=some (dh p)/\wp p/\depth p=1/\size p=1:=by
    have:m=0\/m=1:=by ac_nf
    rcases this with rfl|rfl
    ·exact⟨.blank,rfl,trivial,rfl,rfl⟩
    ·exact⟨.none,rfl,trivial,rfl,rfl⟩
   obtain⟨p,ep,w1,w2,w3⟩:=e
   exists fT (bT (c3 l _ (by simpa using nl) aC)) ep ?_
   exact⟨_,GE.refl,q1 p G3 w1 (λh=>by rw[hbt]at h;cases h) w2 w3 p3 (c3 rm _ (by simpa using aY har) (by rw[cz (aY nlr)];exact gr2)) ((k2.new hl).trans (c3.mono (by simp)))⟩
end
theorem Bp(z:Str):i7 (.str z) (.str z)=true:=by show(z==z)=true;simp
section
variable{P:aG}{w:aX}{K:PySem.W.Frag}{mg:Str->Option ae}{base:Heap}{f fn fi ft fa fw fc fp:Addr}{fd dn di dt da dw dc dp:bb}
theorem yI:bp ["cell", "pool", "room", "pattern"] ["cell"] (aJ wE):=⟨rfl,rfl,rfl,by decide+kernel,rfl,by decide+kernel,by decide+kernel⟩
def pU:i8:=λps G Q=>∃c:Int,ps=[.int c]/\∀(p:Pt) (a:Addr) G',wp p->depth p<=9->size p<=40->(dY p).length<=560->G a=none->Pool G' a->GE G G'->Q (.tup [dh p,.ref a]) G'
theorem CH{k:Nat}(hk:3<=k)(F:Fun K "_law_made" "_law_made" wE f fd)(B:BN mg)(CO:cQ P w K mg base 1 "_law_pool" fp dp ["cell"] wT)(CN:cQ P w K mg base 1 "_law_next" fn dn ["pool", "base"] lh)(CP:cQ P w K mg base 2 "_law_pick" fi di ["pool", "some"] mM)(CW:cQ P w K mg base 3 "_law_word" fw dw ["pool"] pT)
  (CA:cQ P w K mg base k "_law_any" fa da ["pool", "deep", "room", "blank"] (qF 9)) (CR:cQ P w K mg base k "_law_written" ft dt ["pattern"] (mO 9)) (CC:cQ P w K mg base k "_law_count" fc dc ["pattern"] (jg 9)):jd P w K mg base (k+1) f fd ["cell"] pU:=by
 have nd:=yI.nd;have hUE:=eD.mk;refine kA F yI (λvs G Q h=> ?_) (λcdv A outer s H E as G Q hr h=> ?_)
 ·obtain⟨_,rfl,_⟩:=h;rfl
 have hU:=eQ hr;apply jB;case a=>symm
 obtain⟨c,rfl,q⟩:=h;exists⟨c,rfl,λa G1 ha p1 c1=> ?_⟩;have ge1:GE G G1:=c1.ge (by simpa using ha);exists⟨ce,λl hl=> ?_⟩;have nl:=iS p1 hl;exists⟨a,.ref l,rfl,p1.new hl,.inl ⟨l,_,rfl,nl,aC,by decide,by decide,λx G2 hx p2 c2=> ?_⟩⟩;obtain⟨r,rfl,r1,r2⟩:∃r:Int,x= .int r/\4<=r/\r<=28:=by
  simp only[aw,bu,or_false]at hx;rcases hx with rfl|rfl|rfl|rfl|rfl<;>exact⟨_,rfl,by decide,by decide⟩
 have k2:Ch [a] G G2:=(ge1.ch.new hl).trans c2;exists⟨ce,λrm hrm=> ?_⟩;have nrm:=iS p2 hrm;exists⟨a,8,rfl,p2.new hrm,by decide,by decide,λn8 G3 n80 n81 p3 c3=> ?_⟩;have g3:=c3 rm _ (by simpa using nrm) aC;have k3:Ch [a,rm] G G3:=((k2.new hrm).trans c3).mono (by simp);exists b8 ?_;exists⟨a,rm,2+n8,r,true,rfl,by ac_nf,p3,g3,aY nrm,λp r' G4 hw hbl hd hs ra rb p4 gr4 c4=> ?_⟩;have hsz:size p<=100:=by
  by_cases h7:r<7
  ·have:=ra h7;ac_nf
  ·have:=rb (by ac_nf);ac_nf
 have hd9:depth p<=9:=by ac_nf
 have hwl:=gB p hw;have hrmG:G rm=none:=by
  cases e:G rm with
  |none=>rfl
  |some o=>have:=k2 rm o (by simpa using nrm) e;rw[hrm]at this;cases this
 have ge4:GE G G4:=(k3.trans c4).ge (by intro b hb;simp only[aw,bu,or_false]at hb;rcases hb with rfl|rfl<;>assumption);exists⟨p,rfl,hd9,hw,by ac_nf,?_⟩;have keep:size p<=40->(dY p).length<=560->∀R,IH (NW (mD (eV 3) (mD (eV 1) sw))) {nx:=R,rt:=λp G'=>∃G0,GE G0 G'/\Q p G0} [some (.int c),some (.ref a),some (.ref rm),some (dh p)] G4:=by
  intro h40 h560 R;left;exact⟨ce,_,GE.refl,q p a G4 hw hd9 h40 h560 ha p4 ge4⟩
 unfold yf;refine Du (by rw[aV];ac_nf) ?_;left;apply GR;case main=>
  intro spoil
  refine gf (λ_=>iE rfl spoil) (λh5=> ?_)
  rw[aV]at h5
  have h5':=of_decide_eq_false h5
  exists⟨p,rfl,hd9,by ac_nf,?_⟩
  exists gf (λ_=>spoil) (λh4=> ?_)
  have h4':=of_decide_eq_false h4
  exact keep (by ac_nf) (by ac_nf) _
 case tail=>
  exists⟨a,rfl,p4,λwd G5 wl p5 c5=> ?_⟩
  exists⟨ce,?_⟩
  exists⟨ce,?_⟩
  left
  have hwd:wd.cps.toList.length<=8:=wl.1.2
  have hws:wp (.sign (al "\\]")):=⟨⟨by decide+kernel,by decide+kernel⟩,by decide+kernel,by decide+kernel⟩
  exact⟨ce,_,GE.refl,q (.held wd (.sign "\\]")) a G5 ⟨wl,hws⟩ (show 1+1<=9 by decide) (show 1+1<=40 by decide) (by show(wd.cps.toList++(58::Ot (al "\\]"))).length<=560;rw[af,aj,show(Ot (al "\\]")).length=6 by decide+kernel];ac_nf) ha p5 ((ge4.ch.trans c5).ge (by simpa using ha))⟩
end
theorem mR{T:List Nat}{G:Gp}{Q:K2}(h:T.length<=700)(q:Q (.int (T.length:Nat)) G):uv [.str (cx T)] G Q:=by
 refine lx (by rw[aV];ac_nf) ?_;rw[aV];exact q
theorem Mb{T:List Nat}{e:Nat}{j:Int}{G:Gp}{Q:K2}(hl:T.length<=700)(he:e<=T.length){n:Nat}(hj:j=(e:Nat)+(n:Nat))(q:Q (.str (cx ((T.drop e).take n))) G):w8 (.str (cx T)) (some (e:Nat)) (some j) G Q:=by
 subst hj;refine⟨by rw[aV];ac_nf,?_⟩;rw[oJ he];exact q
theorem rB{T:List Nat}{e:Nat}:(T.drop e).take 1=T[e]?.toList:=by
 rw[<-List.head?_drop];cases T.drop e<;>rfl
theorem Oy{T:List Nat}{e:Nat}{c:Nat}{G:Gp}{Q:K2}(hl:T.length<=700)(h:T[e]? =some c)(q:Q (.str (c9 c)) G):EF (.str (cx T)) (.int (e:Nat)) G Q:=
 qZ (c:=c) (by rw[aV];ac_nf) (kF (by rw[gU];exact h)) q
section
variable{P:aG}{w:aX}{K:PySem.W.Frag}{mg:Str->Option ae}{base:Heap}{f:Addr}{fd:bb}
theorem Ho:bp ["text", "at", "signs"] ["text", "at", "signs"] (aJ Ig):=⟨rfl,rfl,rfl,by decide+kernel,rfl,by decide+kernel,by decide+kernel⟩
def Br:i8:=λps G Q=>∃(T:List Nat) (S:Str) (am:Nat->Bool) (e:Nat),ps=[.str (cx T),.int (e:Nat),.str S]/\(∀c,c∈S.cps.toList↔am c=true)/\e<=T.length/\T.length<=600/\Q (.int (eE am T e:Nat)) G
theorem Jv(F:Fun K "_law_run" "_law_run" Ig f fd)(B:BN mg):jd P w K mg base 1 f fd ["text", "at", "signs"] Br:=by
 have nd:=Ho.nd;have hUE:=eD.mk;refine kA F Ho (λvs G Q h=> ?_) (λcdv A outer s H E as G Q hr h=> ?_)
 ·obtain⟨_,_,_,_,rfl,_⟩:=h;rfl
 have hU:=eQ hr;apply jB;case a=>symm
 obtain⟨T,S,am,e,rfl,hS,he,hT,q⟩:=h;exists⟨λk τ G'=>∃j,τ=[some (.str (cx T)),some (.int (j:Nat)),some (.str S)]/\G'=G/\e<=j/\j<=T.length/\eE am T j=eE am T e/\k=T.length-j,⟨_,e,rfl,rfl,ap _,he,rfl,rfl⟩,?_⟩;rintro k τ G' ⟨j,rfl,rfl,hj1,hj2,hj3,rfl⟩;exists mR (by ac_nf) ?_;left;have tail:eE am T e=j->∃G0,GE G0 G'/\Q (.int (j:Nat)) G0:=λh=>⟨_,GE.refl,by rw[h]at q;exact q⟩;refine gf (λhlt=> ?_) (λhlt=> ?_)
 ·have hlt':j<T.length:=by have:=of_decide_eq_true hlt;ac_nf
  have hc:T[j]? =some T[j]:=au hlt';generalize T[j]=c0 at hc;exists Oy (by ac_nf) hc ?_;exists zi ?_;exists gf (λhin=> ?_) (λhin=> ?_)
  ·have hc1:am c0=true:=(hS c0).mp (of_decide_eq_true hin);exists b8 ?_;exact⟨T.length-(j+1),by ac_nf,j+1,by rw[show((j:Nat):Int)+1=((j+1:Nat):Int)by ac_nf],rfl,by ac_nf,by ac_nf,by rw[<-hj3,vg hc hc1],rfl⟩
  ·have hc1:am c0=false:=by
    have:=of_decide_eq_false hin;cases h:am c0 with
    |false=>rfl
    |true=>exact absurd ((hS c0).mpr h) this
   exact tail (by rw[<-hj3,qC hc hc1])
 ·have hge:j=T.length:=by have:=of_decide_eq_false hlt;ac_nf
  exact tail (by rw[<-hj3];subst hge;exact yn)
theorem Hq:bp ["text", "at", "found"] ["text", "at"] (aJ Ih):=⟨rfl,rfl,rfl,by decide+kernel,rfl,by decide+kernel,by decide+kernel⟩
def Bs:i8:=λps G Q=>∃(T:List Nat) (e:Nat),ps=[.str (cx T),.int (e:Nat)]/\e<=T.length/\T.length<=600/\Q (.tup [dh (.sign (cx (sj T (T.length+1) e []).1)),.int ((sj T (T.length+1) e []).2+1:Nat)]) G
theorem vJ{T:List Nat}{f e:Nat}{acc:List Nat}:sj T (f+1) e acc=match T[e]? with
  |none=>(acc,e)
  |some c=>if c=93 then(acc,e)else sj T f ((if c=92 then e+1 else e)+1) (acc++T[if c=92 then e+1 else e]?.toList):=rfl
theorem Jw(F:Fun K "_law_read_signs" "_law_read_signs" Ih f fd)(B:BN mg):jd P w K mg base 1 f fd ["text", "at"] Bs:=by
 have nd:=Hq.nd;have hUE:=eD.mk;refine kA F Hq (λvs G Q h=> ?_) (λcdv A outer s H E as G Q hr h=> ?_)
 ·obtain⟨_,_,rfl,_⟩:=h;rfl
 have hU:=eQ hr;apply jB;case a=>symm
 obtain⟨T,e,rfl,he,hT,q⟩:=h;generalize hR:sj T (T.length+1) e []=R at q;exists⟨λk τ G'=>∃(j ff:Nat) (acc:List Nat),τ=[some (.str (cx T)),some (.int (j:Nat)),some (.str (cx acc))]/\G'=G/\T.length<ff+j/\j<=T.length+1/\acc.length<=j/\sj T ff j acc=R/\k=T.length+1-j,⟨_,e,T.length+1,[],rfl,rfl,by ac_nf,by ac_nf,by simp,hR,rfl⟩,?_⟩;rintro k τ G' ⟨j,ff,acc,rfl,rfl,hff,hj,hacc,hR,rfl⟩;exists mR (by ac_nf) ?_;left;have tail:R=(acc,j)->∃G0,GE G0 G'/\Q (.tup [dh (.sign (cx acc)),.int ((j:Nat)+1)]) G0:=λh=>⟨_,GE.refl,by rw[h]at q;exact q⟩;refine gf (λhlt=> ?_) (λhlt=> ?_)
 ·have hlt':j<T.length:=by have:=of_decide_eq_true hlt;ac_nf
  have hc:T[j]? =some T[j]:=au hlt';generalize T[j]=c0 at hc;cases ff with
  |zero=>exfalso;ac_nf
  |succ ff=>
  rw[vJ,hc]at hR;dsimp only at hR;exists Oy (by ac_nf) hc ?_;left;rw[HH];refine qR rfl rfl ?_;rw[om];left;by_cases h93:c0=93
  ·rw[if_pos h93]at hR;rw[decide_eq_true h93];refine jK rfl ?_;exists⟨ce,?_⟩;exists b8 ?_;left;exact⟨ce,tail hR.symm⟩
  ·rw[if_neg h93]at hR;rw[decide_eq_false h93];refine iE rfl ?_;exists Oy (by ac_nf) hc ?_;left;rw[HI];refine cV rfl rfl ?_;rw[om];exists lA ?_;refine b8 ?_;left;have e1:((j:Nat):Int)+(if decide (c0=92)=true then 1 else 0)=((if c0=92 then j+1 else j:Nat):Int):=by
    by_cases h:c0=92
    ·rw[decide_eq_true h,if_pos rfl,if_pos h];ac_nf
    ·rw[decide_eq_false h,if_neg (by simp),if_neg h];ac_nf
   rw[e1];have hj1:j<=(if c0=92 then j+1 else j)/\(if c0=92 then j+1 else j)<=T.length:=by split<;>ac_nf
   generalize (if c0=92 then j+1 else j)=j1 at hR hj1⊢;refine b8 ?_;exists Mb (n:=1) (by ac_nf) hj1.2 rfl ?_;rw[rB];left;have hal:(acc++T[j1]?.toList).length<=j1+1:=by
    rw[af];have:(T[j1]?.toList).length<=1:=by cases T[j1]? <;>simp
    ac_nf
   refine eH (by rw[aV,aV];rw[af]at hal;ac_nf) ?_;rw[dI];exists b8 ?_;exact⟨T.length+1-(j1+1),by ac_nf,j1+1,ff,_,by rw[show((j1:Nat):Int)+1=((j1+1:Nat):Int)by ac_nf],rfl,by ac_nf,by ac_nf,hal,hR,rfl⟩
 ·have hge:T.length<=j:=by have:=of_decide_eq_false hlt;ac_nf
  have hn:T[j]? =none:=by simp;ac_nf
  refine jK rfl ?_;exists⟨ce,?_⟩;exists b8 ?_;exists⟨ce,tail ?_⟩;cases ff with
  |zero=>rw[<-hR];rfl
  |succ ff=>rw[<-hR,vJ,hn]
end
theorem Bz{x:Str}{i:Int}{j:Option Int}(hi:(x.length:Int)<=i):bO x (some i) j=bO x (some (x.length:Int)) j:=by
 have h:PySem.Builtin.Str.strSliceIndices (some i) j 1 x.length=PySem.Builtin.Str.strSliceIndices (some (x.length:Int)) j 1 x.length:=by
  unfold PySem.Builtin.Str.strSliceIndices;have h1:¬i<0:=by ac_nf
  have h2:¬((x.length:Nat):Int)<0:=by ac_nf
  simp only[h1,h2,if_false,show(1:Int)>0 by decide,if_true];congr 1;(repeat' split)<;>ac_nf
 unfold bO;rw[h]
theorem w6{T:List Nat}{e n:Nat}:bO (cx T) (some (e:Nat)) (some ((e:Nat)+(n:Nat):Int))=cx ((T.drop e).take n):=by
 by_cases he:e<=T.length
 ·exact oJ he
 ·rw[Bz (by rw[aV];ac_nf),yw (by rw[aV];ac_nf),aV];have h1:=oJ (T:=T) (e:=T.length) (n:=0) (ap _);rw[show((T.length:Nat)+(0:Nat):Int)=((T.length:Nat):Int)by ac_nf]at h1;rw[h1,List.drop_eq_nil_of_le (show T.length<=e by ac_nf)];simp
theorem nJ{T:List Nat}{e:Nat}{j:Int}{G:Gp}{Q:K2}(hl:T.length<=700){n:Nat}(hj:j=(e:Nat)+(n:Nat))(q:Q (.str (cx ((T.drop e).take n))) G):w8 (.str (cx T)) (some (e:Nat)) (some j) G Q:=by
 subst hj;refine⟨by rw[aV];ac_nf,?_⟩;rw[w6];exact q
theorem oo{T x:List Nat}{e:Nat}{n:Nat}(h:n=x.length):i7 (.str (cx ((T.drop e).take n))) (.str (cx x))=hZ T e x:=by subst h;exact lS _ _
theorem uz{T x:List Nat}{e:Nat}(h:hZ T e x=true):x.length=0\/e+x.length<=T.length:=by
 unfold hZ at h;rw[beq_iff_eq]at h;have:=congrArg cX h;rw[aO,aW]at this;ac_nf
abbrev Ou:Option (Pt×Nat)->PV
 |none=> .non
 |some x=> .tup [dh x.1,.int (x.2:Nat)]
abbrev IN:Option (Pt×Nat)->List PV
 |none=>[]
 |some x=>[.tup [dh x.1,.int (x.2:Nat)]]
section
variable{P:aG}{w:aX}{K:PySem.W.Frag}{mg:Str->Option ae}{base:Heap}{f fn fi ft fa fs:Addr}{fd dn di dt da ds:bb}
theorem BK:bp ["text", "at", "deep", "ahead", "part"] ["text", "at", "deep", "ahead"] (aJ A5):=⟨rfl,rfl,rfl,by decide+kernel,rfl,by decide+kernel,by decide+kernel⟩
def wS(n:Nat):i8:=λps G Q=>∃(T:List Nat) (d e:Nat),ps=[.str (cx T),.int (e:Nat),.int (d:Nat)]/\d<n/\e<=T.length+2/\T.length<=600/\Q (Ou (jo T d e)) G
theorem Mo{n:Nat}{T:List Nat}{d e:Nat}{a b:Int}{G:Gp}{Q:K2}(ha:a=(e:Nat))(hb:b=(d:Nat))(hd:d<n)(he:e<=T.length+2)(hT:T.length<=600)(q:Q (Ou (jo T d e)) G):wS n [.str (cx T),.int a,.int b] G Q:=by
 subst ha hb;exact⟨T,d,e,rfl,hd,he,hT,q⟩
def wU(n:Nat):i8:=λps G Q=>∃(T:List Nat) (d e:Nat) (as:List PV),ps=[.str (cx T),.int (e:Nat),.int (d:Nat),.tup as]/\d<n/\e<=T.length+2/\T.length<=600/\as.length<=5/\
 Q (match jo T d e with|none=> .non|some x=> .tup [.tup (as++[dh x.1]),.int (x.2:Nat)]) G
theorem FC{n k:Nat}(F:Fun K "_law_read_part" "_law_read_part" A5 f fd)(B:BN mg)(C:cQ P w K mg base k "_law_read" fa da ["text", "at", "deep"] (wS n)):jd P w K mg base (k+1) f fd ["text", "at", "deep", "ahead"] (wU n):=by
 have nd:=BK.nd;have hUE:=eD.mk;refine kA F BK (λvs G Q h=> ?_) (λcdv A outer s H E as G Q hr h=> ?_)
 ·obtain⟨_,_,_,_,rfl,_⟩:=h;rfl
 have hU:=eQ hr;apply jB;case a=>symm
 obtain⟨T,d,e,as,rfl,hd,he,hT,hl,q⟩:=h;exists⟨T,d,e,rfl,hd,he,hT,?_⟩;left;cases hx:jo T d e with
 |none=>
  rw[hx]at q
  refine iE rfl ?_
  exact⟨G,GE.refl,q⟩
 |some x=>
  obtain⟨p,e2⟩:=x
  rw[hx]at q
  refine jK rfl ?_
  exists fA (i:=0) (xs:=[dh p,.int (e2:Nat)]) (x:=dh p) rfl ?_
  exists⟨ce,?_⟩
  exists Hb (xs:=as) (ys:=[dh p]) (show as.length+1<=16000000 by ac_nf) ?_
  exists fA (i:=1) (xs:=[dh p,.int (e2:Nat)]) (x:= .int (e2:Nat)) rfl ?_
  exists⟨ce,?_⟩
  exact⟨G,GE.refl,q⟩
theorem yF:bp ["text", "at", "deep", "part", "parts", "between"] ["text", "at", "deep"] (aJ wC):=⟨rfl,rfl,rfl,by decide+kernel,rfl,by decide+kernel,by decide+kernel⟩
def ua(n:Nat):i8:=λps G Q=>∃(T:List Nat) (d e:Nat),ps=[.str (cx T),.int (e:Nat),.int (d:Nat)]/\d<n/\1<=e/\e<=T.length+2/\T.length<=600/\
 ∀l,G l=none->Q (.ref l) (up G l (.lst (IN (wt (jo T d) T (T.length+1) (jo T d e) [] false))))
theorem Cw{n k:Nat}(hk:1<=k)(F:Fun K "_law_parts" "_law_parts" wC f fd)(B:BN mg)(C:cQ P w K mg base k "_law_read" fa da ["text", "at", "deep"] (wS n)):jd P w K mg base (k+1) f fd ["text", "at", "deep"] (ua n):=by
 have nd:=yF.nd;have hUE:=eD.mk;refine kA F yF (λvs G Q h=> ?_) (λcdv A outer s H E as G Q hr h=> ?_)
 ·obtain⟨_,_,_,rfl,_⟩:=h;rfl
 have hU:=eQ hr;apply jB;case a=>symm
 obtain⟨T,d,e,rfl,hd,h1,he,hT,q⟩:=h;generalize hR:wt (jo T d) T (T.length+1) (jo T d e) [] false=R at q;exists⟨T,d,e,rfl,hd,he,hT,?_⟩;exists⟨ce,λl hl=> ?_⟩;exists⟨λk τ G'=>∃(y:PV) (a ff:Nat) (x:Option (Pt×Nat)) (ps:List Pt) (b:Bool),τ=[some (.str (cx T)),some y,some (.int (d:Nat)),some (Ou x),some (.ref l),some (.str (cx (gE b)))]/\G'=up G l (.lst (b9 ps))/\T.length+2<=ff+a/\(∀p e',x=some (p,e')->a+1<=e'/\e'<=T.length+2)/\ps.length<=a/\wt (jo T d) T ff x ps b=R/\k=T.length+3-a,⟨_,_,e,T.length+1,_,[],false,by rw[show al " " =cx (gE false)by decide+kernel],by first|rfl|exact aC,by ac_nf,λp e' hx=> ?_,by simp,hR,rfl⟩,?_⟩
 ·have k:=qS d e p e' he hx;have:=iw p;have:=k.s;have:=k.t;exact⟨by ac_nf,by ac_nf⟩
 rintro k τ G' ⟨y,a,ff,x,ps,b,rfl,rfl,hff,hx,hps,hR,rfl⟩;have gl:up G l (.lst (b9 ps)) l=some (.lst (b9 ps)):=aC;left;cases x with
 |none=>
  refine jK rfl ?_
  exists⟨ce,λm hm=> ?_⟩
  obtain⟨nml,hm0⟩:=nG hm
  have hR':R=none:=by rw[<-hR];cases ff<;>rfl
  rw[hR']at q
  exact⟨_,(GE.refl.new hl).put,q m hm0⟩
 |some xe=>
  obtain⟨p,e'⟩:=xe
  obtain⟨h1',h2'⟩:=hx p e' rfl
  cases ff with
  |zero=>exfalso;ac_nf
  |succ ff=>
  have hps1:(ps++[p]).length<=a+1:=by rw[af];show _+1<=_;ac_nf
  have eps:b9 ps++[dh p]=b9 (ps++[p]):=by rw[dF,dF,a9];rfl
  refine iE rfl ?_
  exists⟨⟨_,gl⟩,?_⟩
  exists fA (i:=0) (xs:=[dh p,.int (e':Nat)]) (x:=dh p) rfl ?_
  exists jz gl (by rw[bU];ac_nf) ?_
  rw[lg,eps]
  have gl2:up G l (.lst (b9 (ps++[p]))) l=some (.lst (b9 (ps++[p]))):=aC
  exists fA (i:=1) (xs:=[dh p,.int (e':Nat)]) (x:= .int (e':Nat)) rfl ?_
  exists y6 (bT gl2) ?_
  exists cV rfl rfl ?_
  have hde:i7 (PV.int ((b9 (ps++[p])).length:Nat)) (PV.int 1)=ps.isEmpty:=by
   rw[bU,af];show((((ps.length+1:Nat)):Int)==1)=_;cases ps with
   |nil=>rfl
   |cons a l=>simp;ac_nf
  rw[hde]
  obtain⟨b',hb'⟩:∃b',b'=(b||(ps.isEmpty&&hZ T e' [32,124,32])):=⟨_,rfl⟩
  rw[nR hb'.symm]at hR
  apply GR
  case main=>
   intro go
   refine gf (λh1=> ?_) (λh1=> ?_)
   ·left
    refine b8 ?_
    exists nJ (n:=3) (bj hT (by decide)) rfl ?_
    exists cV rfl rfl ?_
    rw[show i7 (.str (cx ((T.drop e').take 3))) (.str (al " | "))=hZ T e' [32,124,32]by rw[Ef];exact oo rfl]
    refine gf (λh2=> ?_) (λh2=> ?_)
    ·rw(occs:= .pos [1]) [show al " | " =cx (gE b')by rw[hb',h1,h2,Ef];simp[gE]]
     left
     exact go
    ·rw[show b=b' by rw[hb',h1,h2];simp]
     exact go
   ·rw[show b=b' by rw[hb',h1];simp]
    exact go
  case tail=>
   exists b8 ?_
   exists nJ (n:=1) (by ac_nf) rfl ?_
   exists cV rfl rfl ?_
   rw[show i7 (.str (cx ((T.drop e').take 1))) (.str (al ")"))=hZ T e' [41]by rw[c41];exact oo rfl]
   refine gf (λhf=> ?_) (λhf=> ?_)
   ·rw[if_pos hf]at hR
    exists⟨ce,λl2 hl2=> ?_⟩
    have nl2:l≠l2:=gF gl2 hl2
    exists cV rfl rfl ?_
    rw[show i7 (.str (cx (gE b'))) (.str (al " | "))=b' by rw[Ef];exact(lS _ _).trans (by cases b'<;>rfl)]
    exists lA ?_
    exists fT (x:= .str (if b' then "pick" else "row")) gG (by cases b'<;>rfl) ?_
    exists qx (bT (by rw[cz nl2];exact gl2)) ?_
    exists⟨ce,?_⟩
    exists b8 ?_
    exists⟨ce,?_⟩
    exists⟨ce,λm hm=> ?_⟩
    have hm0:=(nG (nG hm).2).2
    refine⟨_,((GE.refl.new hl).new hl2).put,?_⟩
    have:=q m hm0
    rw[<-hR]at this
    have e1:dh (FU b' (ps++[p]))= .tup [.str (if b' then "pick" else "row"),.tup (b9 (ps++[p]))]:=by cases b'<;>rfl
    dsimp only[IN]at this
    rw[e1]at this
    exact this
   ·rw[if_neg (by rw[hf];simp)]at hR
    left
    have hsl:1<=(gE b').length/\(gE b').length<=3:=by cases b'<;>decide
    refine mR (by ac_nf) ?_
    exists b8 ?_
    exists nJ (n:=(gE b').length) (by ac_nf) rfl ?_
    exists cV rfl rfl ?_
    rw[oo rfl]
    refine gf (λhg=> ?_) (λhg=> ?_)
    ·rw[if_pos hg]at hR
     have hgl:=uz hg
     exists mR (by ac_nf) ?_
     exists b8 ?_
     exists Mo (e:=e'+(gE b').length) (d:=d) (by ac_nf) rfl hd (by ac_nf) hT ?_
     refine⟨T.length+3-(e'+(gE b').length),by ac_nf,_,e'+(gE b').length,ff,_,_,b',rfl,rfl,by ac_nf,λp2 e2 h2=> ?_,by ac_nf,hR,rfl⟩
     have k:=qS d _ p2 e2 (by ac_nf) h2
     have:=iw p2
     have:=k.s
     have:=k.t
     exact⟨by ac_nf,by ac_nf⟩
    ·rw[if_neg (by rw[hg];simp)]at hR
     exact⟨T.length+3-(a+1),by ac_nf,_,a+1,ff,none,_,b',rfl,rfl,by ac_nf,λp2 e2 h2=>(by cases h2),hps1,hR,rfl⟩
theorem Ft{n:Nat}{T:List Nat}{d e:Nat}{a b:Int}{G:Gp}{Q:K2}(ha:a=(e:Nat))(hb:b=(d:Nat))(hd:d<n)(h1:1<=e)(he:e<=T.length+2)(hT:T.length<=600)(q:∀l,G l=none->Q (.ref l) (up G l (.lst (IN (wt (jo T d) T (T.length+1) (jo T d e) [] false))))):ua n [.str (cx T),.int a,.int b] G Q:=by
 subst ha hb;exact⟨T,d,e,rfl,hd,h1,he,hT,q⟩
theorem xi{n:Nat}{T:List Nat}{d e:Nat}{a b:Int}{as:List PV}{G:Gp}{Q:K2}(ha:a=(e:Nat))(hb:b=(d:Nat))(hd:d<n)(he:e<=T.length+2)(hT:T.length<=600)(hl:as.length<=5)(q:Q (match jo T d e with|none=> .non|some x=> .tup [.tup (as++[dh x.1]),.int (x.2:Nat)]) G):wU n [.str (cx T),.int a,.int b,.tup as] G Q:=by
 subst ha hb;exact⟨T,d,e,as,rfl,hd,he,hT,hl,q⟩
theorem N1{c U g:Prop}(main:(¬c->U)->g)(tail:¬c->U):g:=main tail
theorem LR{a b:Bool}{A B:Prop}(e:a=b)(h:kl b A B):kl a A B:=e▸h
theorem inD(c:Nat):(if false=true then !!(bq (al "!-") (cx (some c).toList) 0 (al "!-").length 1).isEmpty
  else !(bq (al "!-") (cx (some c).toList) 0 (al "!-").length 1).isEmpty)=decide (c=33\/c=45):=by
 rw[if_neg (by simp)];show(!(bq (al "!-") ⟨#[c]⟩ 0 (al "!-").length 1).isEmpty)=_;rw[jW,show(al "!-").cps.toList=[33,45]by decide+kernel];simp
theorem Mf:bp ["text", "at", "deep", "sign", "end"] ["text", "at", "deep"] (aJ OJ):=⟨rfl,rfl,rfl,by decide+kernel,rfl,by decide+kernel,by decide+kernel⟩
theorem N3{e b:Nat}(h:e<=b){a:Int}(ha:a=(b:Nat)):a=((e:Nat):Int)+((b-e:Nat):Int):=by ac_nf
theorem MU{n k:Nat}(F:Fun K "_law_read" "_law_read" OJ f fd)(B:BN mg)(CS:cQ P w K mg base 1 "_law_read_signs" fs ds ["text", "at"] Bs)(CU:cQ P w K mg base 1 "_law_run" fn dn ["text", "at", "signs"] Br)
  (CP:cQ P w K mg base (k+1) "_law_parts" fi di ["text", "at", "deep"] (ua n)) (CR:cQ P w K mg base (k+1) "_law_read_part" ft dt ["text", "at", "deep", "ahead"] (wU n)):jd P w K mg base (k+2) f fd ["text", "at", "deep"] (wS (n+1)):=by
 have nd:=Mf.nd;have hUE:=eD.mk;refine kA F Mf (λvs G Q h=> ?_) (λcdv A outer s H E as G Q hr h=> ?_)
 ·obtain⟨_,_,_,rfl,_⟩:=h;rfl
 have hU:=eQ hr;apply jB;case a=>symm
 obtain⟨T,d,e,rfl,hd,he,hT,q⟩:=h;exists b8 ?_;exists nJ (n:=1) (by ac_nf) rfl ?_;rw[rB];exists cV rfl rfl ?_;cases d with
 |zero=>
  refine iE rfl ?_
  refine iE rfl ?_
  exact⟨G,GE.refl,q⟩
 |succ d=>
  rw[show i7 (.int ((d+1:Nat):Int)) (.int 0)=false by show((((d+1:Nat)):Int)==0)=false;rw[beq_eq_false_iff_ne];ac_nf]
  refine jK rfl ?_
  exists cV rfl rfl ?_
  cases hc:T[e]? with
  |none=>
   have hl:jo T (d+1) e=none:=by unfold jo;rw[hc]
   rw[hl]at q
   refine iE (by decide+kernel) ?_
   exact⟨G,GE.refl,q⟩
  |some c=>
   have hlt:e<T.length:=(ak.mp hc).1
   rw[iA hc]at q
   rw[show i7 (.str (cx (kd c).toList)) (.str (al ""))=false from rfl]
   refine jK rfl ?_
   have hch:∀k:Nat,i7 (.str (cx (some c).toList)) (.str (c9 k))=decide (c=k):=λk=>om c k
   refine LR (b:=decide (c=33\/c=45)) (inD c) ?_
   refine gf (λh1=> ?_) (λh1=> ?_)
   ·have h1':=of_decide_eq_true h1
    exists⟨ce,λl hl=> ?_⟩
    left
    rw[show al "-" =c9 45 by decide+kernel]
    refine cV rfl rfl ?_
    rw[hch]
    exists lA ?_
    exists fT (x:= .str (if decide (c=45)then "blank" else "none")) gG (by cases decide (c=45)<;>rfl) ?_
    exists⟨ce,?_⟩
    exists b8 ?_
    exists⟨ce,G,GE.refl.new hl,?_⟩
    rcases h1' with rfl|rfl
    ·exact q
    ·exact q
   have h1':=of_decide_eq_false h1
   have n33:¬c=33:=λz=>h1' (.inl z)
   have n45:¬c=45:=λz=>h1' (.inr z)
   rw[if_neg n33,if_neg n45]at q
   left
   rw[show al "[" =c9 91 by decide+kernel]
   refine cV rfl rfl ?_
   rw[hch]
   refine gf (λh2=> ?_) (λh2=> ?_)
   ·have h2':=of_decide_eq_true h2
    rw[if_pos h2']at q
    exists b8 ?_
    left
    exact⟨T,e+1,rfl,by ac_nf,hT,G,GE.refl,q⟩
   rw[if_neg (of_decide_eq_false h2)]at q
   left
   rw[show al "(" =c9 40 by decide+kernel]
   refine cV rfl rfl ?_
   rw[hch]
   refine gf (λh3=> ?_) (λh3=> ?_)
   ·have h3':=of_decide_eq_true h3
    rw[if_pos h3']at q
    exists b8 ?_
    exists Ft (e:=e+1) (d:=d) rfl (by ac_nf) (by ac_nf) (by ac_nf) (by ac_nf) hT λl hl=> ?_
    exists⟨ce,λm hm=> ?_⟩
    have nlm:l≠m:=gF aC hm
    left
    have hl1:(IN (wt (jo T d) T (T.length+1) (jo T d (e+1)) [] false)).length<=1:=by cases wt (jo T d) T (T.length+1) (jo T d (e+1)) [] false<;>simp[IN]
    generalize hL:wt (jo T d) T (T.length+1) (jo T d (e+1)) [] false=L at q hl1 nlm hm⊢
    refine zA (xs:=IN L) (ys:=[.non]) ?_ (bT aC) ?_ λc' hc'=> ?_
    ·exact bT (by rw[cz nlm,aC])
    ·show(IN L).length+1<=16000000
     ac_nf
    exists fT (x:=Ou L) gG (by cases L<;>rfl) ?_
    exact⟨G,((GE.refl.new hl).new hm).new hc',q⟩
   rw[if_neg (of_decide_eq_false h3)]at q
   left
   rw[show al "*" =c9 42 by decide+kernel]
   refine cV rfl rfl ?_
   rw[hch]
   refine gf (λh4=> ?_) (λh4=> ?_)
   ·have h4':=of_decide_eq_true h4
    rw[if_pos h4']at q
    exists b8 ?_
    exists⟨ce,?_⟩
    exists xi (e:=e+1) (d:=d) rfl (by ac_nf) (by ac_nf) (by ac_nf) hT (show(1:Nat)<=5 by decide) ⟨G,GE.refl,?_⟩
    cases hx:jo T d (e+1)with
    |none=>rw[hx]at q;exact q
    |some x=>rw[hx]at q;exact q
   rw[if_neg (of_decide_eq_false h4)]at q
   left
   obtain⟨f1,f2,f3⟩:=lN (am:=bS) (T:=T) (e:=e) (by ac_nf)
   obtain⟨l1,l2,l3⟩:=lN (am:=cF) (T:=T) (e:=e) (by ac_nf)
   refine⟨T,xZ,bS,e,rfl,lB,by ac_nf,hT,?_⟩
   left
   apply N1 (c:=e<eE bS T e/\eE bS T e<e+5/\hZ T (eE bS T e) [36]=true)
   case main=>
    intro go
    refine gf (λg1=> ?_) (λg1=> ?_)
    ·left
     refine b8 ?_
     exists gf (λg2=> ?_) (λg2=> ?_)
     ·left
      refine b8 ?_
      exists nJ (n:=1) (bj hT (by decide)) rfl ?_
      left
      rw[show al "$" =cx [36]by decide+kernel]
      refine cV rfl rfl ?_
      rw[oo (n:=1) (x:=[36]) rfl]
      refine gf (λg3=> ?_) (λg3=> ?_)
      ·have g1':=of_decide_eq_true g1
       have g2':=of_decide_eq_true g2
       have hin:bS c=true:=by
        cases hf:bS c with
        |true=>rfl
        |false=>rw[qC hc hf]at g1';ac_nf
       obtain⟨hnum,hnl⟩:=zo hT hc hin
       rw[if_pos ⟨by ac_nf,by ac_nf,g3⟩]at q
       have hgl:=uz g3
       exists b8 ?_
       exists nJ (n:=eE bS T e-e) (bj hT (by decide)) (N3 f1 rfl) ?_
       exists DO hnum (bj hnl (by decide)) ?_
       exists⟨ce,?_⟩
       exists xi (e:=eE bS T e+1) (d:=d) rfl (by ac_nf) (by ac_nf) (by ac_nf) hT (show(2:Nat)<=5 by decide) ⟨G,GE.refl,?_⟩
       cases hx:jo T d (eE bS T e+1)with
       |none=>rw[hx]at q;exact q
       |some x=>rw[hx]at q;exact q
      ·exact go (by rw[g3];simp)
     ·exact go (by have:=of_decide_eq_false g2;ac_nf)
    ·exact go (by have:=of_decide_eq_false g1;ac_nf)
   case tail=>
    intro hno
    rw[if_neg hno]at q
    refine⟨T,AT,cF,e,rfl,jw,by ac_nf,hT,?_⟩
    left
    apply N1 (c:=e<eE cF T e/\eE cF T e<e+9/\hZ T (eE cF T e) [58]=true)
    case main=>
     intro go
     refine gf (λg1=> ?_) (λg1=> ?_)
     ·left
      refine b8 ?_
      exists gf (λg2=> ?_) (λg2=> ?_)
      ·left
       refine b8 ?_
       exists nJ (n:=1) (bj hT (by decide)) rfl ?_
       left
       rw[show al ":" =cx [58]by decide+kernel]
       refine cV rfl rfl ?_
       rw[oo (n:=1) (x:=[58]) rfl]
       refine gf (λg3=> ?_) (λg3=> ?_)
       ·have g1':=of_decide_eq_true g1
        have g2':=of_decide_eq_true g2
        rw[if_pos ⟨by ac_nf,by ac_nf,g3⟩]at q
        have hgl:=uz g3
        exists b8 ?_
        exists nJ (n:=eE cF T e-e) (bj hT (by decide)) (N3 l1 rfl) ?_
        exists⟨ce,?_⟩
        exists xi (e:=eE cF T e+1) (d:=d) rfl (by ac_nf) (by ac_nf) (by ac_nf) hT (show(2:Nat)<=5 by decide) ⟨G,GE.refl,?_⟩
        cases hx:jo T d (eE cF T e+1)with
        |none=>rw[hx]at q;exact q
        |some x=>rw[hx]at q;exact q
       ·exact go (by rw[g3];simp)
      ·exact go (by have:=of_decide_eq_false g2;ac_nf)
     ·exact go (by have:=of_decide_eq_false g1;ac_nf)
    case tail=>
     intro hno2
     rw[if_neg hno2]at q
     exact⟨G,GE.refl,q⟩
end
def fi(c:Nat):Int:=Txt.find io (c9 c)
theorem D1:∀c∈io.cps.toList,fi c=(if c<37 then(c:Int)-32 else(c:Int)-33)/\c≠37/\32<=c:=by decide+kernel
theorem Lb{c:Nat}(h:c∉io.cps.toList):fi c= -1:=by
 unfold fi Txt.find;have:=jW io c;rw[decide_eq_false h]at this;show(match bq io ⟨#[c]⟩ 0 io.length 1 with|i::_=>(i:Int)|[]=> -1)= -1;cases e:bq io ⟨#[c]⟩ 0 io.length 1 with
 |nil=>rfl
 |cons a l=>rw[e]at this;simp at this
theorem D0{c:Nat}:fi c= -1↔c∉io.cps.toList:=by
 constructor
 ·intro h hc;obtain⟨h1,h2,h3⟩:=D1 c hc;rw[h1]at h;split at h<;>ac_nf
 ·exact Lb
theorem HS{a b:Nat}(ha:a∈io.cps.toList)(hb:b∈io.cps.toList):fi a<fi b↔a<b:=by
 obtain⟨h1,h2,h3⟩:=D1 a ha;obtain⟨h4,h5,h6⟩:=D1 b hb;rw[h1,h4];split<;>split<;>ac_nf
theorem HR{l:List Nat}(h:∀c∈l,c∈io.cps.toList):(l.map fi).Pairwise (· <·)↔l.Pairwise (· <·):=by
 rw[List.pairwise_map];constructor
 ·intro p;exact p.imp_of_mem λha hb hab=>(HS (h _ ha) (h _ hb)).mp hab
 ·intro p;exact p.imp_of_mem λha hb hab=>(HS (h _ ha) (h _ hb)).mpr hab
theorem qI:∀{a b:List Int},a.Pairwise (· <·)->b.Pairwise (· <·)->(∀x,x∈a↔x∈b)->a=b
 |[],[],_,_,_=>rfl
 |[],y::b,_,_,h=>by have:=(h y).mpr (by simp);cases this
 |x::a,[],_,_,h=>by have:=(h x).mp (by simp);cases this
 |x::a,y::b,ha,hb,h=>by
  obtain⟨a1,a2⟩:=e7.mp ha;obtain⟨b1,b2⟩:=e7.mp hb;have hxy:x=y:=by
   have h1:=(h x).mp (by simp);have h2:=(h y).mpr (by simp);rcases aw.mp h1 with e|h1
   ·exact e
   ·rcases aw.mp h2 with e|h2
    ·exact e.symm
    ·have:=b1 x h1;have:=a1 y h2;ac_nf
  subst hxy;congr 1;refine qI a2 b2 λz=> ?_;constructor
  ·intro hz;rcases aw.mp ((h z).mp (by simp[hz]))with e|h1
   ·have:=a1 z hz;ac_nf
   ·exact h1
  ·intro hz;rcases aw.mp ((h z).mpr (by simp[hz]))with e|h1
   ·have:=b1 z hz;ac_nf
   ·exact h1
theorem LU{ms:List Int}(hn:ms.Nodup)(hp:ms.Pairwise Nf):ms.Pairwise (· <·):=by
 have:ms.Pairwise λa b=>a≠b/\Nf a b:=List.pairwise_and_iff.mpr ⟨hn,hp⟩;exact this.imp λ⟨h1,h2⟩=>by
  have:=of_decide_eq_false h2;ac_nf
theorem rE:∀{a b:List Int},jT (a.map PV.int) (b.map PV.int)=decide (a=b)
 |[],[]=>rfl
 |[],_::_=>rfl
 |_::_,[]=>rfl
 |x::a,y::b=>by
  show((x==y)&&jT (a.map PV.int) (b.map PV.int))=_;rw[rE (a:=a) (b:=b),cR];simp
theorem ju:∀a:List Int,eK 100 (a.map PV.int)=true
 |[]=>rfl
 |x::a=>by
  show(eB 100 (.int x)&&eK 100 (a.map PV.int))=true;rw[ju a];rfl
theorem JQ{a:Addr}{p:PV}{xs:List PV}{G:Gp}{Q:K2}(h:lk G a=some xs)(f1:kO p=true)(f2:xs.all kO=true)(q:Q (.bl (!GH p xs)) G):DP true p (.ref a) G Q:=by
 unfold DP;simp only[h];exact⟨f1,f2,q⟩
theorem Aw{s:Str}{ms:List Int}(hn:ms.Nodup)(hm:∀x,x∈ms↔x∈s.cps.toList.map fi)(hp:ms.Pairwise Nf)(h:∀c∈s.cps.toList,c∈io.cps.toList):decide (s.cps.toList.map fi=ms)=decide (s.cps.toList.Pairwise (· <·)):=by
 have hu:=LU hn hp;by_cases q:s.cps.toList.Pairwise (· <·)
 ·rw[decide_eq_true q,decide_eq_true (qI ((HR h).mpr q) hu λx=>(hm x).symm)]
 ·rw[decide_eq_false q,decide_eq_false λe=>q ((HR h).mp (by rw[e];exact hu))]
section
variable{P:aG}{w:aX}{K:PySem.W.Frag}{mg:Str->Option ae}{base:Heap}{f ft fa fs:Addr}{fd dt da ds:bb}
theorem Ht:bp ["pattern"] ["pattern"] (aJ EK):=⟨rfl,rfl,rfl,by decide+kernel,rfl,by decide+kernel,by decide+kernel⟩
theorem N6:eF (aJ EK) ["pattern"] (ic [(".0",.local),("part",.local),("_law_blank",.globalImplicit)]) ["part"] [none] 0 "part" =true:=by decide+kernel
theorem Jy{n k:Nat}(hk:1<=k)(F:Fun K "_law_blank" "_law_blank" EK f fd)(B:BN mg)(C:cQ P w K mg base k "_law_blank" fa da ["pattern"] (iu n)):jd P w K mg base (k+1) f fd ["pattern"] (iu (n+1)):=by
 have nd:=Ht.nd;have hUE:=eD.mk;refine kA F Ht (λvs G Q h=> ?_) (λcdv A outer s H E as G Q hr h=> ?_)
 ·obtain⟨_,rfl,_⟩:=h;rfl
 have hU:=eQ hr;apply jB;case a=>
  symm
  all_goals try (refine' ly N6 rfl ?_ λ_ _ _ _=>⟨?_,?_⟩)
  all_goals symm
 obtain⟨p,rfl,hd,hz,q⟩:=h;have hdi:=bM p;have hsi:=cS p;have key:∀(ps:List Pt) (τ:jE) (R:K2),dE p=ps->(∀acc,G acc=none->R (.ref acc) (up G acc (.lst (ps.map λc=> .bl (eL c)))))->∀acc,G acc=none->EH (b9 ps) (λ_=>True) [none] 0 τ ml (mz (iu n) (mD (eV 0) sw)) R G acc:=λps τ R hps r acc hacc=>by
  subst hps;refine ka (λc=> .bl (eL c)) ?_ (λ_=>trivial) (λx ys R hx r=> ?_) (r acc hacc)
  ·have:=cA (dE p);ac_nf
  ·have:=eZ hx;have:=fe hx;exact⟨x,rfl,by ac_nf,by ac_nf,r⟩
 have one:∀(p':Pt),dE p=[p']->eL p'=eL p->iu n [dh p'] G λp G'=>∃G0,GE G0 G'/\Q p G0:=λp' e h=>by
  rw[e]at hdi hsi;simp only[bX,bL]at hdi hsi;refine⟨p',rfl,by ac_nf,by ac_nf,G,GE.refl,?_⟩;rw[h];exact q
 cases p with
 |row ps=>
  refine⟨rfl,rfl,?_⟩
  refine iE rfl ?_
  exists key ps _ _ rfl λacc hacc=> ?_
  refine kH (bs:=ps.map eL) (bT (by rw[aC,bB];rfl)) ?_
  rw[rT]
  exact⟨_,GE.refl.new hacc,q⟩
 |pick ps=>
  refine⟨rfl,rfl,?_⟩
  refine jK rfl ?_
  exists⟨rfl,rfl,?_⟩
  refine iE rfl ?_
  exists key ps _ _ rfl λacc hacc=> ?_
  refine Er (bs:=ps.map eL) (bT (by rw[aC,bB];rfl)) ?_
  rw[rQ]
  exact⟨_,GE.refl.new hacc,q⟩
 |again p'=>exact⟨rfl,rfl,rfl,rfl,ce,rfl,rfl,ce,rfl,rfl,G,GE.refl,q⟩
 |held m p'=>exact⟨rfl,rfl,rfl,rfl,ce,rfl,rfl,one p' rfl rfl⟩
 |price m p'=>exact⟨rfl,rfl,rfl,rfl,ce,rfl,rfl,one p' rfl rfl⟩
 |none=>exact⟨rfl,rfl,rfl,rfl,ce,rfl,rfl,ce,rfl,rfl,G,GE.refl,q⟩
 |blank=>exact⟨rfl,rfl,rfl,rfl,ce,rfl,rfl,ce,rfl,rfl,G,GE.refl,q⟩
 |sign s=>exact⟨rfl,rfl,rfl,rfl,ce,rfl,rfl,ce,rfl,rfl,G,GE.refl,q⟩
theorem AK{z:Str}{c:Gp->Prop}{ix:List (Option Nat)}{j:Nat}{τ:jE}{te:E2}{Q:K2}{G1:Gp}{acc:Addr}(g:Nat->PV)(hz:z.cps.toList.length<16000000)
  (hc:∀ys,c (up G1 acc (.lst ys))) (he:∀x ys (R:K2),x∈z.cps.toList->R (g x) (up G1 acc (.lst ys))->te (L3.st (lE ix τ) j (some (.str (c9 x)))) (up G1 acc (.lst ys)) R)
  (hq:Q (.ref acc) (up G1 acc (.lst (z.cps.toList.map g)))):EH (dA z) c ix j τ ml te Q G1 acc:=by
 refine⟨λi ys G=>ys=(z.cps.toList.take i).map g/\G=up G1 acc (.lst ys),⟨by simp,rfl⟩,?_,?_,?_⟩
 ·rintro i ys G hi ⟨rfl,rfl⟩;refine⟨hc _,aC,?_⟩;rw[av,aO];ac_nf
 ·rintro i ys G x hx ⟨rfl,rfl⟩;obtain⟨d,hd,rfl⟩:=lj hx;have tk:z.cps.toList.take (i+1)=z.cps.toList.take i++[d]:=by rw[cK,hd];rfl
  refine iE rfl ?_;refine he d _ _ (cy hd) ⟨aC,?_,lg⟩;rw[tk,a9];rfl
 ·rintro ys G ⟨rfl,rfl⟩;rw[show(dA z).length=z.cps.toList.length by unfold dA;rw[av],dZ];exact hq
theorem tm:∀{l:List Int},(l.map PV.int).all kO=true
 |[]=>rfl
 |_::l=>by rw[aU,ip,tm (l:=l)];rfl
theorem vY{k:Int}:∀{l:List Int},GH (.int k) (l.map PV.int)=decide (k∈l)
 |[]=>rfl
 |a::l=>by
  have ih:=vY (k:=k) (l:=l);show((a==k)||GH (.int k) (l.map PV.int))=decide (k∈a::l);rw[ih,cR,Bool.or_eq_true,beq_iff_eq,decide_eq_true_iff,decide_eq_true_iff,aw];exact or_congr eq_comm Iff.rfl
theorem yJ:bp ["pattern", "word", "signs", "some"] ["pattern"] (aJ qo):=⟨rfl,rfl,rfl,by decide+kernel,rfl,by decide+kernel,by decide+kernel⟩
theorem Ea:eF (aJ qo) ["pattern", "word", "signs", "some"] (ic [(".0",.local),("sign",.local),("signs",.free)]) ["sign", "signs"] [none,some 2] 0 "sign" =true:=by decide+kernel
theorem D9:eF (aJ qo) ["pattern", "word", "signs", "some"] (ic [(".0",.local),("part",.local),("_law_good",.globalImplicit)]) ["part"] [none] 0 "part" =true:=by decide+kernel
def oH(n:Nat):i8:=λps G Q=>∃(p:Pt) (N:Nat),ps=[dh p]/\depth p<n/\size p<=10000/\lw N p/\N<=700/\Q (.bl (ng p)) G
theorem FJ{n k:Nat}(hk:10<=k)(F:Fun K "_law_good" "_law_good" qo f fd)(B:BN mg)(CA:cQ P w K mg base 1 "_law_all_signs" ft dt [] yu)(CB:cQ P w K mg base k "_law_blank" fs ds ["pattern"] (iu 10))(hn:n<=10)(C:cQ P w K mg base k "_law_good" fa da ["pattern"] (oH n)):jd P w K mg base (k+1) f fd ["pattern"] (oH (n+1)):=by
 have nd:=yJ.nd;have hUE:=eD.mk;refine kA F yJ (λvs G Q h=> ?_) (λcdv A outer s H E as G Q hr h=> ?_)
 ·obtain⟨_,_,rfl,_⟩:=h;rfl
 have hU:=eQ hr;apply jB;case a=>
  symm
  all_goals try (refine' nV (n:=3) (by assumption) rfl rfl Ea rfl ?_ λ_ _ _ _=>⟨?_,?_⟩)
  all_goals try (refine' ly D9 rfl ?_ λ_ _ _ _=>⟨?_,?_⟩)
  all_goals symm
 obtain⟨p,N,rfl,hd,hz,hw,hN,q⟩:=h;have hdi:=bM p;have hsi:=cS p;have key:∀(ps:List Pt) (τ:jE) (R:K2),dE p=ps->Df N ps->(∀acc,G acc=none->R (.ref acc) (up G acc (.lst (ps.map λc=> .bl (ng c)))))->∀acc,G acc=none->EH (b9 ps) (λ_=>True) [none] 0 τ ml (mz (oH n) (mD (eV 0) sw)) R G acc:=λps τ R hps hl r acc hacc=>by
  subst hps;refine ka (λc=> .bl (ng c)) ?_ (λ_=>trivial) (λx ys R hx r=> ?_) (r acc hacc)
  ·have:=cA (dE p);ac_nf
  ·have:=eZ hx;have:=fe hx;exact⟨x,N,rfl,by ac_nf,by ac_nf,lT.mp hl x hx,hN,r⟩
 cases p with
 |row ps=>
  have hw':Df N ps:=hw
  have hsi':size (.row ps)=1+bL ps:=hsi
  have hpl:=cA ps
  refine⟨rfl,rfl,rfl,rfl,ce,rfl,rfl,?_⟩
  refine iE rfl ?_
  exists fA (i:=1) (xs:=[.str "row",.tup (b9 ps)]) (x:= .tup (b9 ps)) rfl ?_
  exists mQ ?_
  have q':Q (.bl ((decide (2<=ps.length)&&decide (ps.length<=6))&&rj ps)) G:=q
  exists gf (λh1=> ?_) (λh1=> ?_)
  ·have h1':=of_decide_eq_true h1
   rw[bU]at h1'
   exists gf (λh2=> ?_) (λh2=> ?_)
   ·have h2':=of_decide_eq_true h2
    rw[bU]at h2'
    exists fA (i:=1) (xs:=[.str "row",.tup (b9 ps)]) (x:= .tup (b9 ps)) rfl ?_
    exists key ps _ _ rfl hw' λacc hacc=> ?_
    exists kH (bs:=ps.map ng) (bT (by rw[aC,bB];rfl)) ?_
    refine⟨_,GE.refl.new hacc,?_⟩
    rw[decide_eq_true (show 2<=ps.length by ac_nf),decide_eq_true (show ps.length<=6 by ac_nf),jy]at q'
    rw[show(ps.map ng).all id=ps.all ng by rw[List.all_map];rfl]
    exact q'
   ·have h2':=of_decide_eq_false h2
    rw[bU]at h2'
    rw[decide_eq_false (show¬ps.length<=6 by ac_nf),e8,bH]at q'
    exact⟨G,GE.refl,q'⟩
  ·have h1':=of_decide_eq_false h1
   rw[bU]at h1'
   rw[decide_eq_false (show¬2<=ps.length by ac_nf),bH,bH]at q'
   exact⟨G,GE.refl,q'⟩
 |pick ps=>
  have hw':Df N ps:=hw
  have hsi':size (.pick ps)=1+bL ps:=hsi
  have hpl:=cA ps
  refine⟨rfl,rfl,rfl,rfl,ce,rfl,rfl,?_⟩
  refine iE rfl ?_
  exists fA (i:=1) (xs:=[.str "pick",.tup (b9 ps)]) (x:= .tup (b9 ps)) rfl ?_
  exists mQ ?_
  have q':Q (.bl ((decide (2<=ps.length)&&decide (ps.length<=6))&&rj ps)) G:=q
  exists gf (λh1=> ?_) (λh1=> ?_)
  ·have h1':=of_decide_eq_true h1
   rw[bU]at h1'
   exists gf (λh2=> ?_) (λh2=> ?_)
   ·have h2':=of_decide_eq_true h2
    rw[bU]at h2'
    exists fA (i:=1) (xs:=[.str "pick",.tup (b9 ps)]) (x:= .tup (b9 ps)) rfl ?_
    exists key ps _ _ rfl hw' λacc hacc=> ?_
    exists kH (bs:=ps.map ng) (bT (by rw[aC,bB];rfl)) ?_
    refine⟨_,GE.refl.new hacc,?_⟩
    rw[decide_eq_true (show 2<=ps.length by ac_nf),decide_eq_true (show ps.length<=6 by ac_nf),jy]at q'
    rw[show(ps.map ng).all id=ps.all ng by rw[List.all_map];rfl]
    exact q'
   ·have h2':=of_decide_eq_false h2
    rw[bU]at h2'
    rw[decide_eq_false (show¬ps.length<=6 by ac_nf),e8,bH]at q'
    exact⟨G,GE.refl,q'⟩
  ·have h1':=of_decide_eq_false h1
   rw[bU]at h1'
   rw[decide_eq_false (show¬2<=ps.length by ac_nf),bH,bH]at q'
   exact⟨G,GE.refl,q'⟩
 |again p'=>
  have hw':lw N p':=hw
  have hdi':depth (.again p')=1+depth p':=by
   have h0:depth (.again p')=1+bX [p']:=hdi;simp only[bX]at h0;ac_nf
  have hsi':size (.again p')=1+size p':=by
   have h0:size (.again p')=1+bL [p']:=hsi;simp only[bL]at h0;ac_nf
  refine⟨rfl,rfl,rfl,rfl,?_⟩
  refine iE rfl ?_
  exists fA (i:=1) (xs:=[.str "again",dh p']) (x:=dh p') rfl ?_
  left
  have q':Q (.bl (!eL p'&&ng p')) G:=q
  refine⟨p',rfl,by ac_nf,by ac_nf,?_⟩
  exists gf (λh1=> ?_) (λh1=> ?_)
  ·rw[h1,dj]at q'
   exists fA (i:=1) (xs:=[.str "again",dh p']) (x:=dh p') rfl ?_
   left
   exact⟨p',N,rfl,by ac_nf,by ac_nf,hw',hN,G,GE.refl,q'⟩
  ·rw[h1,bH]at q'
   exact⟨G,GE.refl,q'⟩
 |held m p'=>
  have hw':lw N p':=hw.2
  have hdi':depth (.held m p')=1+depth p':=by
   have h0:depth (.held m p')=1+bX [p']:=hdi;simp only[bX]at h0;ac_nf
  have hsi':size (.held m p')=1+size p':=by
   have h0:size (.held m p')=1+bL [p']:=hsi;simp only[bL]at h0;ac_nf
  refine⟨rfl,rfl,rfl,rfl,ce,rfl,rfl,ce,rfl,rfl,?_⟩
  refine iE rfl ?_
  exists cV rfl rfl ?_
  refine iE rfl ?_
  refine iE rfl ?_
  exists fA (i:=2) (xs:=[.str "held",.str m,dh p']) (x:=dh p') rfl ?_
  left
  exact⟨p',N,rfl,by ac_nf,by ac_nf,hw',hN,G,GE.refl,q⟩
 |price m p'=>
  have hw':lw N p':=hw.2
  have hdi':depth (.price m p')=1+depth p':=by
   have h0:depth (.price m p')=1+bX [p']:=hdi;simp only[bX]at h0;ac_nf
  have hsi':size (.price m p')=1+size p':=by
   have h0:size (.price m p')=1+bL [p']:=hsi;simp only[bL]at h0;ac_nf
  have q':Q (.bl (decide (m<=1000)&&ng p')) G:=q
  refine⟨rfl,rfl,rfl,rfl,ce,rfl,rfl,ce,rfl,rfl,?_⟩
  refine iE rfl ?_
  exists cV rfl rfl ?_
  refine jK rfl ?_
  exists fA (i:=1) (xs:=[.str "price",.int m,dh p']) (x:= .int m) rfl ?_
  exists gf (λh1=> ?_) (λh1=> ?_)
  ·rw[h1,dj]at q'
   exists fA (i:=2) (xs:=[.str "price",.int m,dh p']) (x:=dh p') rfl ?_
   left
   exact⟨p',N,rfl,by ac_nf,by ac_nf,hw',hN,G,GE.refl,q'⟩
  ·rw[h1,bH]at q'
   exact⟨G,GE.refl,q'⟩
 |none=>exact⟨rfl,rfl,rfl,rfl,ce,rfl,rfl,ce,rfl,rfl,G,GE.refl,q⟩
 |blank=>exact⟨rfl,rfl,rfl,rfl,ce,rfl,rfl,ce,rfl,rfl,G,GE.refl,q⟩
 |sign s=>
  have hw':s.length<=N:=hw
  have hsl:s.cps.toList.length<=700:=bj hw' hN
  refine⟨rfl,rfl,rfl,?_⟩
  exists fA (i:=1) (xs:=[.str "sign",.str s]) (x:= .str s) rfl ?_
  left
  intro acc hacc
  refine AK (λc=> .int (fi c)) (by ac_nf) (λ_=>trivial) (λx ys R hx r=> ?_) ?_
  ·exact r
  have gacc:up G acc (.lst (s.cps.toList.map λc=> .int (fi c))) acc=some (.lst ((s.cps.toList.map fi).map PV.int)):=by rw[aC,bB];rfl
  have geA:GE G (up G acc (.lst (s.cps.toList.map λc=> .int (fi c)))):=GE.refl.new hacc
  generalize up G acc (.lst (s.cps.toList.map λc=> .int (fi c)))=G1 at gacc geA⊢
  exists⟨ce,λl0 hl0=> ?_⟩
  left
  have nal:acc≠l0:=gF gacc hl0
  have gacc2:up G1 l0 (.lst []) acc=some (.lst ((s.cps.toList.map fi).map PV.int)):=by rw[cz nal];exact gacc
  have geA2:GE G (up G1 l0 (.lst [])):=geA.new hl0
  have gl0:up G1 l0 (.lst []) l0=some (.lst (([]:List Int).map PV.int)):=aC
  generalize up G1 l0 (.lst [])=G2 at gacc2 geA2 gl0⊢
  refine M9 (bT gacc2) (bT gl0) (ju _) (ju _) ?_
  rw[rE]
  have q':Q (.bl (!s.cps.toList.isEmpty&&(decide (∀c∈s.cps.toList,c∈io.cps.toList)&&decide (s.cps.toList.Pairwise (· <·))))) G:=q
  have e1:decide (s.cps.toList.map fi=[])=s.cps.toList.isEmpty:=by cases s.cps.toList<;>simp
  rw[e1]
  refine gf (λh1=> ?_) (λh1=> ?_)
  ·rw[h1,dj]at q'
   exists JQ (bT gacc2) rfl tm ?_
   rw[vY]
   have e2:(!decide ((-1:Int)∈s.cps.toList.map fi))=decide (∀c∈s.cps.toList,c∈io.cps.toList):=by
    rw[<-decide_not];refine decide_eq_decide.mpr ⟨λh c hc=> ?_,λh hm=> ?_⟩
    ·by_cases hz:c∈io.cps.toList
     ·exact hz
     ·exact absurd (bA.mpr ⟨c,hc,D0.mpr hz⟩) h
    ·obtain⟨c,hc,he⟩:=bA.mp hm;exact D0.mp he (h c hc)
   show kl (!decide ((-1:Int)∈s.cps.toList.map fi)) _ _
   rw[e2]
   refine gf (λh2=> ?_) (λh2=> ?_)
   ·rw[h2,dj]at q'
    exists⟨acc,rfl,.inr ⟨s.cps.toList.map fi,bT gacc2,by rw[av];ac_nf,λms c hn hm hp hc=> ?_⟩⟩
    have nac:acc≠c:=gF gacc2 hc
    exists NV (xs:=(s.cps.toList.map fi).map PV.int) (ys:=ms.map PV.int) (bT (by rw[cz nac];exact gacc2)) (bT aC) (ju _) (ju _) ?_
    rw[rE,Aw hn hm hp (of_decide_eq_true h2)]
    exact⟨G,geA2.new hc,q'⟩
   ·rw[h2,bH]at q'
    exact⟨G,geA2,q'⟩
  ·rw[h1,bH]at q'
   exact⟨G,geA2,q'⟩
end
theorem Bw{x:Str}{j:Option Int}:bO x none j=bO x (some (0:Int)) j:=by
 have h:PySem.Builtin.Str.strSliceIndices none j 1 x.length=PySem.Builtin.Str.strSliceIndices (some 0) j 1 x.length:=by
  unfold PySem.Builtin.Str.strSliceIndices;simp only[show(1:Int)>0 by decide,if_true,show¬(0:Int)<0 by decide,if_false];congr 1;all_goals ((repeat' split)<;>ac_nf)
 unfold bO;rw[h]
theorem Bx{x:Str}{i:Option Int}:bO x i none=bO x i (some (x.length:Int)):=by
 have h:PySem.Builtin.Str.strSliceIndices i none 1 x.length=PySem.Builtin.Str.strSliceIndices i (some (x.length:Int)) 1 x.length:=by
  unfold PySem.Builtin.Str.strSliceIndices;have h2:¬((x.length:Nat):Int)<0:=by ac_nf
  simp only[show(1:Int)>0 by decide,if_true,h2,if_false];congr 1;all_goals ((repeat' split)<;>ac_nf)
 unfold bO;rw[h]
theorem pW{T:List Nat}{a:Int}{e:Nat}{G:Gp}{Q:K2}(hl:T.length<=700)(ha:a=(e:Nat))(q:Q (.str (cx (T.take e))) G):w8 (.str (cx T)) none (some a) G Q:=by
 subst ha;refine⟨by rw[aV];ac_nf,?_⟩;have:=w6 (T:=T) (e:=0) (n:=e);rw[show((0:Nat):Int)+(e:Nat)=(e:Nat)by ac_nf,List.drop_zero]at this;rw[Bw,show(some (0:Int))=some ((0:Nat):Int)from rfl,this];exact q
theorem pV{T:List Nat}{a:Int}{e:Nat}{G:Gp}{Q:K2}(hl:T.length<=700)(ha:a=(e:Nat))(q:Q (.str (cx (T.drop e))) G):w8 (.str (cx T)) (some a) none G Q:=by
 subst ha;refine⟨by rw[aV];ac_nf,?_⟩;rw[Bx,aV];by_cases he:e<=T.length
 ·have:=w6 (T:=T) (e:=e) (n:=T.length-e);rw[show((e:Nat):Int)+((T.length-e:Nat):Nat)=(T.length:Nat)by ac_nf,cE (by rw[aW];ac_nf)]at this;rw[this];exact q
 ·rw[Bz (by rw[aV];ac_nf),aV];have h1:=oJ (T:=T) (e:=T.length) (n:=0) (ap _);rw[show((T.length:Nat)+(0:Nat):Int)=((T.length:Nat):Int)by ac_nf]at h1;rw[h1];rw[List.drop_eq_nil_of_le (show T.length<=e by ac_nf)]at q;simpa using q
structure Tx(T:List Nat)(n:Nat):Prop where
 l:1<=T.length
 h:T.length<=n
 a:∀c∈T,c<128
section
variable{P:aG}{w:aX}{K:PySem.W.Frag}{mg:Str->Option ae}{base:Heap}{f fn fi:Addr}{fd dn di:bb}
theorem yB:bp ["text", "pool", "at", "sign", "way"] ["text", "pool"] (aJ wy):=⟨rfl,rfl,rfl,by decide+kernel,rfl,by decide+kernel,by decide+kernel⟩
def t8:i8:=λps G Q=>∃(T:List Nat) (a:Addr) (n:Nat),ps=[.str (cx T),.ref a]/\Tx T n/\n<=599/\Pool G a/\∀T' G',Tx T' (n+1)->Pool G' a->Ch [a] G G'->Q (.str (cx T')) G'
theorem lI{a b:List Nat}{G:Gp}{Q:K2}(hl:a.length+b.length<=700)(q:Q (.str (cx (a++b))) G):jb (.str (cx a)) (.str (cx b)) G Q:=by
 refine eH (by rw[aV,aV];ac_nf) ?_;rw[dI];exact q
theorem Cs(F:Fun K "_law_spoilt" "_law_spoilt" wy f fd)(B:BN mg)(CN:cQ P w K mg base 1 "_law_next" fn dn ["pool", "base"] lh)(CP:cQ P w K mg base 2 "_law_pick" fi di ["pool", "some"] mM):jd P w K mg base 3 f fd ["text", "pool"] t8:=by
 have nd:=yB.nd;have hUE:=eD.mk;refine kA F yB (λvs G Q h=> ?_) (λcdv A outer s H E as G Q hr h=> ?_)
 ·obtain⟨_,_,_,rfl,_⟩:=h;rfl
 have hU:=eQ hr;apply jB;case a=>symm
 obtain⟨T,a,n,rfl,hx,hn,hp,q⟩:=h;have hl:=hx.l;have hh:=hx.h;have hl7:T.length<=700:=by ac_nf
 exists mR (by ac_nf) ?_;exists⟨a,T.length,rfl,hp,by ac_nf,by ac_nf,λat' G1 a0 a1 p1 c1=> ?_⟩;obtain⟨e,rfl⟩:∃e:Nat,at'=(e:Nat):=⟨at'.toNat,by ac_nf⟩;have he:e<T.length:=by ac_nf
 have hc:T[e]? =some T[e]:=au he;generalize T[e]=c0 at hc;exists⟨a,_,rfl,p1,.inr ⟨_,rfl,by decide+kernel,by decide+kernel,λc G2 hcs p2 c2=> ?_⟩⟩;have hc128:c<128:=(by decide+kernel:∀c∈(al "!-[]()*:$|\\ ab019xA").cps.toList,c<128) c hcs;have k2:Ch [a] G G2:=c1.trans c2;exists⟨a,4,rfl,p2,by decide,by decide,λway G3 w0 w1 p3 c3=> ?_⟩;have k3:Ch [a] G G3:=k2.trans c3;have fin:∀T',Tx T' (n+1)->∃G0,GE G0 G3/\Q (.str (cx T')) G0:=λT' h=>⟨G3,GE.refl,q T' G3 h p3 k3⟩;have hone:c9 c=cx [c]:=rfl;rw[hone];have mt:∀{x:Nat} {i:Nat},x∈T.take i->x<128:=λh=>hx.a _ (nv h);have md:∀{x:Nat} {i:Nat},x∈T.drop i->x<128:=λh=>hx.a _ (nw h);exists cV rfl rfl ?_;refine gf (λh0=> ?_) (λh0=> ?_)
 ·left;refine pW (e:=e) (by ac_nf) rfl ?_;exists lI (by rw[aO];show _+1<=_;ac_nf) ?_;exists pV (e:=e) (by ac_nf) rfl ?_;exists lI (by rw[af,aO,aW];show _+1+_<=_;ac_nf) ?_;refine fin _ ⟨?_,?_,λx hx'=> ?_⟩
  ·simp only[af,aO,aW,aj,bo];ac_nf
  ·simp only[af,aO,aW,aj,bo];ac_nf
  ·rcases aH.mp hx' with h|h
   ·rcases aH.mp h with h|h
    ·exact mt h
    ·cases ar.mp h;exact hc128
   ·exact md h
 exists cV rfl rfl ?_;apply GR;case main=>
  intro go
  refine gf (λh1=> ?_) (λh1=> ?_)
  ·left
   refine mR hl7 ?_
   exists gf (λh2=> ?_) (λh2=> ?_)
   ·have h2':=of_decide_eq_true h2
    exists pW (e:=e) hl7 rfl ?_
    exists b8 ?_
    exists pV (e:=e+1) hl7 rfl ?_
    left
    have hlt:(T.take e).length+(T.drop (e+1)).length=T.length-1:=by
     clear go;rw[aO,aW];ac_nf
    refine lI (by clear go;ac_nf) ?_
    refine fin _ ⟨?_,?_,λx hx'=> ?_⟩
    ·clear go;rw[af];ac_nf
    ·clear go;rw[af];ac_nf
    ·rcases aH.mp hx' with h|h
     ·exact mt h
     ·exact md h
   ·exact go
  ·exact go
 case tail=>
  exists cV rfl rfl ?_
  have e2:i7 (.int way) (.int 2)=decide (way=2):=by
   show((way==2):Bool)=_;rw[cR];simp
  rw[e2]
  refine gf (λh2=> ?_) (λh2=> ?_)
  ·left
   refine b8 ?_
   exists b8 ?_
   left
   rw[show((e:Nat):Int)+1=((e+1:Nat):Int)by ac_nf]
   refine nJ (e:=e+1) (n:=1) hl7 (by ac_nf) ?_
   exists Oy hl7 hc ?_
   have hs2:((T.drop (e+1)).take 1).length=min 1 (T.length-(e+1)):=by rw[aO,aW]
   have h0c:c0<128:=hx.a _ (cy hc)
   rw[show c9 c0=cx [c0]from rfl]
   refine lI (by rw[hs2];show _+1<=_;ac_nf) ?_
   have hS:((T.drop (e+1)).take 1++[c0]).length=min 1 (T.length-(e+1))+1:=by rw[af,hs2];rfl
   have hSa:∀x∈(T.drop (e+1)).take 1++[c0],x<128:=λx h=>by
    rcases aH.mp h with h|h
    ·exact hx.a _ (nw (nv h))
    ·cases ar.mp h;exact h0c
   generalize (T.drop (e+1)).take 1++[c0]=S at hS hSa⊢
   exists pW (e:=e) hl7 rfl ?_
   left
   have hlt:(T.take e).length=e:=by rw[aO];ac_nf
   have hld:(T.drop (e+2)).length=T.length-(e+2):=by rw[aW]
   refine lI (by rw[hlt,hS];ac_nf) ?_
   exists b8 ?_
   exists cV rfl rfl ?_
   rw[e2,h2]
   exists lA ?_
   refine b8 ?_
   exists pV (e:=e+2) hl7 (by simp;ac_nf) ?_
   exists lI (by rw[af,hlt,hld,hS];ac_nf) ?_
   refine fin _ ⟨?_,?_,λx hx'=> ?_⟩
   ·rw[af,af,hlt,hld,hS];ac_nf
   ·rw[af,af,hlt,hld,hS];ac_nf
   ·rcases aH.mp hx' with h|h
    ·rcases aH.mp h with h|h
     ·exact mt h
     ·exact hSa _ h
    ·exact md h
  ·left
   refine pW (e:=e) hl7 rfl ?_
   exists lI (by rw[aO];show _+1<=_;ac_nf) ?_
   exists b8 ?_
   exists cV rfl rfl ?_
   rw[e2,h2]
   exists lA ?_
   refine b8 ?_
   exists pV (e:=e+1) hl7 (by simp) ?_
   left
   have hlt:(T.take e).length=e:=by rw[aO];ac_nf
   have hld:(T.drop (e+1)).length=T.length-(e+1):=by rw[aW]
   refine lI (by rw[af,hlt,hld];show e+1+_<=_;ac_nf) ?_
   refine fin _ ⟨?_,?_,λx hx'=> ?_⟩
   ·rw[af,af,hlt,hld];show 1<=e+1+_;ac_nf
   ·rw[af,af,hlt,hld];show e+1+_<=_;ac_nf
   ·rcases aH.mp hx' with h|h
    ·rcases aH.mp h with h|h
     ·exact mt h
     ·cases ar.mp h;exact hc128
    ·exact md h
end
section
variable{P:aG}{w:aX}{K:PySem.W.Frag}{mg:Str->Option ae}{base:Heap}{f fn fi ft fa:Addr}{fd dn di dt da:bb}
theorem Hw:bp ["text", "found"] ["text"] (aJ Il):=⟨rfl,rfl,rfl,by decide+kernel,rfl,by decide+kernel,by decide+kernel⟩
def Bv:i8:=λps G Q=>∃T:List Nat,ps=[.str (cx T)]/\T.length<=600/\Q (match nj T with|none=> .non|some p=>dh p) G
theorem JH{k:Nat}(F:Fun K "_law_due" "_law_due" Il f fd)(B:BN mg)(CR:cQ P w K mg base k "_law_read" fi di ["text", "at", "deep"] (wS 10))(CC:cQ P w K mg base k "_law_count" fa da ["pattern"] (jg 9))(CG:cQ P w K mg base k "_law_good" fn dn ["pattern"] (oH 10))(CW:cQ P w K mg base k "_law_written" ft dt ["pattern"] (mO 9)):jd P w K mg base (k+1) f fd ["text"] Bv:=by
 have nd:=Hw.nd;have hUE:=eD.mk;refine kA F Hw (λvs G Q h=> ?_) (λcdv A outer s H E as G Q hr h=> ?_)
 ·obtain⟨_,rfl,_⟩:=h;rfl
 have hU:=eQ hr;apply jB;case a=>symm
 obtain⟨T,rfl,hT,q⟩:=h;exists Mo (e:=0) (d:=9) rfl rfl (by decide) (by ac_nf) hT ?_;left;cases hr:jo T 9 0 with
 |none=>
  rw[show nj T=none by unfold nj;rw[hr]]at q
  refine iE rfl ?_
  exact⟨G,GE.refl,q⟩
 |some x=>
  obtain⟨p,e⟩:=x
  have k:=qS 9 0 _ e (by ac_nf) hr
  have k1:=k.w
  have k2:=k.d
  have k3:=k.s
  have k4:=k.t
  have hdue:nj T=if e=T.length/\size p<=40/\ng p=true/\dY p=T then some p else none:=by unfold nj;rw[hr]
  rw[hdue]at q
  have no:¬(e=T.length/\size p<=40/\ng p=true/\dY p=T)->∃G0,GE G0 G/\Q .non G0:=λh=>⟨G,GE.refl,by rw[if_neg h]at q;exact q⟩
  refine jK rfl ?_
  exists fA (i:=1) (xs:=[dh p,.int (e:Nat)]) (x:= .int (e:Nat)) rfl ?_
  exists mR (by ac_nf) ?_
  exists qR rfl rfl ?_
  have e1:(!i7 (.int (e:Nat)) (.int (T.length:Nat)))= !decide (e=T.length):=by
   show(!(((e:Nat):Int)==((T.length:Nat):Int)))=_;congr 1;rw[cR];simp;ac_nf
  rw[e1]
  refine gf (λh1=> ?_) (λh1=> ?_)
  ·exact no λh=>by rw[decide_eq_true h.1]at h1;cases h1
  ·have h1':e=T.length:=by
    by_cases z:e=T.length
    ·exact z
    ·rw[decide_eq_false z]at h1;cases h1
   exists fA (i:=0) (xs:=[dh p,.int (e:Nat)]) (x:=dh p) rfl ?_
   exists⟨p,rfl,k2,by ac_nf,?_⟩
   exists gf (λh2=> ?_) (λh2=> ?_)
   ·have h2':=of_decide_eq_true h2
    exact no λh=>by have:=h.2.1;ac_nf
   ·have h2':=of_decide_eq_false h2
    exists fA (i:=0) (xs:=[dh p,.int (e:Nat)]) (x:=dh p) rfl ?_
    exists⟨p,T.length+1,rfl,by ac_nf,by ac_nf,k1,by ac_nf,?_⟩
    exists gf (λh3=> ?_) (λh3=> ?_)
    ·exact no λh=>by rw[h.2.2.1]at h3;cases h3
    ·have h3':ng p=true:=by simpa using h3
     have hwp:=DV _ (ap _) k1 h3'
     exists fA (i:=0) (xs:=[dh p,.int (e:Nat)]) (x:=dh p) rfl ?_
     exists⟨p,rfl,k2,hwp,by ac_nf,?_⟩
     exists qR rfl rfl ?_
     rw[show i7 (yf p) (.str (cx T))=(dY p==T)from lS _ _]
     refine gf (λh4=> ?_) (λh4=> ?_)
     ·exact no λh=>by rw[h.2.2.2]at h4;simp at h4
     ·have h4':dY p=T:=by simpa using h4
      rw[if_pos ⟨h1',by ac_nf,h3',h4'⟩]at q
      exists fA (i:=0) (xs:=[dh p,.int (e:Nat)]) (x:=dh p) rfl ?_
      exact⟨G,GE.refl,q⟩
end
theorem EY:∀c∈wm.cps.toList,c<128:=by decide+kernel
theorem Da{sep:List Nat}{c:Nat}:∀{zs:List (List Nat)},c∈nY sep zs->c∈sep\/∃z∈zs,c∈z
 |[],h=>by cases h
 |[z],h=> .inr ⟨z,by simp,h⟩
 |z::y::r,h=>by
  have h':c∈z++sep++nY sep (y::r):=h;rcases aH.mp h' with h|h
  ·rcases aH.mp h with h|h
   ·exact .inr ⟨z,by simp,h⟩
   ·exact .inl h
  ·rcases Da h with h|⟨x,hx,hc⟩
   ·exact .inl h
   ·exact .inr ⟨x,bC _ hx,hc⟩
theorem yg:∀(n:Nat) {p:Pt},size p<=n->wp p->∀c∈dY p,c<128
 |0,p,h,_=>by have:=iw p;ac_nf
 |n+1,p,h,hw=>by
  have hs:=cS p;have ih:∀q∈dE p,∀c∈dY q,c<128:=λq hq=>by
   have:=fe hq;exact yg n (by ac_nf) (j3 hw q hq)
  have parts:∀(ps:List Pt) (sep:List Nat),dE p=ps->(∀c∈sep,c<128)->∀c∈(40::(nY sep (g9 ps)++[41])),c<128:=λps sep hp hs c hc=>by
   rcases aw.mp hc with rfl|hc
   ·decide
   ·rcases aH.mp hc with hc|hc
    ·rcases Da hc with hc|⟨z,hz,hc⟩
     ·exact hs c hc
     ·rw[j0]at hz;obtain⟨q,hq,rfl⟩:=bA.mp hz;exact ih q (by rw[hp];exact hq) c hc
    ·cases ar.mp hc;decide
  cases p with
  |none=>intro c hc;cases ar.mp hc;decide
  |blank=>intro c hc;cases ar.mp hc;decide
  |sign s=>
   intro c hc
   rcases aw.mp hc with rfl|hc
   ·decide
   ·rcases aH.mp hc with hc|hc
    ·unfold eU at hc
     obtain⟨l,hl,hc⟩:=List.mem_flatten.mp hc
     obtain⟨d,hd,rfl⟩:=bA.mp hl
     have hd':=EY d (hw.2.2 d hd)
     unfold gR at hc
     split at hc
     ·simp only[aw,bu,or_false]at hc
      rcases hc with rfl|rfl
      ·decide
      ·exact hd'
     ·cases ar.mp hc;exact hd'
    ·cases ar.mp hc;decide
  |row ps=>exact parts ps [32] rfl (by decide)
  |pick ps=>exact parts ps [32,124,32] rfl (by decide)
  |again q=>
   intro c hc
   rcases aw.mp hc with rfl|hc
   ·decide
   ·exact ih q (by show q∈[q];simp) c hc
  |held m q=>
   intro c hc
   rcases aH.mp hc with hc|hc
   ·have:=hw.1.2 c hc
    unfold cF at this
    simp only[aB,decide_eq_true_eq]at this
    ac_nf
   ·rcases aw.mp hc with rfl|hc
    ·decide
    ·exact ih q (by show q∈[q];simp) c hc
  |price m q=>
   intro c hc
   obtain⟨_,_,hn3,_⟩:=lR hw.1.1 hw.1.2
   rcases aH.mp hc with hc|hc
   ·have:=hn3 c hc
    unfold bS at this
    simp only[aB,decide_eq_true_eq]at this
    ac_nf
   ·rcases aw.mp hc with rfl|hc
    ·decide
    ·exact ih q (by show q∈[q];simp) c hc
section
variable{P:aG}{w:aX}{K:PySem.W.Frag}{mg:Str->Option ae}{base:Heap}{f fn fi ft fa fs fp D Gv:Addr}{fd dn di dt da ds dp:bb}
theorem NJ{x c:Addr}{b:Bool}{G:Gp}{Q:K2}(h:G x=some (.exc D))(xk:uQ K D)(k:PySem.W.kitOne K (.ref D) (.ref c)=some b)(q:Q (.bl b) G):DL K [.ref x,.ref c] G Q:=⟨D,b,h,xk,k,q⟩
theorem K6{x:Addr}{T:String}{b:Bool}{G:Gp}{Q:K2}(h:G x=some (.exc D))(xk:uQ K D)(k:PySem.W.kitOne K (.ref D) (.type T)=some b)(q:Q (.bl b) G):DL K [.ref x,.ty T] G Q:=⟨D,b,h,xk,k,q⟩
theorem yK:bp ["text", "caught", "found", "e"] ["text"] (aJ wF):=⟨rfl,rfl,rfl,by decide+kernel,rfl,by decide+kernel,by decide+kernel⟩
def GQ(T:List Nat):PV:=match nj T with|none=> .str "refused" |some p=>dh p
def uc:i8:=λps G Q=>∃T:List Nat,ps=[.str (cx T)]/\T.length<=600/\(∀c∈T,c<128)/\Q (GQ T) G
theorem CL{k:Nat}(xq:PySem.W.excIn K D su "ValueError.__new__" =true)(xg:PySem.W.excIn K Gv su "ValueError.__new__" =true)(xu:nh K D Gv=true)(xk:uQ K D)(hD:mg "NoText" =some (.ref D))(hG:mg "GroveError" =some (.ref Gv))(hV:mg "ValueError" =none)
  (kD:PySem.W.kitOne K (.ref D) (.ref D)=some true) (kV:PySem.W.kitOne K (.ref D) (.type "ValueError")=some true) (F:Fun K "_law_found" "_law_found" wF f fd) (B:BN mg) (CR:LI P w K mg base D k "read_pattern" fp dp ["thing"] IA):jd P w K mg base (k+1) f fd ["text"] uc:=by
 have nd:=yK.nd;have hUE:=eD.mk;refine kA F yK (λvs G Q h=> ?_) (λcdv A outer s H E as G Q hr h=> ?_)
 ·obtain⟨_,rfl,_⟩:=h;rfl
 have hU:=eQ hr;apply jB;case a=>symm
 obtain⟨T,rfl,hT,ha,q⟩:=h;obtain⟨d1,d2,d3,d4⟩:=IL hT ha;exists .inl ⟨T,rfl,hT,d4,d3,λp e hr=> ?_,λhno G' ge x hx=> ?_⟩
 ·have hd:nj T=some p:=qe.mpr (ul.mp ⟨e,hr⟩);unfold GQ at q;rw[hd]at q;exact⟨G,GE.refl,q⟩
 ·have hd:nj T=none:=by
   cases hz:nj T with
   |none=>rfl
   |some p=>obtain⟨e,he⟩:=d1 p hz;rw[hno]at he;cases he
  unfold GQ at q
  rw[hd]at q
  have x5:up G' x (.exc D) x=some (.exc D):=aC
  have ge5:GE G (up G' x (.exc D)):=ge.new hx
  generalize up G' x (.exc D)=G5 at x5 ge5⊢
  exists jK rfl ?_
  exists⟨ce,λl hl=> ?_⟩
  have x6:up G5 l (.lst [.str "other",.str "refused"]) x=some (.exc D):=by rw[cz (gF x5 hl)];exact x5
  have l6:up G5 l (.lst [.str "other",.str "refused"]) l=some (.lst [.str "other",.str "refused"]):=aC
  have ge6:GE G (up G5 l (.lst [.str "other",.str "refused"])):=ge5.new hl
  left
  generalize up G5 l _=G6 at x6 l6 ge6⊢
  refine NJ (K:=K) x6 xk kD ?_
  refine iE rfl ?_
  exists K6 (K:=K) x6 xk kV ?_
  exists lA ?_
  exists fT (i:=1) (x:= .str "refused") (bT l6) rfl ?_
  exact⟨G,ge6,q⟩
theorem Hr:bp ["script", "cell", "pattern", "pool", "text", "turn"] ["script"] (aJ zH):=⟨rfl,rfl,rfl,by decide+kernel,rfl,by decide+kernel,by decide+kernel⟩
def yt:i8:=λps _ Q=>∃ns:List Int,ps=[.ro (ns.map PV.int)]/\ns.length<=63/\∀G,Q (.bl true) G
theorem Jz{k:Nat}(hk:3<=k)(F:Fun K "law" "law" zH f fd)(B:BN mg)(CM:cQ P w K mg base k "_law_made" fi di ["cell"] pU)(CW:cQ P w K mg base k "_law_written" ft dt ["pattern"] (mO 9))(CS:cQ P w K mg base k "_law_spoilt" fs ds ["text", "pool"] t8)
  (CF:cQ P w K mg base k "_law_found" fn dn ["text"] uc) (CD:cQ P w K mg base k "_law_due" fa da ["text"] Bv):jd P w K mg base (k+1) f fd ["script"] yt:=by
 have nd:=Hr.nd;have hUE:=eD.mk;refine kA F Hr (λvs G Q h=> ?_) (λcdv A outer s H E as G Q hr h=> ?_)
 ·obtain⟨_,rfl,_⟩:=h;rfl
 have hU:=eQ hr;apply jB;case a=>symm
 obtain⟨ns,rfl,hns,q⟩:=h;exists⟨ce,λl hl=> ?_⟩;exists Ha gG (by rw[av];show _+3<=_;ac_nf) λsc hsc=> ?_;have gsc:up (up G l (.lst [.int 0,.int 1,.int 2])) sc (.lst (ns.map PV.int++[.int 0,.int 1,.int 2])) sc=some (.lst ((ns++[0,1,2]).map PV.int)):=by rw[aC,a9];rfl
 generalize up (up G l (.lst [.int 0,.int 1,.int 2])) sc (.lst (ns.map PV.int++[.int 0,.int 1,.int 2]))=G1 at gsc⊢;left;rw[bT gsc];exists⟨λi τ G'=>∃t1 t2 t3 t4 t5:Option PV,τ=[some (.ro (ns.map PV.int)),t1,t2,t3,t4,t5]/\G' sc=some (.lst ((ns++[0,1,2]).map PV.int)),⟨_,_,_,_,_,rfl,gsc⟩,?_,?_,?_⟩
 ·rintro i τ G' hi ⟨t1,t2,t3,t4,t5,rfl,g'⟩;exact bT g'
 ·rintro i x τ G' hx ⟨t1,t2,t3,t4,t5,rfl,g'⟩;obtain⟨c,rfl⟩:∃c:Int,x= .int c:=by
   rw[br]at hx;cases e:(ns++[0,1,2])[i]? with
   |none=>rw[e]at hx;cases hx
   |some c=>rw[e]at hx;cases hx;exact⟨c,rfl⟩
  exists⟨c,rfl,λp a G2 hw hd hs hl560 ha p2 ge2=> ?_⟩;have nsa:sc≠a:=gF g' ha;have g2:=ge2 sc _ g';exists⟨p,rfl,hd,hw,by ac_nf,?_⟩;exists⟨by decide,by decide,?_⟩;refine⟨λi τ G'=>∃(T:List Nat) (y:Option PV),τ=[some (.ro (ns.map PV.int)),some (.int c),some (dh p),some (.ref a),some (.str (cx T)),y]/\Tx T (560+i)/\Pool G' a/\G' sc=some (.lst ((ns++[0,1,2]).map PV.int)),⟨dY p,t5,rfl,⟨?_,hl560,yg _ (ap _) hw⟩,p2,g2⟩,λ_ _ _ _ _=>trivial,?_,?_⟩
  ·obtain⟨z,r,ez,_⟩:=tS hw;rw[ez];simp
  ·rintro i x τ G3 hx ⟨T,y,rfl,tx,p3,g3⟩;have hi:i<3:=by
    have:=(ak.mp hx).1;exact aT this (by decide+kernel)
   exists⟨T,a,560+i,rfl,tx,by ac_nf,p3,λT' G4 tx' p4 c4=> ?_⟩;have g4:=c4 sc _ (by simpa using nsa) g3;have hT':T'.length<=600:=by have:=tx'.h;ac_nf
   exists⟨T',rfl,hT',tx'.a,?_⟩;exists⟨T',rfl,hT',?_⟩;have next:∃(T:List Nat) (y:Option PV),[some (.ro (ns.map PV.int)),some (.int c),some (dh p),some (.ref a),some (.str (cx T')),some x]=[some (.ro (ns.map PV.int)),some (.int c),some (dh p),some (.ref a),some (.str (cx T)),y]/\Tx T (560+(i+1))/\Pool G4 a/\G4 sc=some (.lst ((ns++[0,1,2]).map PV.int)):=⟨T',_,rfl,tx',p4,g4⟩;unfold GQ;cases hz:nj T' with
   |none=>
    exists qR rfl rfl ?_
    rw[Bp]
    refine jK rfl ?_
    exact next
   |some p'=>
    have hd9:=(qe.mp hz).2.1
    obtain⟨z,zs,ez,hzs⟩:∃z zs,dh p'= .tup (z::zs)/\zs.length<=3:=by cases p'<;>exact⟨_,_,rfl,by simp⟩
    have hp:eB 100 (.tup (z::zs))=true:=by rw[<-ez];exact lD p' 100 (by ac_nf)
    dsimp only
    rw[ez]
    refine⟨by show zs.length+1<=_;ac_nf,?_⟩
    refine iE rfl ?_
    exists qR hp hp ?_
    rw[v9 100 _ hp]
    refine jK rfl ?_
    exact next
  ·rintro τ G3 ⟨T,y,rfl,tx,p3,g3⟩;exact⟨_,_,_,_,_,rfl,g3⟩
 ·rintro τ G' ⟨t1,t2,t3,t4,t5,rfl,g'⟩;exact⟨_,GE.refl,q G'⟩
end
def Ls(K:PySem.W.Frag)(C D:Addr)(fs:List Addr):Bool:=
 (PySem.W.plainGet K C Str.empty&&PySem.W.hasDictIn K C&&PySem.W.plainOver K C&&(PySem.W.findIn K (.ref C) "__setattr__" ==some (some (.builtin "object.__setattr__"))))&&((PySem.W.findIn K (.ref C) "signs" ==some none)&&(PySem.W.findIn K (.ref C) "at" ==some none))
  &&PySem.W.excIn K D su "ValueError.__new__" &&(PySem.W.makesIn K C&&PySem.W.keepIn K (.ref C))&&fs.all (λf=>PySem.W.isFn K (.ref f))
theorem Lr{K:PySem.W.Frag}{C D:Addr}{fs:List Addr}(h:Ls K C D fs=true):Cls K C/\NoAttr K C "signs" /\NoAttr K C "at" /\PySem.W.excIn K D su "ValueError.__new__" =true/\(PySem.W.makesIn K C=true/\PySem.W.keepIn K (.ref C)=true)/\∀f∈fs,PySem.W.isFn K (.ref f)=true:=by
 unfold Ls at h;simp only[aB,bv,beq_iff_eq]at h;obtain⟨⟨⟨⟨⟨⟨⟨h1,h2⟩,h3⟩,h4⟩,⟨n1,n2⟩⟩,hx⟩,hm⟩,hf⟩:=h;exact⟨⟨h1,h2,h3,h4⟩,n1,n2,hx,hm,hf⟩
def Lf(K:PySem.W.Frag)(D G:Addr):Bool:=
 PySem.W.excIn K G su "ValueError.__new__" &&nh K D G&&(PySem.W.findIn K (.ref D) "__getattribute__" ==some (some (.builtin "BaseException.__getattribute__")))&&(PySem.W.findIn K (.ref D) "__getattr__" ==some none)&&(PySem.W.mroIn K D (.type "BaseException")==some true)&&(PySem.W.clsIn K D).isSome&&(PySem.W.findIn K (.ref D) "__class__" ==some (some (.builtin "object.__class__")))&&(PySem.W.specialIn K (.builtin "object.__class__") "__get__" ==some (some (.builtin "getset_descriptor.__get__")))&&(PySem.W.takesIn K (.builtin "object.__class__")==some true)&&(PySem.W.mroIn K D (.type "object")==some true)
  &&(PySem.W.kitOne K (.ref D) (.ref D)==some true)&&(PySem.W.kitOne K (.ref D) (.type "ValueError")==some true)
theorem Ld{K:PySem.W.Frag}{D G:Addr}(h:Lf K D G=true):PySem.W.excIn K G su "ValueError.__new__" =true/\nh K D G=true/\uQ K D/\PySem.W.kitOne K (.ref D) (.ref D)=some true/\PySem.W.kitOne K (.ref D) (.type "ValueError")=some true:=by
 unfold Lf at h;simp only[aB,beq_iff_eq]at h;obtain⟨⟨⟨⟨⟨⟨⟨⟨⟨⟨⟨h1,h2⟩,h3⟩,h4⟩,h5⟩,h6⟩,h7⟩,h8⟩,h9⟩,h10⟩,h11⟩,h12⟩:=h;exact⟨h1,h2,⟨h3,h4,h5,h6,h7,h8,h9,h10⟩,h11,h12⟩
theorem Ah{P:aG}{w:aX}{K:PySem.W.Frag}{mg:Str->Option ae}{base:Heap}{D:Addr}{k:Nat}{f:Addr}{fd:bb}{ps:List Str}{sp:uN}(h:∀as G Q EX,¬sp as G Q EX):AW P w K mg base D k f fd ps sp:=
 ⟨λvs H Q E ⟨as,G,Q2,EX,_,_,q,_⟩=>absurd q (h as G Q2 EX),λA outer s H args us vs Q E _ _ _ _ ⟨as,G,Q2,EX,_,_,q,_⟩=>absurd q (h as G Q2 EX)⟩
def PX(K:PySem.W.Frag):Bool:=Em.all λx=>PySem.W.nsIn K bn x==some none
theorem Of{K:PySem.W.Frag}{h:Heap}{mg:Str->Option ae}(X:K.In h)(G:h.Ns bn mg)(z:PX K=true):BN mg:=λx hx=>by
 unfold PX at z;rw[bv]at z;have:=z x (by simpa using hx);exact PySem.W.mg_none_of X G (beq_iff_eq.mp this)
def FnB(K:PySem.W.Frag)(x qual:Str)(st:Stmt)(f:Addr):Prop:=∃oc od kV dc pm an cd ct sl,K.lookup f=some ⟨oc,od,.func (PySem.W.fnOf x qual (jM st) (iB st) (aJ st) .none kV dc pm an cd ct),sl⟩/\PySem.W.codeIn K cd qual=true/\PySem.W.keepIn K (.ref f)=true
def FnIn(K:PySem.W.Frag)(x:Str)(st:Stmt)(f:Addr):Prop:=PySem.W.nsIn K bn x=some (some (.ref f))/\FnB K x x st f
def MtIn(K:PySem.W.Frag)(C:Addr)(x q:Str)(st:Stmt)(f:Addr):Prop:=PySem.W.findIn K (.ref C) x=some (some (.ref f))/\FnB K x q st f
theorem FnB.get{K:PySem.W.Frag}{x q:Str}{st:Stmt}{f:Addr}(u:FnB K x q st f):∃fd,Fun K x q st f fd:=by
 obtain⟨_,_,_,_,_,_,_,_,_,l,c,k⟩:=u;exact⟨_,DX l c k⟩
def OI(_:aG)(_:aX)(K:PySem.W.Frag)(mg:Str->Option ae)(_:Heap)(h:Heap):Prop:=K.In h/\h.Ns bn mg
section
variable{P:aG}{w:aX}{K:PySem.W.Frag}{mg:Str->Option ae}{base h:Heap}{x q:Str}{st:Stmt}{f:Addr}
def LP(x q:Str)(st:Stmt)(ps:List Str):List Str->List ae->Prop
 |[],vs=>∀(kV doc pm:ae) (an:Option Addr) (cdv ct:ae),bindArgs (PySem.W.fnOf x q (jM st) (iB st) (aJ st) .none kV doc pm an cdv ct) ⟨vs,[]⟩=pure (ps.zip vs)
 |_::r,vs=>∀a,LP x q st ps r (vs++[a])
theorem HY{ps:List Str}:∀(r:List Str) (vs us:List ae),LP x q st ps r vs->us.length=r.length->∀(kV doc pm:ae) (an:Option Addr) (cdv ct:ae),bindArgs (PySem.W.fnOf x q (jM st) (iB st) (aJ st) .none kV doc pm an cdv ct) ⟨vs++us,[]⟩=pure (ps.zip (vs++us))
 |[],vs,[],h,_=>by rw[dz];exact h
 |_::r,vs,a::us,h,e=>by
  have:=HY r (vs++[a]) us (h a) (Nat.succ.inj e);rwa [aI]at this
 |[],_,_::_,_,e=>nomatch e
 |_::_,_,[],_,e=>nomatch e
theorem FnB.go(u:FnB K x q st f){ps:List Str}(hb:LP x q st ps ps []):∃fd,Fun K x q st f fd/\Binds K fd ps []:=by
 obtain⟨fd,F⟩:=u.get;exact⟨fd,F,F.binds λa b c d e g us hl=>HY ps [] us hb hl a b c d e g⟩
theorem FnIn.go(u:FnIn K x st f)(c:OI P w K mg base h)(ps:List Str)(hb:LP x x st ps ps []:=by((repeat intro _);exact rfl)):∃fd,Fun K x x st f fd/\∀k sp,jd P w K mg base k f fd ps sp->cQ P w K mg base k x f fd ps sp:=by
 obtain⟨fd,F,b⟩:=u.2.go hb;exact⟨fd,F,λ_ _ o=>⟨o,b,F.kp,PySem.W.mg_of c.1 c.2 u.1⟩⟩
theorem FnIn.goX(u:FnIn K x st f)(c:OI P w K mg base h)(D:Addr)(ps:List Str)(hb:LP x x st ps ps []:=by((repeat intro _);exact rfl)):∃fd,Fun K x x st f fd/\∀k sp,AW P w K mg base D k f fd ps sp->LI P w K mg base D k x f fd ps sp:=by
 obtain⟨fd,F,b⟩:=u.2.go hb;exact⟨fd,F,λ_ _ o=>⟨o,b,F.kp,PySem.W.mg_of c.1 c.2 u.1⟩⟩
theorem MtIn.go{C:Addr}{fs:List Addr}(u:MtIn K C x q st f)(_:OI P w K mg base h)(ps:List Str)(z:Cls K C/\∀f∈fs,PySem.W.isFn K (.ref f)=true)(hm:f∈fs:=by simp)(hb:LP x q st ps ps []:=by((repeat intro _);exact rfl)):∃fd,Fun K x q st f fd/\Binds K fd ps []/\xV K C x f/\∀k sp,jd P w K mg base k f fd ps sp->xW P w K mg base C k x f fd ps sp:=by
 obtain⟨fd,F,b⟩:=u.2.go hb;have m:xV K C x f:=⟨u.1,z.2 f hm,F.kp⟩;exact⟨fd,F,b,m,λ_ _ o=>⟨o,b,z.1,m⟩⟩
theorem rc{fd:bb}{ps:List Str}(z:∀k sp,jd P w K mg base k f fd ps sp->cQ P w K mg base k x f fd ps sp)(kf:Nat->Nat)(sp:Nat->i8)(h0:∀as G Q,¬sp 0 as G Q)
  (hs:∀n,cQ P w K mg base (kf n) x f fd ps (sp n)->jd P w K mg base (kf (n+1)) f fd ps (sp (n+1))):∀n,cQ P w K mg base (kf n) x f fd ps (sp n)
 |0=>z _ _ (qQ h0)
 |n+1=>z _ _ (hs n (rc z kf sp h0 hs n))
end
theorem all_mk{l:PySem.W.OpenLaw}{w:aX}{K:PySem.W.Frag}{h:Heap}{mg:Str->Option ae}{fa f1 f2 f3 f4 f5 f6 f7 f8 f9 f10 f11 f12 f13 f14 f15 f16 f17 f18 f19 f20 f21 f22 f23 f24 f25 f26 f27 f28 f29 f30 f31 f32 f33 f34 f35 f36 f37 f38 f39 f40 f41 f42 f43 f44 f45:Addr}{cC cD cG dL:Addr}{oL:Obj}{sLET sSIG sFIG:Str}{tLET:Tok}{tSIG:Tok}{tLW:Tok}{tDE:Tok}{tMM:Tok}{tFP:Tok}{tMP:Tok}{tHP:Tok}{tLR:Tok}{tFIG:Tok}{tSO:Tok}(X:K.In h)(G:h.Ns bn mg)(hfa:mg "law" =some (.ref fa))
  (cg:PySem.W.nsIn K bn "Reader" =some (some (.ref cC))) (dg:PySem.W.nsIn K bn "NoText" =some (some (.ref cD))) (zv:PySem.W.nsIn K bn "ValueError" =some none) (u1:FnIn K "is_whole" wx f1) (u2:FnIn K "is_text" yd f2) (u3:FnIn K "is_word" yc f3) (u4:FnIn K "inner_patterns" tP f4) (u5:FnIn K "are_rising_signs" pR f5) (u6:FnIn K "has_kind" A9 f6) (u7:FnIn K "is_make" A7 f7) (u8:FnIn K "is_made_of_makes" A8 f8) (u9:FnIn K "is_pattern" Ij f9) (u10:FnIn K "can_be_blank" tR f10) (u11:FnIn K "makes_of" wD f11) (u12:FnIn K "signs_text" On f12) (u13:FnIn K "pattern_text" Oo f13) (u14:MtIn K cC "__init__" "Reader.__init__" Ba f14) (u15:MtIn K cC "does_follow" "Reader.does_follow" Ik f15) (u16:MtIn K cC "read_piece" "Reader.read_piece" wB f16) (u17:MtIn K cC "read_row_of" "Reader.read_row_of" wz f17) (u18:MtIn K cC "read_signs" "Reader.read_signs" tM f18) (u19:MtIn K cC "read_parts" "Reader.read_parts" tN f19) (u20:MtIn K cC "read_held" "Reader.read_held" Bb f20) (u21:MtIn K cC "read_price" "Reader.read_price" wA f21) (u22:MtIn K cC "read_make" "Reader.read_make" OL f22) (u23:FnIn K "read_pattern" OK f23) (u24:FnIn K "_law_pool" A3 f24) (u25:FnIn K "_law_next" A6 f25) (u26:FnIn K "_law_pick" A4 f26) (u27:FnIn K "_law_all_signs" Im f27) (u28:FnIn K "_law_sign" ye f28) (u29:FnIn K "_law_word" tO f29) (u30:FnIn K "_law_any" EL f30) (u31:FnIn K "_law_count" tQ f31) (u32:FnIn K "_law_signs_text" Ii f32) (u33:FnIn K "_law_written" Om f33) (u34:FnIn K "_law_made" wE f34) (u35:FnIn K "_law_run" Ig f35) (u36:FnIn K "_law_parts" wC f36) (u37:FnIn K "_law_read_signs" Ih f37) (u38:FnIn K "_law_read_part" A5 f38) (u39:FnIn K "_law_read" OJ f39) (u40:FnIn K "_law_blank" EK f40) (u41:FnIn K "_law_good" qo f41) (u42:FnIn K "_law_due" Il f42) (u43:FnIn K "_law_spoilt" wy f43) (u44:FnIn K "_law_found" wF f44) (u45:FnIn K "law" zH f45) (m0:PySem.W.nsIn K bn "LETTERS" =some (some (.str sLET tLET))) (m1:PySem.W.nsIn K bn "SIGNS" =some (some (.str sSIG tSIG))) (m2:PySem.W.nsIn K bn "LONGEST_WORD" =some (some (.int 8 tLW))) (m3:PySem.W.nsIn K bn "DEEPEST" =some (some (.int 9 tDE))) (m4:PySem.W.nsIn K bn "MOST_MAKES" =some (some (.int 40 tMM))) (m5:PySem.W.nsIn K bn "FEWEST_PARTS" =some (some (.int 2 tFP))) (m6:PySem.W.nsIn K bn "MOST_PARTS" =some (some (.int 6 tMP))) (m7:PySem.W.nsIn K bn "HIGHEST_PRICE" =some (some (.int 1000 tHP))) (m8:PySem.W.nsIn K bn "LONGEST_READ" =some (some (.int 600 tLR))) (m9:PySem.W.nsIn K bn "FIGURES" =some (some (.str sFIG tFIG))) (m10:PySem.W.nsIn K bn "SET_OFF" =some (some (.str "]\\" tSO))) (m11:PySem.W.nsIn K bn "GroveError" =some (some (.ref cG))) (mL:PySem.W.nsIn K bn "LENGTHS" =some (some (.ref dL))) (nL:K.lookup dL=some oL) (hL:Oj l.prog w oL F0) (sL:(dL==sysModules)=false) (eLET:sLET=LN) (eSIG:sSIG=wm) (eFIG:sFIG=xZ) (zc:Ls K cC cD [f14,f15,f16,f17,f18,f19,f20,f21,f22]=true) (ze:Lf K cD cG=true) (zb:PX K=true):
  ∃fd:bb,(∀(s:ag) (v:ae),BindsTo s fd ⟨[v],[]⟩ [("script",v)])/\∀base:Heap,K.In base->base.Ns bn mg->FnOk l.prog w K mg base Ib 26 fa fd ["script"] (Hm K yt):=by
 have e:=hfa.symm.trans (PySem.W.mg_of X G u45.1);cases e;have B:=Of X G zb;have x0:=PySem.W.mg_of X G m0;have x1:=PySem.W.mg_of X G m1;have x2:=PySem.W.mg_of X G m2;have x3:=PySem.W.mg_of X G m3;have x4:=PySem.W.mg_of X G m4;have x5:=PySem.W.mg_of X G m5;have x6:=PySem.W.mg_of X G m6;have x7:=PySem.W.mg_of X G m7;have x8:=PySem.W.mg_of X G m8;have x9:=PySem.W.mg_of X G m9;have x10:=PySem.W.mg_of X G m10;have x11:=PySem.W.mg_of X G m11;obtain⟨_,_,kV,dc,pm,an,cd,ct,_,lL,qL,kL⟩:=u45.2;have F45:=DX lL qL kL;refine⟨PySem.W.fnOf "law" "law" (jM zH) (iB zH) (aJ zH) .none kV dc pm an cd ct,λs v=> .of_eq rfl,λbase _ _=> ?_⟩;have c:OI l.prog w K mg base h:=⟨X,G⟩;have D:=FZ hL nL sL;have xL:=PySem.W.mg_of X G mL;cases eLET;cases eSIG;cases eFIG;have hC:=PySem.W.mg_of X G cg;have hD:=PySem.W.mg_of X G dg;obtain⟨cl,n1,n2,xq,hmk,hfn⟩:=Lr zc;obtain⟨xg,xu,xk,kD,kVE⟩:=Ld ze;have hV:=PySem.W.mg_none_of X G zv;obtain⟨d1,F1,z1⟩:=u1.go c ["thing"];obtain⟨d2,F2,z2⟩:=u2.go c ["thing"];obtain⟨d3,F3,z3⟩:=u3.go c ["thing"];obtain⟨d4,F4,z4⟩:=u4.go c ["pattern"];obtain⟨d5,F5,z5⟩:=u5.go c ["thing"];obtain⟨d6,F6,z6⟩:=u6.go c ["thing"];obtain⟨d7,F7,z7⟩:=u7.go c ["thing"];obtain⟨d8,F8,z8⟩:=u8.go c ["thing"];obtain⟨d9,F9,z9⟩:=u9.go c ["thing"];obtain⟨d10,F10,z10⟩:=u10.go c ["pattern"];obtain⟨d11,F11,z11⟩:=u11.go c ["pattern"];obtain⟨d12,F12,z12⟩:=u12.go c ["signs"];obtain⟨d13,F13,z13⟩:=u13.go c ["pattern"];obtain⟨d14,F14,b14,m14,z14⟩:=u14.go c ["self", "text"] ⟨cl,hfn⟩;obtain⟨d15,F15,b15,m15,z15⟩:=u15.go c ["self", "piece"] ⟨cl,hfn⟩;obtain⟨d16,F16,b16,m16,z16⟩:=u16.go c ["self", "piece"] ⟨cl,hfn⟩;obtain⟨d17,F17,b17,m17,z17⟩:=u17.go c ["self", "among"] ⟨cl,hfn⟩;obtain⟨d18,F18,b18,m18,z18⟩:=u18.go c ["self"] ⟨cl,hfn⟩;obtain⟨d19,F19,b19,m19,z19⟩:=u19.go c ["self", "depth"] ⟨cl,hfn⟩;obtain⟨d20,F20,b20,m20,z20⟩:=u20.go c ["self", "depth"] ⟨cl,hfn⟩;obtain⟨d21,F21,b21,m21,z21⟩:=u21.go c ["self", "depth"] ⟨cl,hfn⟩;obtain⟨d22,F22,b22,m22,z22⟩:=u22.go c ["self", "depth"] ⟨cl,hfn⟩;obtain⟨d23,F23,z23⟩:=u23.goX c cD ["thing"];obtain⟨d24,F24,z24⟩:=u24.go c ["cell"];obtain⟨d25,F25,z25⟩:=u25.go c ["pool", "base"];obtain⟨d26,F26,z26⟩:=u26.go c ["pool", "some"];obtain⟨d27,F27,z27⟩:=u27.go c [];obtain⟨d28,F28,z28⟩:=u28.go c ["pool"];obtain⟨d29,F29,z29⟩:=u29.go c ["pool"];obtain⟨d30,F30,z30⟩:=u30.go c ["pool", "deep", "room", "blank"];obtain⟨d31,F31,z31⟩:=u31.go c ["pattern"];obtain⟨d32,F32,z32⟩:=u32.go c ["signs"];obtain⟨d33,F33,z33⟩:=u33.go c ["pattern"];obtain⟨d34,F34,z34⟩:=u34.go c ["cell"];obtain⟨d35,F35,z35⟩:=u35.go c ["text", "at", "signs"];obtain⟨d36,F36,z36⟩:=u36.go c ["text", "at", "deep"];obtain⟨d37,F37,z37⟩:=u37.go c ["text", "at"];obtain⟨d38,F38,z38⟩:=u38.go c ["text", "at", "deep", "ahead"];obtain⟨d39,F39,z39⟩:=u39.go c ["text", "at", "deep"];obtain⟨d40,F40,z40⟩:=u40.go c ["pattern"];obtain⟨d41,F41,z41⟩:=u41.go c ["pattern"];obtain⟨d42,F42,z42⟩:=u42.go c ["text"];obtain⟨d43,F43,z43⟩:=u43.go c ["text", "pool"];obtain⟨d44,F44,z44⟩:=u44.go c ["text"];have mk:Mk K cC f14:=⟨hmk.1,u14.1,hfn f14 (by simp),hmk.2⟩;have C1:=z1 1 t7 (Cr F1 B);have C2:=z2 1 wR (Fy x1 F2 B);have C3:=z3 1 wQ (Fx x0 x2 F3 B);have C4:=z4 1 nH (CJ F4 B);have C4v:=z4 1 qE (Ad F4 B);have C5:=z5 2 qD (Ac F5 B C2);have C6:=z6 1 wY (FG D xL F6 B);have C7:=z7 3 wW (FE x5 x6 x7 F7 B C6 C5 C3 C1);have C8:=z8 4 wX (FF x3 x4 F8 B C7 C4v);have C11:=z11 2 ub (Cy F11 B C4);have C10:=rc z10 (λn=>n+1) iu (λas G Q h=>by obtain⟨_,_,hd,_⟩:=h;ac_nf) λn ih=>CT (k:=n+1) (by ac_nf) F10 B C4 ih;have C9:=z9 23 Bt (JC (k:=22) (by decide) F9 B C8 C11 (C10 21));have C12:=z12 1 zN (MK x10 F12 B);have C13:=rc z13 (λn=>n+1) mO (λas G Q h=>by obtain⟨p,_,hd,_⟩:=h;have:=ij p;ac_nf) λn ih=>MV (k:=n+1) (by ac_nf) F13 B C4 C12 ih;have oki:jd l.prog w K mg base 1 f14 _ ["self", "text"] (wZ cC):=FH cl n1 n2 F14 B;have M15:=z15 1 (vi cC) (JD cl n1 n2 F15 B);have M16:kY l.prog w K mg base cD cC 2 "read_piece" f16 _ ["self", "piece"] (lO cC):=⟨Cv cl n1 n2 xq hD F16 B M15,b16,cl,m16⟩;have M17:=z17 1 (pS cC) (Ct cl n1 n2 F17 B);have M18:kY l.prog w K mg base cD cC 3 "read_signs" f18 _ ["self"] (Iz cC):=⟨ML cl n1 n2 xq hD F18 B M15 M16,b18,cl,m18⟩;have M22:∀n:Nat,kY l.prog w K mg base cD cC (2*n+2) "read_make" f22 d22 ["self", "depth"] (wV cC n):=by
  intro n;induction n with
  |zero=>exact⟨Ah λas G Q EX h=>by obtain⟨_,_,_,d,_,_,hd,_⟩:=h;ac_nf,b22,cl,m22⟩
  |succ n ih=>exact⟨MW (k:=2*n+3) (by ac_nf) x0 x9 cl n1 n2 xq hD F22 B M18 ⟨Ab (k:=2*n+2) (by ac_nf) cl n1 n2 xq hD F19 B M15 M16 ih,b19,cl,m19⟩ ⟨FI (k:=2*n+2) (by ac_nf) x0 cl n1 n2 xq hD F20 B M17 M16 ih,b20,cl,m20⟩ ⟨Cu (k:=2*n+2) (by ac_nf) x9 cl n1 n2 xq hD F21 B M17 M16 ih,b21,cl,m21⟩ ⟨ih.ok.mono (by ac_nf),b22,cl,m22⟩,b22,cl,m22⟩
 have C23:=z23 24 IA (MN (k:=23) (by decide) x8 x3 xq hD F23 B mk oki b14 hC ⟨(M22 10).ok.mono (by decide),b22,cl,m22⟩ C9 (z13 _ _ ((C13 9).ok.mono (by decide))));have C24:=z24 1 wT (FA F24 B);have C25:=z25 1 lh (FD F25 B);have C26:=z26 2 mM (FB F26 B C25);have C27:=z27 1 yu (JK F27 B);have C28:=z28 3 t9 (Fz F28 B C25 C27 C26);have C29:=z29 3 pT (Cz F29 B C25 C26);have C30:=rc z30 (λn=>n+3) qF (λas G Q h=>by obtain⟨_,_,d,_,_,_,hd,_⟩:=h;ac_nf) λn ih=>JJ (k:=n+3) (by ac_nf) F30 B C25 C26 C28 C29 ih;have C31:=rc z31 (λn=>n+1) jg (λas G Q h=>by obtain⟨p,_,hd,_⟩:=h;have:=ij p;ac_nf) λn ih=>CQ (k:=n+1) (by ac_nf) F31 B ih;have C32:=z32 1 zN (Jx F32 B);have C33:=rc z33 (λn=>n+1) mO (λas G Q h=>by obtain⟨p,_,hd,_⟩:=h;have:=ij p;ac_nf) λn ih=>MJ (k:=n+1) (by ac_nf) F33 B C32 ih;have C30x:=z30 12 (qF 9) ((C30 9).ok.mono (by decide));have C31x:=z31 12 (jg 9) ((C31 9).ok.mono (by decide));have C33x:=z33 12 (mO 9) ((C33 9).ok.mono (by decide));have C34:=z34 24 pU ((CH (k:=12) (by decide) F34 B C24 C25 C26 C29 C30x C33x C31x).mono (by decide));have C35:=z35 1 Br (Jv F35 B);have C37:=z37 1 Bs (Jw F37 B);have C39:∀n:Nat,cQ l.prog w K mg base (2*n+1) "_law_read" f39 d39 ["text", "at", "deep"] (wS n):=by
  intro n;induction n with
  |zero=>exact z39 _ _ (qQ λas G Q h=>by obtain⟨_,_,_,_,hd,_⟩:=h;ac_nf)
  |succ n ih=>exact z39 _ _ (MU (k:=2*n+1) F39 B C37 C35 (z36 _ _ (Cw (k:=2*n+1) (by ac_nf) F36 B ih)) (z38 _ _ (FC (k:=2*n+1) F38 B ih)))
 have C40:=rc z40 (λn=>n+1) iu (λas G Q h=>by obtain⟨_,_,hd,_⟩:=h;ac_nf) λn ih=>Jy (k:=n+1) (by ac_nf) F40 B ih;have C41:∀n:Nat,n<=11->cQ l.prog w K mg base (n+11) "_law_good" f41 d41 ["pattern"] (oH n):=by
  intro n;induction n with
  |zero=>exact λ_=>z41 _ _ (qQ λas G Q h=>by obtain⟨_,_,_,hd,_⟩:=h;ac_nf)
  |succ n ih=>exact λhn=>z41 _ _ (FJ (k:=n+11) (by ac_nf) F41 B C27 (z40 _ _ ((C40 10).ok.mono (by ac_nf))) (by ac_nf) (ih (by ac_nf)))
 have C39x:=z39 24 (wS 10) ((C39 10).ok.mono (by decide));have C31y:=z31 24 (jg 9) ((C31 9).ok.mono (by decide));have C41x:=z41 24 (oH 10) ((C41 10 (by decide)).ok.mono (by decide));have C33y:=z33 24 (mO 9) ((C33 9).ok.mono (by decide));have C42:=z42 25 Bv (JH (k:=24) F42 B C39x C31y C41x C33y);have C43:=z43 25 t8 ((Cs F43 B C25 C26).mono (by decide));have C44:=z44 25 uc (CL (k:=24) xq xg xu xk hD x11 hV kD kVE F44 B C23);have C34x:=z34 25 pU (C34.ok.mono (by decide));have C33z:=z33 25 (mO 9) ((C33 9).ok.mono (by decide));exact Jz (k:=25) (by decide) F45 B C34x C33z C43 C44 C42
theorem NU{K:PySem.W.Frag}{H:Hp}{a:Addr}{xs:List V}(h:SqL K H a xs)(o:He H):FzL K H a xs:=by
 rcases h with(h|⟨ob,h⟩)|h
 ·rcases o a with e|⟨ob,ys,e⟩<;>(rw[e]at h;cases h)
 ·exact .inl ⟨ob,h⟩
 ·exact .inr h
theorem walk{l:PySem.W.OpenLaw}{q:aG}{loose:List Str}{XP:(Str->Option ae)->Heap->Prop}{YP:aX->Heap->Prop}{d:DefRec}{K:Params->PySem.W.Frag}(hn:l.most=some 63)(hdf:d.params.defaults=[])
  (hY:∀(w:aX) (h:Heap),YP w h->(K w.params).In h)
  (F:∀(w:aX) (mg:Str->Option ae) (fa:Addr) (h:Heap),(K w.params).In h->h.Ns bn mg->mg d.name=some (.ref fa)->
   ∃fd:bb,(∀(s:ag) (u:ae),BindsTo s fd ⟨[u],[]⟩ [("script",u)])/\∀base:Heap,(K w.params).In base->base.Ns bn mg->FnOk l.prog w (K w.params) mg base Ib 26 fa fd ["script"] (Hm (K w.params) yt)):
  PySem.W.WalkO q loose XP YP l.row.toRowW d [] (λf vs=>PySem.call f vs):=
 L2.walk_of (n:=63) (k:=26) (x:= "script") (CX:=λ_=>Ib) (sp:=λw=>Hm (K w.params) yt) hn (by decide) hdf ⟨rfl,by decide,by decide⟩ hY F
  (λ_ H a ns hl ho hS=>⟨[.ro (ns.map PV.int)],λ_=>none,λp _=>p= .bl true,.cons ⟨a,_,rfl,NU hS ho,ux ns⟩ .nil,λ_ _ z=>(nomatch z),⟨ns,rfl,hl,λ_=>rfl⟩,λp G v H' e d _ _=>by subst e;exact d⟩) λ_ _ _ _ _ z=>z
end T89
open PySem PySem.W PyProof.Rows
set_option maxRecDepth 100000 in
theorem PySem.Challenge.cw_tastegrove_k89_whole_spoilt_texts_holds : PySem.Challenge.rw_tastegrove_k89_whole_spoilt_texts.Holds := by
 refine T89.tp ⟨⟨⟨T89.h1,T89.h2⟩,T89.h3,T89.h4⟩,?_⟩;k_fill;refine T89.walk (l:=PySem.Challenge.rw_tastegrove_k89_whole_spoilt_texts) rfl rfl (fun w h Y=>PySem.W.kIn_of Y) ?F;case F=>
  intro w mg fa h KX G hmg
  refine' T89.all_mk KX G hmg ?cg ?dg ?zv ?u1 ?u2 ?u3 ?u4 ?u5 ?u6 ?u7 ?u8 ?u9 ?u10 ?u11 ?u12 ?u13 ?u14 ?u15 ?u16 ?u17 ?u18 ?u19 ?u20 ?u21 ?u22 ?u23 ?u24 ?u25 ?u26 ?u27 ?u28 ?u29 ?u30 ?u31 ?u32 ?u33 ?u34 ?u35 ?u36 ?u37 ?u38 ?u39 ?u40 ?u41 ?u42 ?u43 ?u44 ?u45 ?m0 ?m1 ?m2 ?m3 ?m4 ?m5 ?m6 ?m7 ?m8 ?m9 ?m10 ?m11 ?mL ?nL ?hL ?sL ?eLET ?eSIG ?eFIG ?zc ?ze ?zb
  (case cg=>k_is);(case dg=>k_is);(case zv=>k_is)
  (case m0=>k_is)
  (case m1=>k_is)
  (case m2=>k_is)
  (case m3=>k_is)
  (case m4=>k_is)
  (case m5=>k_is)
  (case m6=>k_is)
  (case m7=>k_is)
  (case m8=>k_is)
  (case m9=>k_is)
  (case m10=>k_is)
  (case m11=>k_is)
  case u1=>exact⟨by k_is,_,_,_,_,_,_,_,_,_,by k_is,by k_is,by k_is⟩
  case u2=>exact⟨by k_is,_,_,_,_,_,_,_,_,_,by k_is,by k_is,by k_is⟩
  case u3=>exact⟨by k_is,_,_,_,_,_,_,_,_,_,by k_is,by k_is,by k_is⟩
  case u4=>exact⟨by k_is,_,_,_,_,_,_,_,_,_,by k_is,by k_is,by k_is⟩
  case u5=>exact⟨by k_is,_,_,_,_,_,_,_,_,_,by k_is,by k_is,by k_is⟩
  case u6=>exact⟨by k_is,_,_,_,_,_,_,_,_,_,by k_is,by k_is,by k_is⟩
  case u7=>exact⟨by k_is,_,_,_,_,_,_,_,_,_,by k_is,by k_is,by k_is⟩
  case u8=>exact⟨by k_is,_,_,_,_,_,_,_,_,_,by k_is,by k_is,by k_is⟩
  case u9=>exact⟨by k_is,_,_,_,_,_,_,_,_,_,by k_is,by k_is,by k_is⟩
  case u10=>exact⟨by k_is,_,_,_,_,_,_,_,_,_,by k_is,by k_is,by k_is⟩
  case u11=>exact⟨by k_is,_,_,_,_,_,_,_,_,_,by k_is,by k_is,by k_is⟩
  case u12=>exact⟨by k_is,_,_,_,_,_,_,_,_,_,by k_is,by k_is,by k_is⟩
  case u13=>exact⟨by k_is,_,_,_,_,_,_,_,_,_,by k_is,by k_is,by k_is⟩
  case u14=>exact⟨by k_is,_,_,_,_,_,_,_,_,_,by k_is,by k_is,by k_is⟩
  case u15=>exact⟨by k_is,_,_,_,_,_,_,_,_,_,by k_is,by k_is,by k_is⟩
  case u16=>exact⟨by k_is,_,_,_,_,_,_,_,_,_,by k_is,by k_is,by k_is⟩
  case u17=>exact⟨by k_is,_,_,_,_,_,_,_,_,_,by k_is,by k_is,by k_is⟩
  case u18=>exact⟨by k_is,_,_,_,_,_,_,_,_,_,by k_is,by k_is,by k_is⟩
  case u19=>exact⟨by k_is,_,_,_,_,_,_,_,_,_,by k_is,by k_is,by k_is⟩
  case u20=>exact⟨by k_is,_,_,_,_,_,_,_,_,_,by k_is,by k_is,by k_is⟩
  case u21=>exact⟨by k_is,_,_,_,_,_,_,_,_,_,by k_is,by k_is,by k_is⟩
  case u22=>exact⟨by k_is,_,_,_,_,_,_,_,_,_,by k_is,by k_is,by k_is⟩
  case u23=>exact⟨by k_is,_,_,_,_,_,_,_,_,_,by k_is,by k_is,by k_is⟩
  case u24=>exact⟨by k_is,_,_,_,_,_,_,_,_,_,by k_is,by k_is,by k_is⟩
  case u25=>exact⟨by k_is,_,_,_,_,_,_,_,_,_,by k_is,by k_is,by k_is⟩
  case u26=>exact⟨by k_is,_,_,_,_,_,_,_,_,_,by k_is,by k_is,by k_is⟩
  case u27=>exact⟨by k_is,_,_,_,_,_,_,_,_,_,by k_is,by k_is,by k_is⟩
  case u28=>exact⟨by k_is,_,_,_,_,_,_,_,_,_,by k_is,by k_is,by k_is⟩
  case u29=>exact⟨by k_is,_,_,_,_,_,_,_,_,_,by k_is,by k_is,by k_is⟩
  case u30=>exact⟨by k_is,_,_,_,_,_,_,_,_,_,by k_is,by k_is,by k_is⟩
  case u31=>exact⟨by k_is,_,_,_,_,_,_,_,_,_,by k_is,by k_is,by k_is⟩
  case u32=>exact⟨by k_is,_,_,_,_,_,_,_,_,_,by k_is,by k_is,by k_is⟩
  case u33=>exact⟨by k_is,_,_,_,_,_,_,_,_,_,by k_is,by k_is,by k_is⟩
  case u34=>exact⟨by k_is,_,_,_,_,_,_,_,_,_,by k_is,by k_is,by k_is⟩
  case u35=>exact⟨by k_is,_,_,_,_,_,_,_,_,_,by k_is,by k_is,by k_is⟩
  case u36=>exact⟨by k_is,_,_,_,_,_,_,_,_,_,by k_is,by k_is,by k_is⟩
  case u37=>exact⟨by k_is,_,_,_,_,_,_,_,_,_,by k_is,by k_is,by k_is⟩
  case u38=>exact⟨by k_is,_,_,_,_,_,_,_,_,_,by k_is,by k_is,by k_is⟩
  case u39=>exact⟨by k_is,_,_,_,_,_,_,_,_,_,by k_is,by k_is,by k_is⟩
  case u40=>exact⟨by k_is,_,_,_,_,_,_,_,_,_,by k_is,by k_is,by k_is⟩
  case u41=>exact⟨by k_is,_,_,_,_,_,_,_,_,_,by k_is,by k_is,by k_is⟩
  case u42=>exact⟨by k_is,_,_,_,_,_,_,_,_,_,by k_is,by k_is,by k_is⟩
  case u43=>exact⟨by k_is,_,_,_,_,_,_,_,_,_,by k_is,by k_is,by k_is⟩
  case u44=>exact⟨by k_is,_,_,_,_,_,_,_,_,_,by k_is,by k_is,by k_is⟩
  case u45=>exact⟨by k_is,_,_,_,_,_,_,_,_,_,by k_is,by k_is,by k_is⟩
  (case mL=>k_is);(case nL=>k_is);(case sL=>kernel_rfl);(case eLET=>kernel_rfl);(case eSIG=>kernel_rfl);(case eFIG=>kernel_rfl)
  (case zc=>kernel_rfl)
  (case ze=>kernel_rfl)
  (case zb=>kernel_rfl)
  case hL=>
   refine⟨⟨rfl,rfl,rfl⟩,_,_,rfl,?_,?_⟩
   ·intro e he
    simp only[List.mem_toArray,List.mem_cons,List.not_mem_nil,or_false]at he
    rcases he with rfl|rfl|rfl|rfl|rfl|rfl|rfl|rfl<;>exact L3.key_ok _ _
   ·exact⟨⟨_,rfl⟩,⟨_,rfl⟩,⟨_,rfl⟩,⟨_,rfl⟩,⟨_,rfl⟩,⟨_,rfl⟩,⟨_,rfl⟩,⟨_,rfl⟩,⟨_,rfl⟩,⟨_,rfl⟩,⟨_,rfl⟩,⟨_,rfl⟩,⟨_,rfl⟩,⟨_,rfl⟩,⟨_,rfl⟩,⟨_,rfl⟩,trivial⟩
