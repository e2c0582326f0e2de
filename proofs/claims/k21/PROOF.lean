import PyProof.Rows.All
import Wide.All
import OpenK.AllK
import Wide.FinOn
import Lean
import PyProof.EqAt
import PyProof.EqKinds
import PyProof.TupleCall
import KE.KEqDict
import PySem.Challenge.RW_chiefway_k21_ways_that_part
set_option autoImplicit true
set_option relaxedAutoImplicit true
set_option Elab.async false
set_option linter.all false
set_option maxRecDepth 100000
open PySem renaming wpAny_bind → TF, Shared → TH, wpAny_pure → TJ, starEach → TL, Program → TN, sizeLine → TQ, compareOp → TY, Around → TZ, backTo → UD, bootBuiltins → UM, assignEach → UO, mainGlobals → UP, binaryOp → UQ, rawInt → UY, Paired → U2, pyNext → U3, swapsWith → U5, wpAny_field → U6, wpAny_mono → U7, assign → VA, sysModules → VC, wpAny_newObj_type → VE, wpAny_holding → VG, FuncData → VH, wpAny_loadPart' → VJ, wpAny_call_entry → VL, Builtin → VP, wpAny_truthy_bool → VR, codeAny → VU, relabel → VW, tupleKind → VY, wpAny_setField_rec → V5, IsEnum → V7, NameKind → V9, IsPart → WA, getItem → WB, wpAny_callSpecial?_slot → WC, sliceBounds → WF, foldedSetIterable → WK, Keyword → WL, DictEntry → WN, holding → WR, behindInMarks → WS, sizeLine_eq → WT, plainId_quiet → WW, wpAny_passesOwn → W1, valueAt → W4, callerA → W5, wpAny_dictEntries → W6, swapsWithSole → W7, swappedStores → W8, PassesOwn → W9, lastMarks → XA, cellsFrom → XB, attributeBase → XG, wpAny_dictEpoch → XN, wpAny_attempt → XO, setField → XQ, firstArgMember → XR, wpAny_letGo → XS, codeAny_builtin → XT, wpAny_updateSeq → XW, wpAny_rule → XX, wpAny_pyIter_tuple → X4, mem_of_lookup → YA, typeIs_int → YC, tupleKind_room_in1 → YD, wpAny_setField → YI, updateSeq → YM, wpAny_execs_nil → YV, wpAny_standAt → YW, letOwnedTupleGo → YX, codeAny_mono → Y0, richCompare → Y2, wpAny_typeOf → Y5, subscripted → Y7, keywordEach → Y8, wpAny_typeNameOfWhole_keyiter → ZH, wpAny_typeNameOf_keyiter → ZI, wpAny_fieldsOf → ZJ, wpAny_of_eq → ZL, wpAny_typeNameOfWhole_itemiter → ZO, wpAny_typeNameOf_itemiter → ZP, wpAny_newTuple → ZQ, wpAny_seqItems → ZV, wpAny_tryCatch → Z2, atKey_none_of_get → Z6, wpAny_Call_Name_kw → zac, wpAny_forIn_list → zag, richCompare_meets_room → zak, noFill_tuple_add → zam, wpAny_notOrdered_dict → zaz, wpAny_isInstance → zaB, wpAny_isOneOf_itemiter → zaC
open PySem.W renaming Frag → TK, kia_one → VO, fnOf → VV, keepIn → WU, nsIn → WY, codeIn → XD, kitOne → X6, kitx_dict → YZ, kitAny → Z3, mg_of → Z5, instObj → Z8, methodObj → Z9, OpenLaw → zax
open Option renaming bind_some → TR, map_some → TU, bind → ZX
open PySem.Value renaming ref → TV, none → UG, bool → V8, type → WQ, notImplemented → zal
open PySem.Heap renaming lt_size → TX, get?_push_of_some → T4, get?_push_size → UC, SameBut → UI, get?_update_other → WE, get?_update_self → WM, ExtBut → YJ, size_push → YK
open List renaming map_cons → T1, length_map → T2, size_toArray → T6, getElem?_map → UA, replicate → UF, mem_of_getElem? → UJ, length_cons → UK, mem_cons_of_mem → UN, range → UU, mem_cons_self → UW, mem_cons → U0, not_mem_nil → U1, getElem?_eq_getElem → U8, length_append → VB, map_map → VM, any_cons → VQ, map_append → VX, mem_append_right → VZ, length → V0, length_nil → V1, find?_cons → V2, replicate_succ → WV, take_add_one → WX, map_nil → W2, flatten_cons → W3, getElem?_append_left → XC, zip_cons_cons → XE, all_cons → XF, getD → XI, drop_eq_getElem_cons → XY, eq_of_mem_replicate → X1, take_length → X2, getElem_inj → X3, append_nil → X8, length_take → X9, all_eq_true → YF, toArray → YG, lookup_cons → YO, mem_append_left → YT, getElem?_set_ne → YU, getElem?_append_right → Y1, foldl_cons → ZA, ext_getElem → ZE, foldl_append → ZS, forall_mem_cons → Z4, filterMap_cons → zaa, of_mem_zip → zad, getElem?_replicate → zae, zip_nil_left → zah, zip_nil_right → zai, length_drop → zar, length_singleton → zat, filter_cons → zau, getElem_mem → zaE
open Bool renaming false_ne_true → T3, and_eq_true → UR, false_eq_true → WO, eq_iff_iff → X5, not_eq_true → YQ, beq_eq_decide_eq → zay
open Nat renaming le_refl → T5, ne_of_lt → UE, le_trans → UV, ne_of_gt → UX, zero_le → UZ, lt_of_lt_of_le → U9, lt_irrefl → VN, lt_trans → XH, zero_add → YR, le_of_lt → YS, lt_of_le_of_lt → ZD, lt_succ_self → zaF, le_of_ble_eq_true → zaG
open Int renaming emod_nonneg → T7, emod_lt_of_pos → T8, ne_of_gt → UT, toNat_natCast → V4, le_of_lt → WI, add_emod → ZY, mul_emod → ZZ, emod_emod_of_dvd → Z0, dvd_refl → Z1, dvd_self_sub_emod → Z7
open Sum renaming inl → T9, inr → WZ
open PyProof.Rows renaming IntsAre → UB, seqObj → US, envOfC → U4, kindOf → VI, AllBare → WJ, callWith_type1 → YY, slot_tuple_getitem → Y4
open Ne renaming symm → UH
open Option.some renaming inj → UL
open PySem.Obj renaming mapSeq → VD, data_mapFields → ZK
open Array renaming length_toList → VF, getD → XM, getElem?_toList → YN, getElem?_eq_getElem → zaA
open False renaming elim → VS
open True renaming intro → VT
open Or renaming inl → V3, inr → WG
open Classical renaming propDecidable → V6
open PySem.Str renaming ofString → WD
open PySem.Heap.SameBut renaming update → WH
open PySem.NameKind renaming free → WP
open PySem.Paired renaming length → W0
open ForInStep renaming yield → XJ
open PySem.Around renaming under_plainId → XU
open ToString renaming toString → XZ
open PySem.F renaming plain_max_loop → X0, plain_extend_loop → YL, slot_dict_keyiterator_next → ZG, slot_dict_itemiterator_next → ZN, slot_tuple_iterator_next → ZU, slot_enumerate_next → ZW, slot_tuple_add → zan, entry_tuple_add → zao, args_tuple_add_2 → zap, slot_dict_get → zav, plainAttrs_dict → zaw, entry_dict_keyiterator_next → zaH, args_dict_keyiterator_next_1 → zaI, entry_dict_itemiterator_next → zaJ, args_dict_itemiterator_next_1 → zaK, slot_dict_items_iter → zaL, entry_tuple_iterator_next → zaN, args_tuple_iterator_next_1 → zaO, slot_dict_setdefault → zaS
open PySem.Calls renaming spliced_cons → X7, callWith_builtin → Y9, spliced_nil → zab, evalArgs_plain → zas
open PySem.SeqAt renaming EqAt → YB
open List.Pairwise renaming nil → YE
open PySem.Builtin.Dict_items renaming ownsTuple → YH, pairFromOwner → ZM, ownedTupleIsFree → ZR, ownedTupleFields → zaM
open PySem.Builtin.Slice renaming slicePlaces → Y3, sliceAdjust → zaq
open PySem.Builtin.Tuple renaming tupleExact → Y6, tupleCompareSizes → zaj
open PySem.Builtin.List renaming listTooLong → ZC, listExtendWith → zaD
open PySem.Builtin.Dict renaming showsAll → ZF
open PySem.Builtin.SmallTypes renaming nextOf → ZT, ownedTupleIsFree → zaP, ownedTupleHandOut → zaQ
open PySem.AutoSeq1 renaming sub_tuple_tuple → zaf
open PySem.Builtin.Builtins renaming bindParams → zaR
noncomputable section
namespace L2
open PySem PySem.Spec PyProof.Rows
abbrev Key:=Sum Int Str
def oT:Key->Value->Bool
 | .inl k,v=>Value.isInt k v
 | .inr x,v=>Value.isStrOf x v
def QT(w:World):Key->Int
 | .inl k=>hashInt k
 | .inr x=>hashStr w x
theorem bF:∀ {k:Key} {v:Value},oT k v=true->(∃i t,k=T9 i/\v=Value.int i t)\/(∃x t,k=WZ x/\v=Value.str x t)
 | .inl i,v,h=>by
  obtain⟨t,e⟩:=Value.isInt_shape (k:=i) (v:=v) h;exact .inl ⟨i,t,rfl,e⟩
 | .inr x,v,h=>by
  obtain⟨t,e⟩:=Value.isStrOf_shape (x:=x) (v:=v) h;exact .inr ⟨x,t,rfl,e⟩
theorem yX(i:Int)(t:Tok):oT (.inl i) (.int i t)=true:=by simp[oT,Value.isInt]
theorem zD(x:Str)(t:Tok):oT (.inr x) (.str x t)=true:=by simp[oT,Value.isStrOf]
theorem LJ(a b:Int):decide ((T9 a:Key)=T9 b)=(a == b):=by
 by_cases e:a=b
 ·subst e;simp
 ·have h:¬ (T9 a:Key)=T9 b:=λq=>e (Sum.inl.inj q)
  rw[decide_eq_false h];exact(beq_eq_false_iff_ne.mpr e).symm
theorem KB(a b:Str):decide ((WZ a:Key)=WZ b)=decide (a=b):=by
 by_cases e:a=b
 ·subst e;simp
 ·have h:¬ (WZ a:Key)=WZ b:=λq=>e (Sum.inr.inj q)
  rw[decide_eq_false h,decide_eq_false e]
theorem JN(a:Int)(b:Str):decide ((T9 a:Key)=WZ b)=false:=decide_eq_false (λq=>nomatch q)
theorem KW(a:Str)(b:Int):decide ((WZ a:Key)=T9 b)=false:=decide_eq_false (λq=>nomatch q)
def a8(prog:TN)(w:World):PySem.KeyKind prog w Key where
 is:=oT
 hash:=QT w
 inj:=λv a b F B=>by
  rcases bF F with⟨i,t,rfl,rfl⟩|⟨x,t,rfl,rfl⟩
  ·rcases bF B with⟨j,u,rfl,e⟩|⟨y,u,rfl,e⟩
   ·injection e with e1 _;rw[e1]
   ·exact nomatch e
  ·rcases bF B with⟨j,u,rfl,e⟩|⟨y,u,rfl,e⟩
   ·exact nomatch e
   ·injection e with e1 _;rw[e1]
 byValue:=λk v h=>by
  rcases bF h with⟨i,t,rfl,rfl⟩|⟨x,t,rfl,rfl⟩ <;> rfl
 pyHash:=λq h=>by
  rcases bF q with⟨i,t,rfl,rfl⟩|⟨x,t,rfl,rfl⟩
  ·exact wpAny_pyHash_int h
  ·exact wpAny_pyHash_str h
 eqBool:=λG q h=>by
  rcases bF G with⟨i,t,rfl,rfl⟩|⟨x,t,rfl,rfl⟩
  ·rcases bF q with⟨j,u,rfl,rfl⟩|⟨y,u,rfl,rfl⟩
   ·rw[LJ]at h;exact wpAny_eqBool_int h
   ·rw[JN]at h;exact SeqAt.EqAt.int_str i t y u _ _ _ _ h
  ·rcases bF q with⟨j,u,rfl,rfl⟩|⟨y,u,rfl,rfl⟩
   ·rw[KW]at h;exact SeqAt.EqAt.str_int x t j u _ _ _ _ h
   ·rw[KB]at h;exact wpAny_eqBool_str h
 «strs»:=λk x t v h=>by
  rcases bF h with⟨i,u,rfl,e⟩|⟨y,u,rfl,e⟩
  ·exact nomatch e
  ·injection e with e1 _
   subst e1;cases v <;> rfl
theorem q0(prog:TN)(w:World)(i:Int)(t:Tok):(a8 prog w).is (.inl i) (.int i t)=true:=yX i t
theorem qY(prog:TN)(w:World)(x:Str)(t:Tok):(a8 prog w).is (.inr x) (.str x t)=true:=zD x t
inductive V where
 | non|bl (b:Bool)|int (i:Int)|str (x:Str)|byt (b:Array UInt8)|flt (b:UInt64)|ref (a:Addr)|ty (n:String)
 deriving DecidableEq
noncomputable def RelV:V->Value->Prop
 | .non,u=>u=UG
 | .bl b,u=>u=V8 b
 | .int i,u=>∃t,u=Value.int i t
 | .str x,u=>∃t,u=Value.str x t
 | .byt b,u=>∃t,u=Value.bytes b t
 | .flt b,u=>∃t,u=Value.float b t
 | .ref a,u=>u=TV a
 | .ty n,u=>u=WQ n
abbrev Vals:List V->List Value->Prop:=U2 RelV
theorem Vals.length(r:Vals xs us):xs.length=us.length:=W0 r
theorem Vals.get:∀ {xs:List V} {us:List Value} {i:Nat} {x:V},Vals xs us->xs[i]?=some x->∃u,us[i]?=some u/\RelV x u
 | _,_,_,_,.nil,e=>by simp at e
 | _,_,0,_,.cons r _,e=>by simp at e;subst e;exact⟨_,rfl,r⟩
 | _,_,i+1,x,.cons _ t,e=>by
  obtain⟨u,h1,h2⟩:=Vals.get (i:=i) (x:=x) t (by simpa using e);exact⟨u,by simpa using h1,h2⟩
theorem Vals.set(r:RelV x u):∀ {xs:List V} {us:List Value} (i:Nat),Vals xs us->Vals (xs.set i x) (us.set i u)
 | _,_,_,.nil=>.nil
 | _,_,0,.cons _ t=>.cons r t
 | _,_,i+1,.cons q t=>.cons q (Vals.set r i t)
theorem Vals.append:∀ {xs ys:List V} {us ws:List Value},Vals xs us->Vals ys ws->Vals (xs++ys) (us++ws)
 | _,_,_,_,.nil,s=>s
 | _,_,_,_,.cons r t,s=>.cons r (Vals.append t s)
theorem Vals.take:∀ {xs:List V} {us:List Value} (n:Nat),Vals xs us->Vals (xs.take n) (us.take n)
 | _,_,0,_=>.nil
 | _,_,_+1,.nil=>.nil
 | _,_,n+1,.cons r t=>.cons r (Vals.take n t)
theorem Vals.drop:∀ {xs:List V} {us:List Value} (n:Nat),Vals xs us->Vals (xs.drop n) (us.drop n)
 | _,_,0,r=>r
 | _,_,_+1,.nil=>.nil
 | _,_,n+1,.cons _ t=>Vals.drop n t
def RelO:Option V->Option Value->Prop
 | some v,some u=>RelV v u
 | none,none=>True
 | _,_=>False
def KV{κ:Type}:List (κ×V)->List (κ×Value)->Prop:=U2 λ(p:κ×V) (q:κ×Value)=>p.1=q.1/\RelV p.2 q.2
def kV:Key->V
 | .inl i=>.int i
 | .inr x=>.str x
inductive HO where
 /-- a list -/
 | lst (xs:List V)
 /-- a tuple (never changes) -/
 | tup (xs:List V)
 /-- a dict whose keys are ints and texts;one whose keys are tuples of ints and texts (the empty one is both) -/
 | dK (kvs:List (Key×V))|dT (kvs:List (List Key×V))
 /-- a set of ints: its members, its size -/
 | set (S:Int->Bool) (n:Nat)
 /-- an instance of the class at C, its dict at dx, its attributes -/
 | ins (C dx:Addr) (fs:List (Str×V))
 /-- the dict of the instance at x -/
 | own (x:Addr)
 /-- the dict of an exception -/
 | xd (fs:List (Str×V))
 /-- a bound method, f of x -/
 | met (f x:Addr)
 /-- a range object lo, lo+1, .. below hi -/
 | rng (lo hi:Int)
 /-- a thing that is known to the object (the script;a dict while a loop walks it): read, never written while it is so -/
 | frz (o:Obj) (u:HO)
 /-- a code object's table -/
 | tbl (ps:Array Value)
 /-- any other thing, by what is true of its one object (a def of one's own: SetO a S n:=HO.ext λh => ..) -/
 | ext (φ:Heap->Prop)
abbrev Hp:=Addr->Option HO
def upd(H:Hp)(a:Addr)(o:HO):Hp:=λb=>if b=a then some o else H b
theorem aJ:upd H a o a=some o:=by unfold upd;rw[if_pos rfl]
theorem aC(h:b≠a):upd H a o b=H b:=by unfold upd;rw[if_neg h]
theorem IF{H:Hp}{a b:Addr}{o u:HO}(h:H a=some o)(h':H b=some u)(d:o≠u):a≠b:=by
 intro e;subst e;rw[h]at h';exact d (UL h')
theorem a6{H:Hp}{a b:Addr}{o:HO}(h:H a=some o)(h':H b=none):a≠b:=by
 intro e;subst e;rw[h]at h';cases h'
section
variable (P:TN)(w:World)
def IsTupN(h:Heap)(a:Addr)(items:Array Value):Prop:=∃o,h.get? a=some o/\o.cls=.type "tuple" /\ ∃n,o.data=.seq items n/\o.dict=none
theorem IsTupN.tup{h:Heap}{a:Addr}{items:Array Value}(x:IsTupN h a items):IsTup h a items:=let ⟨o,e,c,n,d,_⟩:=x;⟨o,e,c,n,d⟩
theorem IsTupN.lt(x:IsTupN h a items):a<h.objs.size:=x.tup.lt
theorem IsTupN.new(h:Heap)(items:Array Value):IsTupN (h.push {cls:=.type "tuple",data:=.seq items}) h.objs.size items:=⟨_,UC _ rfl,rfl,_,rfl,rfl⟩
def ObjOk(H:Hp)(h:Heap)(a:Addr):HO->Prop
 | .lst xs=>xs.length<=TQ/\∃(its:List Value) (n:Nat),Vals xs its/\h.get? a=some {cls:=.type "list",data:=.seq its.toArray n}
 | .tup xs=>xs.length<=TQ/\∃its:List Value,Vals xs its/\IsTupN h a its.toArray
 | .dK kvs=>kvs.length<=TQ/\(a == VC)=false/\∃vs,KV kvs vs/\h.DictOf (a8 P w) a vs
 | .dT kvs=>kvs.length<=TQ/\(a == VC)=false/\∃xs:List (List Key×Addr×Value),
   U2 (λ(p:List Key×V) (q:List Key×Addr×Value)=>p.1=q.1/\H q.2.1=some (.tup (p.1.map kV))/\RelV p.2 q.2.2) kvs xs /\
   ∃o es ep,h.get? a=some o/\o.ExactDict/\o.data=.dict es ep/\es.toList=xs.map (entryOfKey (VY (a8 P w)))/\(xs.map (·.1)).Nodup
 | .set S n=>h.SetOf (intKind P w) a S n
 | .ins C dx fs=>H dx=some (.own a)/\fs.length<=1000/\dx≠a/\h.get? a=some (Z8 C dx) /\
   ∃mA,h.Ns1 dx mA/\(∀f,RelO (fs.lookup f) (mA f))/\PySem.Within mA (fs.map (·.1))
 | .own _=>∃o,h.get? a=some o
 | .xd fs=>∃mA,h.Ns1 a mA/\∀f,RelO (fs.lookup f) (mA f)
 | .rng lo hi=>∃t u v,h.get? a=some {cls:=.type "range",data:=.fields #[.int lo t,.int hi u,.int 1 v]}
 | .frz o u=>h.get? a=some o/\ObjOk H h a u
 | .tbl ps=>h.get? a=some {cls:=.none,data:=.fields ps}
 | .met f x=>h.get? a=some (Z9 (.ref f) (.ref x))
 | .ext φ=>φ h/\(∃o,h.get? a=some o)/\∀h1 h2:Heap,φ h1->(∀o,h1.get? a=some o->h2.get? a=some o)->φ h2
def HOk(H:Hp)(h:Heap):Prop:=∀a o,H a=some o->ObjOk P w H h a o
end
section
variable {P:TN}{w:World}{H H':Hp}{h h':Heap}{a:Addr}{o:HO}
theorem ObjOk.lt(x:ObjOk P w H h a o):a<h.objs.size:=by
 cases o with
 | lst xs=>obtain⟨_,_,_,_,e⟩:=x;exact TX e
 | tup xs=>obtain⟨_,_,_,p⟩:=x;exact p.lt
 | dK kvs=>obtain⟨_,_,_,_,o,_,_,e,_⟩:=x;exact TX e
 | dT kvs=>obtain⟨_,_,_,_,o,_,_,e,_⟩:=x;exact TX e
 | set S n=>obtain⟨o,_,_,_,e,_⟩:=x;exact TX e
 | ins C dx fs=>obtain⟨_,_,_,e,_⟩:=x;exact TX e
 | own y=>obtain⟨_,e⟩:=x;exact TX e
 | xd fs=>obtain⟨_,⟨_,_,_,e,_⟩,_⟩:=x;exact TX e
 | rng lo hi=>obtain⟨_,_,_,e⟩:=x;exact TX e
 | frz ob u=>obtain⟨e,_⟩:=x;exact TX e
 | tbl ps=>exact TX (show h.get? a=some _ from x)
 | met f y=>exact TX (show h.get? a=some _ from x)
 | ext φ=>obtain⟨_,⟨_,e⟩,_⟩:=x;exact TX e
theorem Paired.mapP{B q:Type}{F G:B->q->Prop}:∀ {l₁:List B} {l₂:List q},U2 F l₁ l₂->(∀a b,F a b->G a b)->U2 G l₁ l₂
 | _,_,.nil,_=>.nil
 | _,_,.cons r t,f=>.cons (f _ _ r) (Paired.mapP t f)
theorem ObjOk.stay(x:ObjOk P w H h a o)(k:∀b u,(b=a\/H b=some (.own a))->h.get? b=some u->h'.get? b=some u)
  (G:∀b,H b=some (.own a)->H' b=some (.own a)) (J:∀b xs,H b=some (.tup xs)->H' b=some (.tup xs)):ObjOk P w H' h' a o:=by
 induction o with
 | lst xs=>obtain⟨z,F,n,r,e⟩:=x;exact⟨z,F,n,r,k _ _ (.inl rfl) e⟩
 | tup xs=>obtain⟨z,F,r,B,e,c⟩:=x;exact⟨z,F,r,B,k _ _ (.inl rfl) e,c⟩
 | dK kvs=>obtain⟨z,y,vs,r,B,es,ep,e,c⟩:=x;exact⟨z,y,vs,r,B,es,ep,k _ _ (.inl rfl) e,c⟩
 | dT kvs=>
  obtain⟨z,y,xs,r,B,es,ep,e,c⟩:=x;exact⟨z,y,xs,Paired.mapP r λp q z=>⟨z.1,J _ _ z.2.1,z.2.2⟩,B,es,ep,k _ _ (.inl rfl) e,c⟩
 | set S n=>obtain⟨B,es,ep,t,e,c⟩:=x;exact⟨B,es,ep,t,k _ _ (.inl rfl) e,c⟩
 | ins C dx fs=>
  obtain⟨d,z,ne,e,mA,⟨od,es,ep,M,c⟩,r⟩:=x;exact⟨G _ d,z,ne,k _ _ (.inl rfl) e,mA,⟨od,es,ep,k _ _ (.inr d) M,c⟩,r⟩
 | own y=>obtain⟨B,e⟩:=x;exact⟨B,k _ _ (.inl rfl) e⟩
 | xd fs=>obtain⟨mA,⟨od,es,ep,e,c⟩,r⟩:=x;exact⟨mA,⟨od,es,ep,k _ _ (.inl rfl) e,c⟩,r⟩
 | rng lo hi=>obtain⟨t,u,v,e⟩:=x;exact⟨t,u,v,k _ _ (.inl rfl) e⟩
 | frz B u ih=>obtain⟨e,q⟩:=x;exact⟨k _ _ (.inl rfl) e,ih q⟩
 | tbl ps=>
  have e:h.get? a=some {cls:=.none,data:=.fields ps}:=x;show h'.get? a=some {cls:=.none,data:=.fields ps};exact k a _ (.inl rfl) e
 | met f y=>
  have e:h.get? a=some (Z9 (.ref f) (.ref y)):=x;show h'.get? a=some (Z9 (.ref f) (.ref y));exact k a _ (.inl rfl) e
 | ext φ=>obtain⟨p,⟨o,e⟩,st⟩:=x;exact⟨st _ _ p λo q=>k _ _ (.inl rfl) q,⟨o,k _ _ (.inl rfl) e⟩,st⟩
theorem HOk.lt(x:HOk P w H h)(e:H a=some o):a<h.objs.size:=(x a o e).lt
theorem HOk.fresh(x:HOk P w H h)(e:h.objs.size<=a):H a=none:=by
 cases q:H a with
 | none=>rfl
 | some u=>exact absurd (U9 (x.lt q) e) (VN _)
theorem HOk.kept(x:HOk P w H h)(k:∀b u,h.get? b=some u->h'.get? b=some u):HOk P w H h':=λa o e=>
 (x a o e).stay (λb u _ q=>k b u q) (λ_ q=>q) λ_ _ q=>q
theorem HOk.laid(x:HOk P w H h)(k:∀b u,h.get? b=some u->h'.get? b=some u)(G:h.objs.size<=a)(new:ObjOk P w (upd H a o) h' a o):HOk P w (upd H a o) h':=λb u e=>by
 have B:=x.fresh G;by_cases F:b=a
 ·subst F;rw[aJ]at e;cases e;exact new
 ·rw[aC F]at e
  exact(x b u e).stay (λc v _ q=>k c v q) (λc q=>by rw[aC (a6 q B)];exact q) λc xs q=>by rw[aC (a6 q B)];exact q
end
def Rd(H:Hp)(a:Addr)(u:HO):Prop:=H a=some u\/∃o,H a=some (.frz o u)
theorem Rd.of(h:H a=some u):Rd H a u:=.inl h
theorem Rd.ok(r:Rd H a u)(x:HOk P w H h):ObjOk P w H h a u:=by
 rcases r with r|⟨o,r⟩
 ·exact x a u r
 ·obtain⟨_,q⟩:=x a _ r
  exact q
def PY:Option HO->Prop
 | some (.lst _)=>True
 | some (.dK _)=>True
 | some (.dT _)=>True
 | some (.set _ _)=>True
 | some (.ins _ _ _)=>True
 | some (.ext _)=>True
 | _=>False
section
variable {P:TN}{w:World}{H:Hp}{h h':Heap}{x e:Addr}{o':HO}
theorem HOk.write(ok:HOk P w H h)(M:PY (H x))(W:e=x\/H e=some (.own x))(k:∀b u,b≠e->h.get? b=some u->h'.get? b=some u)(U:∃u,h'.get? e=some u)
  (new:ObjOk P w (upd H x o') h' x o'):HOk P w (upd H x o') h':=λb u q=>by
 have F:∀c y,H c=some (.own y)->c≠x:=λc y r z=>by subst z;rw[r]at M;exact M
 have G:∀c xs,H c=some (.tup xs)->c≠x:=λc xs r z=>by subst z;rw[r]at M;exact M
 by_cases N:b=x
 ·subst N;rw[aJ]at q;cases q;exact new
 ·rw[aC N]at q
  by_cases B:b=e
  ·have Y:H b=some (.own x):=by
    rcases W with z|z
    ·exact absurd (B.trans z) N
    ·rw[B];exact z
   rw[q]at Y;cases Y;obtain⟨v,hv⟩:=U;exact⟨v,by rw[B];exact hv⟩
  ·refine(ok b u q).stay (λc v J r=>k c v ?_ r) (λc r=>by rw[aC (F c b r)];exact r) λc xs r=>by rw[aC (G c xs r)];exact r
   rcases J with rfl|J
   ·exact B
   ·rintro rfl
    rcases W with z|z
    ·exact F c b J z
    ·rw[J]at z;cases z;exact N rfl
end
structure Un(fs ex:List Addr)(H H':Hp)(h h':Heap):Prop where
 keep:∀b o,h.get? b=some o->H b=none->b∉fs->b∉ex->h'.get? b=some o
 slot:∀b o,h.get? b=some o->H b=none->b∈fs->b∉ex->∃sl,h'.get? b=some {o with slots:=sl}
 free:∀b o,h.get? b=some o->H b=none->b∉ex->H' b=none
 there:∀b o,h.get? b=some o->b∉ex->∃o',h'.get? b=some o'
 tups:∀b xs,H b=some (.tup xs)->H' b=some (.tup xs)
 frzs:∀b o u,H b=some (.frz o u)->H' b=some (.frz o u)
 tbls:∀b ps,H b=some (.tbl ps)->∃more,H' b=some (.tbl (ps++more))
section
variable {fs fs' ex ex':List Addr}{H H1 H2:Hp}{h h1 h2 h':Heap}{a x e:Addr}{o:HO}
theorem Un.any(u:Un fs ex H H1 h h1)(q:h.get? b=some ob)(n:H b=none)(B:b∉ex):∃G,h1.get? b=some {ob with slots:=G}:=by
 by_cases F:b∈fs
 ·exact u.slot b ob q n F B
 ·exact⟨ob.slots,u.keep b ob q n F B⟩
theorem Un.trans(a:Un fs ex H H1 h h1)(b:Un fs ex H1 H2 h1 h2):Un fs ex H H2 h h2 where
 keep:=λc B q n J F=>b.keep c B (a.keep c B q n J F) (a.free c B q n F) J F
 slot:=λc B q n J F=>by
  obtain⟨Y,G⟩:=a.slot c B q n J F;obtain⟨M,N⟩:=b.slot c _ G (a.free c B q n F) J F;exact⟨M,N⟩
 free:=λc B q n F=>by
  obtain⟨o',G⟩:=a.there c B q F;exact b.free c o' G (a.free c B q n F) F
 there:=λc B q F=>by
  obtain⟨o',G⟩:=a.there c B q F;exact b.there c o' G F
 tups:=λc xs q=>b.tups c xs (a.tups c xs q)
 frzs:=λc B xs q=>b.frzs c B xs (a.frzs c B xs q)
 tbls:=λc ps q=>by
  obtain⟨W,G⟩:=a.tbls c ps q;obtain⟨U,N⟩:=b.tbls c _ G;exact⟨W++U,by rw[N,Array.append_assoc]⟩
theorem Un.kept(k:∀b u,h.get? b=some u->h'.get? b=some u):Un fs ex H H h h':=
 ⟨λb B q _ _ _=>k b B q,λb B q _ _ _=>⟨B.slots,k b B q⟩,λ_ _ _ n _=>n,λb B q _=>⟨B,k b B q⟩,λ_ _ q=>q,λ_ _ _ q=>q,λ_ ps q=>⟨#[],by rw[q];simp⟩⟩
theorem Un.refl:Un fs ex H H h h:=Un.kept λ_ _ q=>q
theorem Un.laid(k:∀b u,h.get? b=some u->h'.get? b=some u)(F:h.objs.size<=a)(B:H a=none):Un fs ex H (upd H a o) h h' where
 keep:=λb u q _ _ _=>k b u q
 slot:=λb u q _ _ _=>⟨u.slots,k b u q⟩
 free:=λb u q n _=>by rw[aC (UE (U9 (TX q) F))];exact n
 there:=λb u q _=>⟨u,k b u q⟩
 tups:=λb xs q=>by rw[aC (a6 q B)];exact q
 frzs:=λb u xs q=>by rw[aC (a6 q B)];exact q
 tbls:=λb ps q=>⟨#[],by rw[aC (a6 q B),q];simp⟩
theorem Un.write(F:PY (H x))(U:e=x\/H e=some (.own x))(k:∀b u,b≠e->h.get? b=some u->h'.get? b=some u)(J:∃u,h'.get? e=some u):Un fs ex H (upd H x o) h h':=by
 have N:∀b,H b=none->b≠x:=λb n z=>by subst z;rw[n]at F;exact F
 have M:∀b,H b=none->b≠e:=λb n z=>by
  subst z;rcases U with r|r
  ·exact N b n r
  ·rw[n]at r;cases r
 have G:∀b u,H b=some u->¬ PY (some u)->b≠x:=λb u q nm z=>by subst z;rw[q]at F;exact nm F
 refine⟨λb u q n _ _=>k b u (M b n) q,λb u q n _ _=>⟨u.slots,k b u (M b n) q⟩,λb u q n _=>by rw[aC (N b n)];exact n,λb u q _=>?_,
  λb xs q=>by rw[aC (G b _ q λz=>z)];exact q,λb u xs q=>by rw[aC (G b _ q λz=>z)];exact q,λb ps q=>⟨#[],by rw[aC (G b _ q λz=>z),q];simp⟩⟩
 by_cases B:b=e
 ·subst B;exact J
 ·exact⟨u,k b u B q⟩
theorem Un.mono(u:Un fs ex H H1 h h1)(hs:∀b∈fs,b∈fs')(G:∀b∈ex,b∈ex'):Un fs' ex' H H1 h h1:=
 ⟨λb F q n J B=>u.keep b F q n (λz=>J (hs b z)) λz=>B (G b z),λ_ _ q n _ B=>u.any q n λz=>B (G _ z),λb F q n B=>u.free b F q n λz=>B (G b z),λb F q B=>u.there b F q λz=>B (G b z),u.tups,u.frzs,u.tbls⟩
end
def P9(h:Heap)(H:Hp):List Addr:=(UU h.objs.size).filter λa=>(H a).isSome
def qP(h:Heap)(H:Hp):Heap:=PySem.W.hideAll h (P9 h H)
theorem zQ(h:Heap)(H:Hp):(qP h H).objs.size=h.objs.size:=PySem.W.hideAll_size _ _
theorem B6(e:h.get? b=some o)(n:H b=none):(qP h H).get? b=some o:=
 PySem.W.hideAll_get _ e λB=>by
  have q:(H b).isSome=true:=(List.mem_filter.mp B).2;rw[n]at q;simp at q
theorem EL(e:(qP h H).get? b=some o):h.get? b=some o/\H b=none:=by
 have B:h.get? b=some o:=PySem.W.of_hideAll (P9 h H) e;refine⟨B,?_⟩;cases q:H b with
 | none=>rfl
 | some x=>
  have F:b∈P9 h H:=List.mem_filter.mpr ⟨List.mem_range.mpr (TX B),by simp[q]⟩;have z:(qP h H).get? b=none:=PySem.W.hideAll_none (P9 h H) F;rw[z]at e;cases e
noncomputable def FK(g h:Heap)(L:Addr):List (Addr×Obj):=(UU h.objs.size).filterMap λa=>if a=L\/(g.get? a).isSome=true then none else(h.get? a).map λo=>(a,o)
def rest(g h:Heap)(L d:Addr):List (Addr×Obj):=(FK g h L).filter λp=>decide (p.1≠d)
structure Mod(K:TK)(mg:Str->Option Value)(base:Heap):Prop where
 kin:K.In base
 glob:base.Ns UP mg
 blt:∃mb,base.Ns builtinsNs mb/\∀x:Str,x ≠ "__name__" -> mb x=UM x
 nolimit:base.NoLimit
structure Cx where
 prog:TN
 w:World
 K:TK
 mg:Str->Option Value
 base:Heap
 A:TZ
 N:List Str
 s₀:TH
 H₀:Hp
 env:Env
 outer:List Env
 stack:List Env
 ex:List Addr
 fn:Str->Bool
 calm:Bool
 pn:List (Addr×Obj)
 xe:Value->TH->Prop
noncomputable def frs(l:List Env):List Addr:=l.filterMap (·.frame)
abbrev Cx.fs(X:Cx):List Addr:=frs X.outer
def M5(sc:Scope)(x:Str):Prop:=sc.names.lookup x=some .local\/sc.names.lookup x=some .cell\/sc.names.lookup x=some .free
def Loc(sc:Scope)(x:Str):Prop:=sc.names.lookup x=some .local\/sc.names.lookup x=some .cell
def Look(env:Env)(h:Heap)(m:Str->Option Value)(x:Str)(u:Value):Prop:=
 (env.kindOf x=some .local/\m x=some u)\/((env.kindOf x=some .cell\/env.kindOf x=some .free)/\∃c,env.cells.lookup x=some c/\h.IsCell c (some u))
structure Cx.Ok(X:Cx):Prop where
 mod:Mod X.K X.mg X.base
 kind:X.env.scope.kind=.function
 glob:X.env.globals=UP
 blt:X.env.builtins=builtinsNs
 above:X.s₀.heap.objs.size<=X.env.locals
 inj:∀x y c,X.env.cells.lookup x=some c->X.env.cells.lookup y=some c->x=y
 has:∀x,(X.env.kindOf x=some .cell\/X.env.kindOf x=some .free)->∃c,X.env.cells.lookup x=some c
 cab:∀x c,X.fn x=true->X.env.cells.lookup x=some c->X.s₀.heap.objs.size<=c
 hd:X.calm=true->X.A.handled=none
 frames:X.A.frames=some X.stack
 stk:X.stack=X.outer\/(X.stack=X.env::X.outer/\X.env.frame=some X.env.locals)
 exf:∀b∈X.ex,b≠X.env.locals/\∀x c,X.env.cells.lookup x=some c->c≠b
 bs:∀b o,X.base.get? b=some o->X.s₀.heap.get? b=some o/\X.H₀ b=none
 bsz:X.base.objs.size<=X.s₀.heap.objs.size
 noex:∀b o,X.base.get? b=some o->b∉X.ex
 exfs:∀b∈X.ex,b∉X.fs
 funs:X.s₀.heap.FunFrames X.base X.outer
 frf:∀b∈X.fs,X.H₀ b=none
structure Inv(X:Cx)(pins:List (Addr×Obj))(σ:List (Option V))(H:Hp)(s:TH):Prop where
 ok:X.Ok
 os:s.os=X.s₀.os
 bare:WJ s.gens
 base:Un X.fs X.ex X.H₀ H X.s₀.heap s.heap
 loc:∃m,s.heap.Ns X.env.locals m/\∀(i:Nat) (x:Str) (v:V),X.N[i]?=some x->σ[i]?=some (some v)->M5 X.env.scope x->∃u,RelV v u/\Look X.env s.heap m x u
 cell:∀x c,X.env.cells.lookup x=some c->∃v,s.heap.IsCell c v
 free:H X.env.locals=none
 freeC:∀x c,X.env.cells.lookup x=some c->H c=none
 pin:∀p∈X.pn++pins,s.heap.get? p.1=some p.2/\H p.1=none/\p.1≠X.env.locals/\p.1∉X.fs/\∀v,p.2.data≠.cell v
 hok:HOk X.prog X.w H s.heap
 len:σ.length=X.N.length
section
variable {X:Cx}{pins:List (Addr×Obj)}{σ:List (Option V)}{H H':Hp}{s:TH}{h':Heap}
theorem Cx.Ok.nofr(ok:X.Ok)(e:X.base.get? b=some o):b∉X.fs:=λq=>by
 have:=(ok.funs.mem q).1;rw[e]at this;cases this
theorem Inv.bs(I:Inv X pins σ H s):∀b o,X.base.get? b=some o->s.heap.get? b=some o/\H b=none:=λb o e=>
 ⟨I.base.keep b o (I.ok.bs b o e).1 (I.ok.bs b o e).2 (I.ok.nofr e) (I.ok.noex b o e),I.base.free b o (I.ok.bs b o e).1 (I.ok.bs b o e).2 (I.ok.noex b o e)⟩
theorem Inv.bk(I:Inv X pins σ H s):∀b o,X.base.get? b=some o->s.heap.get? b=some o:=λb o e=>(I.bs b o e).1
theorem Inv.mod(I:Inv X pins σ H s):Mod X.K X.mg X.base:=I.ok.mod
theorem Inv.kIn(I:Inv X pins σ H s):X.K.In s.heap:=I.ok.mod.kin.keeps I.bk
theorem Inv.lt(I:Inv X pins σ H s):X.env.locals<s.heap.objs.size:=let ⟨_,hn,_⟩:=I.loc;hn.lt
theorem Inv.sz(I:Inv X pins σ H s):X.s₀.heap.objs.size<=s.heap.objs.size:=UV I.ok.above (YS I.lt)
theorem Inv.nofs(I:Inv X pins σ H s)(h:s.heap.objs.size<=a):a∉X.fs:=λB=>by
 obtain⟨_,o,q,_⟩:=I.ok.funs.mem B;exact absurd (U9 (TX q) (UV I.sz h)) (VN _)
theorem Inv.cne(I:Inv X pins σ H s):∀x c,X.env.cells.lookup x=some c->c≠X.env.locals:=λx c e z=>by
 obtain⟨v,o,F,G⟩:=I.cell x c e;obtain⟨m,⟨o',es,ep,q,B,_⟩,_⟩:=I.loc;rw[z,q]at F;cases F;rw[B]at G;cases G
theorem Inv.funs(I:Inv X pins σ H s):s.heap.FunFrames X.base X.outer:=by
 have all:∀(l:List Env),(∀b∈frs l,b∈X.fs)->X.s₀.heap.FunFrames X.base l->s.heap.FunFrames X.base l:=by
  intro l;induction l with
  | nil=>intro _ _;trivial
  | cons env r ih=>
   intro hs J;obtain⟨M,⟨L,o,F,U,N,G⟩,W⟩:=J;have q:L∈X.fs:=hs L (by unfold frs;rw[zaa,F];exact UW);obtain⟨Y,e⟩:=I.base.slot L o N (I.ok.frf L q) q λz=>I.ok.exfs L z q
   exact⟨M,⟨L,_,F,U,e,G⟩,ih (λb B=>hs b (by unfold frs;rw[zaa,F];exact UN _ B)) W⟩
 exact all X.outer (λ_ B=>B) I.ok.funs
theorem Inv.stack(I:Inv X pins σ H s):s.heap.FunFrames X.base X.stack:=by
 rcases I.ok.stk with e|⟨e,B⟩
 ·rw[e];exact I.funs
 ·rw[e]
  obtain⟨m,q,_⟩:=I.loc;refine .cons (by rw[I.ok.kind];decide) B q ?_ I.funs;exact Heap.get?_none_of_le (UV I.ok.bsz I.ok.above)
theorem Inv.stkSub(I:Inv X pins σ H s):∀b∈frs X.stack,b∈X.env.locals::X.fs:=λb q=>by
 rcases I.ok.stk with e|⟨e,B⟩
 ·rw[e]at q;exact UN _ q
 ·rw[e]at q
  unfold frs at q;rw[zaa,B]at q;exact q
theorem Inv.stkFree(I:Inv X pins σ H s):∀b∈frs X.stack,H b=none:=λb q=>by
 rcases List.mem_cons.mp (I.stkSub b q)with e|q
 ·rw[e];exact I.free
 ·obtain⟨_,o,B,_⟩:=I.ok.funs.mem q
  exact I.base.free b o B (I.ok.frf b q) λz=>I.ok.exfs b z q
theorem Inv.step{g':Array GenState}{t':Nat}{d':Drawn}{ch:List Addr}(I:Inv X pins σ H s)
  (F:∀b∈ch,(b∈X.ex\/X.s₀.heap.objs.size<=b)/\b≠X.env.locals/\(∀x c,X.env.cells.lookup x=some c->c≠b)/\∀p∈X.pn++pins,p.1≠b)
  (keep:∀b o,b≠X.env.locals->b∉X.fs->b∉ch->s.heap.get? b=some o->H b=none->h'.get? b=some o)
  (U:∀b o,b≠X.env.locals->b∈X.fs->b∉ch->s.heap.get? b=some o->H b=none->∃sl,h'.get? b=some {o with slots:=sl}) (free:∀b o,b∉ch->s.heap.get? b=some o->H b=none->H' b=none)
  (there:∀b o,b∉ch->s.heap.get? b=some o->∃o',h'.get? b=some o')
  (ac:∀b xs,H b=some (.tup xs)->H' b=some (.tup xs)) (ad:∀b o u,H b=some (.frz o u)->H' b=some (.frz o u)) (ab:∀b ps,H b=some (.tbl ps)->∃more,H' b=some (.tbl (ps++more)))
  (ns:∀m,s.heap.Ns X.env.locals m->h'.Ns X.env.locals m) (ah:HOk X.prog X.w H' h') (hg:WJ g') :
  Inv X pins σ H' {s with heap:=h',gens:=g',drawn:=d',toks:=t'}:=by
 have aa:∀b o,X.s₀.heap.get? b=some o->b≠X.env.locals:=λb o e=>UE (U9 (TX e) I.ok.above)
 have M:∀b o,X.s₀.heap.get? b=some o->b∉X.ex->b∉ch:=λb o e B W=>by
  rcases(F b W).1 with z|z
  ·exact B z
  ·exact absurd (U9 (TX e) z) (VN _)
 have G:∀x c,X.env.cells.lookup x=some c->∀v,s.heap.IsCell c v->h'.IsCell c v:=by
  rintro x c e v ⟨o,Y,hd⟩;have J:c∉ch:=λz=>(F c z).2.2.1 x c e rfl
  by_cases hc:c∈X.fs
  ·obtain⟨sl,q⟩:=U c o (I.cne x c e) hc J Y (I.freeC x c e)
   exact⟨_,q,hd⟩
  ·exact⟨o,keep c o (I.cne x c e) hc J Y (I.freeC x c e),hd⟩
 refine⟨I.ok,I.os,hg,⟨λb o e n W B=>?_,λb o e n W B=>?_,λb o e n B=>?_,λb o e B=>?_,λb xs e=>ac b xs (I.base.tups b xs e),λb o xs e=>ad b o xs (I.base.frzs b o xs e),λb ps e=>?_⟩,?_,λx c e=>?_,?_,λx c e=>?_,λp hp=>?_,ah,I.len⟩
 ·exact keep b o (aa b o e) W (M b o e B) (I.base.keep b o e n W B) (I.base.free b o e n B)
 ·obtain⟨sl,N⟩:=I.base.slot b o e n W B
  obtain⟨af,e2⟩:=U b _ (aa b o e) W (M b o e B) N (I.base.free b o e n B);exact⟨af,e2⟩
 ·obtain⟨o',N⟩:=I.base.there b o e B
  exact free b o' (M b o e B) N (I.base.free b o e n B)
 ·obtain⟨o',N⟩:=I.base.there b o e B
  exact there b o' (M b o e B) N
 ·obtain⟨m1,N⟩:=I.base.tbls b ps e
  obtain⟨m2,e2⟩:=ab b _ N;exact⟨m1++m2,by rw[e2,Array.append_assoc]⟩
 ·obtain⟨m,hn,hl⟩:=I.loc
  refine⟨m,ns m hn,λi x v N e2 e3=>?_⟩;obtain⟨u,r,l⟩:=hl i x v N e2 e3;refine⟨u,r,?_⟩;rcases l with l|⟨k,c,e,z⟩
  ·exact .inl l
  ·exact .inr ⟨k,c,e,G x c e _ z⟩
 ·obtain⟨v,z⟩:=I.cell x c e
  exact⟨v,G x c e v z⟩
 ·obtain⟨m,⟨o,_,_,Y,_⟩,_⟩:=I.loc
  exact free _ o (λz=>(F _ z).2.1 rfl) Y I.free
 ·obtain⟨v,o,Y,hd⟩:=I.cell x c e
  exact free c o (λz=>(F c z).2.2.1 x c e rfl) Y (I.freeC x c e)
 ·obtain⟨e,n,ne,nf,d⟩:=I.pin p hp
  have J:p.1∉ch:=λz=>(F p.1 z).2.2.2 p hp rfl
  exact⟨keep p.1 p.2 ne nf J e n,free p.1 p.2 J e n,ne,nf,d⟩
theorem Inv.un{t':Nat}(I:Inv X pins σ H s)(u:Un X.fs [] H H' s.heap h')(F:HOk X.prog X.w H' h'):Inv X pins σ H' {s with heap:=h',toks:=t'}:=by
 obtain⟨m,⟨o,es,ep,M,r⟩,_⟩:=id I.loc;obtain⟨sl,U⟩:=u.any M I.free (by simp);exact I.step (g':=s.gens) (d':=s.drawn) (ch:=[]) (λ_ z=>nomatch z) (λb o _ J _ e n=>u.keep b o e n J (by simp)) (λb o _ J _ e n=>u.slot b o e n J (by simp)) (λb o _ e n=>u.free b o e n (by simp)) (λb o _ e=>u.there b o e (by simp)) u.tups u.frzs u.tbls (λY N=>by
  obtain⟨o',B,G,q,W⟩:=N;rw[M]at q;cases q;exact⟨_,B,G,U,W⟩) F I.bare
theorem Inv.call{g':Array GenState}{t':Nat}{d':Drawn}{ch:List Addr}(I:Inv X pins σ H s)(u:Un (frs X.stack) ch H H' s.heap h')(J:HOk X.prog X.w H' h')(W:WJ g')
  (F:∀b∈ch,(b∈X.ex\/X.s₀.heap.objs.size<=b)/\b≠X.env.locals/\(∀x c,X.env.cells.lookup x=some c->c≠b)/\∀p∈X.pn++pins,p.1≠b) :
  Inv X pins σ H' {s with heap:=h',gens:=g',drawn:=d',toks:=t'}:=by
 obtain⟨m,⟨o,es,ep,U,r⟩,_⟩:=id I.loc;obtain⟨sl,N⟩:=u.any U I.free λz=>(F _ z).2.1 rfl
 exact I.step (ch:=ch) F (λb o N hb q e n=>u.keep b o e n (λz=>(List.mem_cons.mp (I.stkSub b z)).elim N hb) q) (λb o _ _ q e n=>u.any e n q) (λb o q e n=>u.free b o e n q) (λb o q e=>u.there b o e q) u.tups u.frzs u.tbls (λm' Y=>by
  obtain⟨o',G,M,B,r'⟩:=Y;rw[U]at B;cases B;exact⟨_,G,M,N,r'⟩) J W
theorem Inv.turned{t':Nat}{it:Addr}(I:Inv X pins σ H s)(k:∀b o,b≠it->s.heap.get? b=some o->h'.get? b=some o)(U:H it=none)(G:it≠X.env.locals)
  (h1:it∈X.ex\/X.s₀.heap.objs.size<=it) (h2:∀x c,X.env.cells.lookup x=some c->c≠it) (J:∀p∈X.pn++pins,p.1≠it):Inv X pins σ H {s with heap:=h',toks:=t'}:=by
 have F:∀b u,H b=some u->b≠it:=λb u e z=>by rw[z,U]at e;cases e
 refine I.step (g':=s.gens) (d':=s.drawn) (ch:=[it]) (λb W=>?_) (λb o _ _ B e _=>k b o (λz=>B (by simp[z])) e) (λb o _ _ B e _=>⟨o.slots,k b o (λz=>B (by simp[z])) e⟩) (λ_ _ _ _ n=>n)
  (λb o B e=>⟨o,k b o (λz=>B (by simp[z])) e⟩) (λ_ _ e=>e) (λ_ _ _ e=>e) (λb ps e=>⟨#[],by rw[e];simp⟩) (λm N=>?_) (λb u e=>?_) I.bare
 ·have e:b=it:=by simpa using W
  subst e;exact⟨h1,G,h2,J⟩
 ·obtain⟨o,es,ep,M,r⟩:=N
  exact⟨o,es,ep,k _ o (UH G) M,r⟩
 ·refine(I.hok b u e).stay (λc v B q=>k c v ?_ q) (λ_ q=>q) λ_ _ q=>q
  rcases B with z|z
  ·rw[z];exact F b u e
  ·exact F c _ z
theorem Inv.tok(I:Inv X pins σ H s)(t:Nat):Inv X pins σ H {s with toks:=t}:=I.un (h':=s.heap) (t':=t) Un.refl I.hok
theorem Inv.kept(I:Inv X pins σ H s)(k:∀b u,s.heap.get? b=some u->h'.get? b=some u):Inv X pins σ H {s with heap:=h',toks:=t'}:=I.un (Un.kept k) (I.hok.kept k)
theorem Inv.laid(I:Inv X pins σ H s)(k:∀b u,s.heap.get? b=some u->h'.get? b=some u)(q:s.heap.objs.size<=a)(new:ObjOk X.prog X.w (upd H a o) h' a o) :
  Inv X pins σ (upd H a o) {s with heap:=h',toks:=t'}:=I.un (Un.laid k q (I.hok.fresh q)) (I.hok.laid k q new)
theorem Inv.write(I:Inv X pins σ H s)(B:PY (H x))(F:e=x\/H e=some (.own x))(k:∀b u,b≠e->s.heap.get? b=some u->h'.get? b=some u)(q:∃u,h'.get? e=some u)
  (new:ObjOk X.prog X.w (upd H x o) h' x o):Inv X pins σ (upd H x o) {s with heap:=h',toks:=t'}:=I.un (Un.write B F k q) (I.hok.write B F k q new)
theorem Inv.pins_of(I:Inv X pins σ H s)(h:∀p∈pins',s.heap.get? p.1=some p.2/\H p.1=none/\p.1≠X.env.locals/\p.1∉X.fs/\∀v,p.2.data≠.cell v):Inv X pins' σ H s:=
 ⟨I.ok,I.os,I.bare,I.base,I.loc,I.cell,I.free,I.freeC,λp q=>(List.mem_append.mp q).elim (λz=>I.pin p (YT _ z)) (h p),I.hok,I.len⟩
theorem tE{N:List Str}(q:N.Nodup){i j:Nat}{x:Str}(a:N[i]?=some x)(b:N[j]?=some x):i=j:=by
 obtain⟨h1,B⟩:=List.getElem?_eq_some_iff.mp a;obtain⟨h2,F⟩:=List.getElem?_eq_some_iff.mp b;exact(X3 q).mp (B.trans F.symm)
theorem oD{M:Model}{A:TZ}{E:Value->TH->Prop}{i:Nat}{x:Str}{v:V}{u:Value}{Q:Unit->TH->Prop}(I:Inv X pins σ H s)(hN:X.N.Nodup)(hi:X.N[i]?=some x)(J:Loc X.env.scope x)(r:RelV v u)
  (h:∀s',Inv X pins (σ.set i (some v)) H s'->(∃a,UI a s.heap s'.heap/\(a=X.env.locals\/X.env.cells.lookup x=some a))->Q () s') (hf:X.fn x=true\/X.env.scope.names.lookup x=some .local:=by first|exact .inl rfl|exact .inr rfl|assumption):wpAny M A (storeName X.env x u) Q E s:=by
 obtain⟨m,hn,hl⟩:=id I.loc;have af:(X.env.scope.kind == .class || (X.env.scope.kind == .module && X.env.locals != X.env.globals))=false:=by rw[I.ok.kind];rfl
 have Y:i<σ.length:=by rw[I.len];exact(List.getElem?_eq_some_iff.mp hi).1
 have cne:=I.cne;have F:∀ {a:Addr} {h':Heap},(∃o,s.heap.get? a=some o/\H a=none)->UI a s.heap h'->HOk X.prog X.w H h':=λ{a h'} ha hs b ob e=>by
  obtain⟨_,_,U⟩:=ha;refine(I.hok b ob e).stay (λc w' G q=>(hs.2 c ?_).trans q) (λ_ q=>q) λ_ _ q=>q
  rintro rfl;rcases G with rfl|G
  ·rw[U]at e;cases e
  ·rw[U]at G;cases G
 rcases J with hk|hk
 ·refine wpAny_storeName_local hk hn (λh' aq hs=>?_) af
  obtain⟨oL,_,_,am,_⟩:=id hn;refine h _ ⟨I.ok,I.os,I.bare,⟨λb o e n hb J=>?_,λb o e n hb J=>?_,I.base.free,λb o e J=>?_,I.base.tups,I.base.frzs,I.base.tbls⟩,⟨_,aq,λj y v' B W e3=>?_⟩,λy c e=>?_,I.free,I.freeC,λp hp=>?_,F ⟨oL,am,I.free⟩ hs,by simpa using I.len⟩ ⟨_,hs,.inl rfl⟩
  ·exact(hs.2 b (UE (U9 (TX e) I.ok.above))).trans (I.base.keep b o e n hb J)
  ·obtain⟨sl,B⟩:=I.base.slot b o e n hb J
   exact⟨sl,(hs.2 b (UE (U9 (TX e) I.ok.above))).trans B⟩
  ·obtain⟨o',B⟩:=I.base.there b o e J
   exact⟨o',(hs.2 b (UE (U9 (TX e) I.ok.above))).trans B⟩
  ·by_cases hj:j=i
   ·subst hj
    rw[hi]at B;cases B;rw[List.getElem?_set_self Y]at W;cases W;exact⟨u,r,.inl ⟨hk,by simp⟩⟩
   ·rw[YU (UH hj)]at W
    obtain⟨u',r',q⟩:=hl j y v' B W e3;refine⟨u',r',?_⟩;rcases q with⟨k,e⟩|⟨k,c,e,z⟩
    ·refine .inl ⟨k,?_⟩
     have:y≠x:=λe=>hj (tE hN B (e ▸ hi))
     simp[this,e]
    ·exact .inr ⟨k,c,e,z.sameBut hs (cne y c e)⟩
  ·obtain⟨w',z⟩:=I.cell y c e
   exact⟨w',z.sameBut hs (cne y c e)⟩
  ·obtain⟨e,n,ne,nf,d⟩:=I.pin p hp
   exact⟨(hs.2 p.1 ne).trans e,n,ne,nf,d⟩
 ·have ac:X.fn x=true:=by
   rcases hf with z|z
   ·exact z
   ·rw[z]at hk;cases hk
  obtain⟨c,G⟩:=I.ok.has x (.inl hk);obtain⟨w',z⟩:=I.cell x c G;refine wpAny_storeName_cell I.ok.kind hk G z (λh' ah hs=>?_);obtain⟨oc,ai,ae⟩:=id z;refine h {s with heap:=h'} ⟨I.ok,I.os,I.bare,⟨λb o e n hb J=>?_,λb o e n hb J=>?_,I.base.free,λb o e J=>?_,I.base.tups,I.base.frzs,I.base.tbls⟩,⟨m,hn.sameBut hs (UH (cne x c G)),λj y v' B W e3=>?_⟩,λy c' e=>?_,I.free,I.freeC,λp hp=>?_,F ⟨oc,ai,I.freeC x c G⟩ hs,by simpa using I.len⟩ ⟨c,hs,.inr G⟩
  ·exact(hs.2 b (UE (U9 (TX e) (I.ok.cab x c ac G)))).trans (I.base.keep b o e n hb J)
  ·obtain⟨sl,B⟩:=I.base.slot b o e n hb J
   exact⟨sl,(hs.2 b (UE (U9 (TX e) (I.ok.cab x c ac G)))).trans B⟩
  ·obtain⟨o',B⟩:=I.base.there b o e J
   exact⟨o',(hs.2 b (UE (U9 (TX e) (I.ok.cab x c ac G)))).trans B⟩
  ·by_cases hj:j=i
   ·subst hj
    rw[hi]at B;cases B;rw[List.getElem?_set_self Y]at W;cases W;exact⟨u,r,.inr ⟨.inl hk,c,G,ah⟩⟩
   ·rw[YU (UH hj)]at W
    obtain⟨u',r',q⟩:=hl j y v' B W e3;refine⟨u',r',?_⟩;rcases q with q|⟨k,c',e,z'⟩
    ·exact .inl q
    ·refine .inr ⟨k,c',e,z'.sameBut hs ?_⟩
     rintro rfl;exact hj (tE hN B (I.ok.inj _ _ _ e G ▸ hi))
  ·by_cases ag:c'=c
   ·subst ag;exact⟨_,ah⟩
   ·obtain⟨w2,z2⟩:=I.cell y c' e
    exact⟨w2,z2.sameBut hs ag⟩
  ·obtain⟨e,n,ne,nf,d⟩:=I.pin p hp
   refine⟨(hs.2 p.1 ?_).trans e,n,ne,nf,d⟩;intro q;rw[q,ai]at e;have q':oc=p.2:=UL e;exact d w' (by rw[<- q'];exact ae)
theorem sR(I:Inv X pins σ H s)(B:X.N.Nodup)(hi:X.N[i]?=some x)(q:Loc X.env.scope x)(r:RelV v u)
  (h:∀s',Inv X pins (σ.set i (some v)) H s'->Q () s') (G:X.fn x=true\/X.env.scope.names.lookup x=some .local:=by first|exact .inl rfl|exact .inr rfl|assumption):wpAny M A (storeName X.env x u) Q E s:=
 oD I B hi q r (λs' F _=>h s' F) G
theorem Inv.call'(I:Inv X pins σ H s)(F:s'.os=s.os)(u:Un (frs X.stack) ch H H' s.heap s'.heap)(B:HOk X.prog X.w H' s'.heap)(G:WJ s'.gens)
  (q:∀b∈ch,(b∈X.ex\/X.s₀.heap.objs.size<=b)/\b≠X.env.locals/\(∀x c,X.env.cells.lookup x=some c->c≠b)/\∀p∈X.pn++pins,p.1≠b):Inv X pins σ H' s':=by
 obtain⟨h',g',d',t',o'⟩:=s';have e:o'=s.os:=F;subst e;exact I.call (g':=g') (t':=t') (d':=d') u B G q
end
abbrev XK:=Value->Option Addr->Hp->Prop
abbrev St:=List (Option V)
abbrev VK:=V->Hp->Prop
abbrev TE:=St->Hp->VK->Prop
abbrev TT:=St->Hp->(Bool->Hp->Prop)->Prop
abbrev TA:=St->Hp->(List V->Hp->Prop)->Prop
structure Ends where
 nx:St->Hp->Prop
 rt:VK
 bk:St->Hp->Prop:=λ_ _=>False
 ct:St->Hp->Prop:=λ_ _=>False
abbrev TS:=Ends->St->Hp->Prop
inductive EP(X:Cx)(pins:List (Addr×Obj))(σ:St)(Q:VK)(u:Value)(s':TH):Prop
 | mk (v:V) (H':Hp) (i:Inv X pins σ H' s') (r:RelV v u) (q:Q v H'):EP X pins σ Q u s'
inductive TP(X:Cx)(pins:List (Addr×Obj))(σ:St)(Q:Bool->Hp->Prop)(b:Bool)(s':TH):Prop
 | mk (H':Hp) (i:Inv X pins σ H' s') (q:Q b H'):TP X pins σ Q b s'
inductive AP(X:Cx)(pins:List (Addr×Obj))(σ:St)(Q:List V->Hp->Prop)(us:List Value)(s':TH):Prop
 | mk (vs:List V) (H':Hp) (i:Inv X pins σ H' s') (r:Vals vs us) (q:Q vs H'):AP X pins σ Q us s'
def SP(X:Cx)(pins:List (Addr×Obj))(D:Ends)(f:Flow)(s':TH):Prop:=
 match f with
 | .next=>∃σ' H',Inv X pins σ' H' s'/\D.nx σ' H'
 | .brk=>∃σ' H',Inv X pins σ' H' s'/\D.bk σ' H'
 | .cont=>∃σ' H',Inv X pins σ' H' s'/\D.ct σ' H'
 | .ret u=>∃v σ' H',Inv X pins σ' H' s'/\RelV v u/\D.rt v H'
def PE(X:Cx)(e:Expr)(t:TE):Prop:=
 ∀(pins:List (Addr×Obj)) (s:TH) (σ:St) (H:Hp) (Q:VK),Inv X pins σ H s->t σ H Q->wpAny (model X.prog X.w) X.A (eval e X.env) (EP X pins σ Q) X.xe s
def PT(X:Cx)(e:Expr)(t:TT):Prop:=
 ∀(pins:List (Addr×Obj)) (s:TH) (σ:St) (H:Hp) (Q:Bool->Hp->Prop),Inv X pins σ H s->t σ H Q->wpAny (model X.prog X.w) X.A (isTrue e X.env (eval e X.env)) (TP X pins σ Q) X.xe s
def PW(X:Cx)(e:Expr)(t:TT):Prop:=
 ∀(whole:Sem Value) (pins:List (Addr×Obj)) (s:TH) (σ:St) (H:Hp) (Q:Bool->Hp->Prop),Inv X pins σ H s->t σ H Q->wpAny (model X.prog X.w) X.A (isTrue e X.env whole) (TP X pins σ Q) X.xe s
theorem PW.pt{X:Cx}{e:Expr}{t:TT}(h:PW X e t):PT X e t:=h _
def PA(X:Cx)(es:List Expr)(t:TA):Prop:=
 ∀(pos:Pos) (pins:List (Addr×Obj)) (s:TH) (σ:St) (H:Hp) (Q:List V->Hp->Prop),Inv X pins σ H s->t σ H Q->wpAny (model X.prog X.w) X.A (spliced (UD pos (TL es X.env))) (AP X pins σ Q) X.xe s
def PS(X:Cx)(st:Stmt)(t:TS):Prop:=
 ∀(pins:List (Addr×Obj)) (s:TH) (σ:St) (H:Hp) (D:Ends),Inv X pins σ H s->t D σ H->wpAny (model X.prog X.w) X.A (exec st X.env) (SP X pins D) X.xe s
def PSs(X:Cx)(st:List Stmt)(t:TS):Prop:=
 ∀(pins:List (Addr×Obj)) (s:TH) (σ:St) (H:Hp) (D:Ends),Inv X pins σ H s->t D σ H->wpAny (model X.prog X.w) X.A (execs st X.env) (SP X pins D) X.xe s
theorem bE{q:Type}{t:Sem q}{Q B:q->TH->Prop}{M:Model}{A:TZ}{E:Value->TH->Prop}{s:TH}(h:wpAny M A t Q E s)(F:∀a s,Q a s->B a s):wpAny M A t B E s:=U7 h F λ_ _ x=>x
section
variable {X:Cx}
def gX(i:Nat):TE:=λσ H Q=>∃v,σ[i]?=some (some v)/\Q v H
def tC(v:V):TE:=λ_ H Q=>Q v H
theorem K1(Y:X.N[i]?=some x)(W:M5 X.env.scope x)(F:(x == ("__debug__" : Str))=false:=by decide)(G:(x == ("__classdict__" : Str))=false:=by decide):PE X (.Name x pos) (gX i):=by
 intro pins s σ H Q I h;obtain⟨v,e,h⟩:=h;obtain⟨m,hn,M⟩:=I.loc;obtain⟨u,r,l⟩:=M i x v Y e W;have fin:EP X pins σ Q u s:=⟨v,H,I,r,h⟩;rcases l with⟨B,U⟩|⟨B,c,J,q⟩
 ·exact wpAny_Name (wpAny_loadName_local I.ok.kind B hn U fin) F
 ·rcases B with B|B
  ·exact wpAny_Name (wpAny_loadName_cell I.ok.kind B J q fin) F
  ·exact wpAny_Name (wpAny_loadName_free I.ok.kind B J q fin G) F
theorem K6{i j pos}:PE X (.Constant (.int i) j pos) (tC (.int i)):=λ_ _ _ H _ I h=>wpAny_Constant_int ⟨.int i,H,I.tok _,⟨_,rfl⟩,h⟩
theorem OE{b j pos}:PE X (.Constant (.bool b) j pos) (tC (.bl b)):=λ_ _ _ H _ I h=>Constant_bool ⟨.bl b,H,I,rfl,h⟩
theorem L5{j pos}:PE X (.Constant .none j pos) (tC .non):=λ_ _ _ H _ I h=>Constant_none ⟨.non,H,I,rfl,h⟩
theorem JY{x j pos}:PE X (.Constant (.str x) j pos) (tC (.str x)):=λ_ _ _ H _ I h=>Calls.Constant_str ⟨.str x,H,I.tok _,⟨_,rfl⟩,h⟩
def Gl(X:Cx)(x:Str):Prop:=X.env.kindOf x=some .globalImplicit
theorem wZ(I:Inv X pins σ H s)(F:Gl X x)(q:X.mg x=some u)(h:Q u s)
  (B:(x == ("__debug__" : Str))=false:=by decide):wpAny (model X.prog X.w) X.A (eval (.Name x pos) X.env) Q E s:=
 Calls.Name_function_global I.ok.kind F (Calls.loadGlobal_global (by rw[I.ok.glob];exact I.mod.glob.keeps I.bk) q h) B
theorem jA{E:Value->TH->Prop}{pins:List (Addr×Obj)}{s:TH}{σ:St}{H:Hp}{x:Str}{u:Value}{pos:Pos}{Q:Value->TH->Prop}(I:Inv X pins σ H s)(B:Gl X x)(F:X.mg x=none)(G:UM x=some u)(h:Q u s)
  (J:x ≠ "__name__" := by decide) (q:(x == ("__debug__" : Str))=false:=by decide):wpAny (model X.prog X.w) X.A (eval (.Name x pos) X.env) Q E s:=by
 obtain⟨M,h1,h2⟩:=I.mod.blt;exact Calls.Name_function_global I.ok.kind B (Calls.loadGlobal_builtin (by rw[I.ok.glob];exact I.mod.glob.keeps I.bk) F (by rw[I.ok.blt];exact h1.keeps I.bk) ((h2 x J).trans G) h) q
theorem v8(F:Gl X x)(B:X.mg x=some u)(r:RelV v u)(q:(x == ("__debug__" : Str))=false:=by decide):PE X (.Name x pos) (tC v):=
 λ_ _ _ H _ I h=>wZ I F B ⟨v,H,I,r,h⟩ q
theorem EV(B:Gl X x)(F:X.mg x=none)(G:UM x=some u)(r:RelV v u)(J:x ≠ "__name__" := by decide)(q:(x == ("__debug__" : Str))=false:=by decide):PE X (.Name x pos) (tC v):=
 λ_ _ _ H _ I h=>jA I B F G ⟨v,H,I,r,h⟩ J q
variable {a b:Expr}{ta tb:TE}{pos:Pos}
def tB(t:TE):TT:=λσ H Q=>t σ H λx H1=>∃c,x=.bl c/\Q c H1
theorem DB{e:Expr}{t:TE}(h:PE X e t)(F:∀B,isTrue e X.env B=(do let v <- B;standAt e.pos;WR [v] (truthy v)):=by intro _;rfl):PT X e (tB t):=by
 intro pins s σ H Q I hw;refine isTrue_plain (bE (h pins s σ H _ I hw) λv N ⟨x,H1,J,G,M⟩=>?_) (F _);obtain⟨d,rfl,q⟩:=M;cases G;exact VR ⟨H1,J,q⟩
variable {tA tB':TT}{rest:List Expr}
def RJ(t u:TT):TT:=λσ H Q=>t σ H λc H1=>if c=true then u σ H1 Q else Q false H1
def SQ(t u:TT):TT:=λσ H Q=>t σ H λc H1=>if c=true then Q true H1 else u σ H1 Q
def QM(t:TT):TT:=λσ H Q=>t σ H λc H1=>Q (!c) H1
theorem EY(q:PT X a tA):PW X (.BoolOp .And [a] pos) tA:=by
 intro F pins s σ H Q I h;refine isTrue_and (bE (q pins s σ H Q I h) λc B e=>?_);cases c with
 | true=>exact isTrue_and_nil e
 | false=>exact e
theorem J2(q:PT X a tA):PW X (.BoolOp .Or [a] pos) tA:=by
 intro F pins s σ H Q I h;refine isTrue_or (bE (q pins s σ H Q I h) λc B e=>?_);cases c with
 | false=>exact isTrue_or_nil e
 | true=>exact e
theorem KJ(F:PT X a tA)(J:PW X (.BoolOp .And (b::rest) pos) tB'):PW X (.BoolOp .And (a::b::rest) pos) (RJ tA tB'):=by
 intro M pins s σ H Q I h;refine isTrue_and (bE (F pins s σ H _ I h) λc G ⟨H1,q,B⟩=>?_);cases c with
 | true=>exact J M pins G σ H1 Q q B
 | false=>exact⟨H1,q,B⟩
theorem OP(F:PT X a tA)(J:PW X (.BoolOp .Or (b::rest) pos) tB'):PW X (.BoolOp .Or (a::b::rest) pos) (SQ tA tB'):=by
 intro M pins s σ H Q I h;refine isTrue_or (bE (F pins s σ H _ I h) λc G ⟨H1,q,B⟩=>?_);cases c with
 | true=>exact⟨H1,q,B⟩
 | false=>exact J M pins G σ H1 Q q B
theorem CQ(B:PT X a tA):PT X (.UnaryOp .Not a pos) (QM tA):=by
 intro pins s σ H Q I h;exact isTrue_not (bE (B pins s σ H (λc H1=>Q (!c) H1) I h) λ_ _ ⟨H',i,q⟩=>⟨H',i,q⟩)
def NG(ta tb:TE):TE:=λσ H Q=>ta σ H λx H1=>∃c,x=.bl c/\if c=true then tb σ H1 Q else Q (.bl false) H1
def NT(ta:TE):TE:=λσ H Q=>ta σ H λx H1=>∃c,x=.bl c/\Q (.bl (!c)) H1
theorem L1{op}(h:PE X a t):PE X (.BoolOp op [a] pos) t:=λpins s σ H Q I hw=>BoolOp_one (h pins s σ H Q I hw)
theorem LL(F:PE X a ta)(J:PE X (.BoolOp .And (b::rest) pos) tb):PE X (.BoolOp .And (a::b::rest) pos) (NG ta tb):=by
 intro pins s σ H Q I h;refine BoolOp_and (bE (F pins s σ H _ I h) λv G ⟨x,H1,B,M,q⟩=>?_);obtain⟨c,rfl,q⟩:=q;cases M;refine VR ?_;cases c with
 | true=>exact J pins G σ H1 Q B q
 | false=>exact⟨.bl false,H1,B,rfl,q⟩
theorem K8(B:PE X a ta):PE X (.UnaryOp .Not a pos) (NT ta):=by
 intro pins s σ H Q I h;refine UnaryOp_ (bE (B pins s σ H _ I h) λv J ⟨x,H1,G,F,q⟩=>?_);obtain⟨c,rfl,q⟩:=q;cases F;exact not_of (VR ⟨.bl (!c),H1,G,rfl,q⟩)
end
def SqL(K:TK)(H:Hp)(a:Addr)(xs:List V):Prop:=
 Rd H a (.lst xs) \/
  ∃(o:Obj) (its:Array Value) (n:Nat),K.lookup a=some o/\o.cls=.type "list" /\ o.dict=none/\o.data=.seq its n/\its.size<=TQ/\Vals xs its.toList
def SqT(K:TK)(H:Hp)(a:Addr)(xs:List V):Prop:=
 Rd H a (.tup xs) \/
  ∃(o:Obj) (its:Array Value) (n:Nat),K.lookup a=some o/\o.cls=.type "tuple" /\ o.data=.seq its n/\its.size<=TQ/\Vals xs its.toList
noncomputable def RH:Value->Option V
 | .none=>some .non
 | .bool b=>some (.bl b)
 | .int i _=>some (.int i)
 | .str x _=>some (.str x)
 | .bytes b _=>some (.byt b)
 | .float b _=>some (.flt b)
 | .ref a=>some (.ref a)
 | .type n=>some (.ty n)
 | _=>none
theorem RelV.abs(r:RelV x u):RH u=some x:=by
 cases x with
 | non=>cases r;rfl
 | bl _=>cases r;rfl
 | int _=>obtain⟨t,rfl⟩:=r;rfl
 | str _=>obtain⟨t,rfl⟩:=r;rfl
 | byt _=>obtain⟨t,rfl⟩:=r;rfl
 | flt _=>obtain⟨t,rfl⟩:=r;rfl
 | ref _=>cases r;rfl
 | ty _=>cases r;rfl
theorem RelV.inj(r:RelV x u)(q:RelV y u):x=y:=UL (r.abs.symm.trans q.abs)
theorem Vals.inj:∀ {xs ys:List V} {us:List Value},Vals xs us->Vals ys us->xs=ys
 | _,_,_,.nil,.nil=>rfl
 | _,_,_,.cons r t,.cons r' t'=>by rw[r.inj r',Vals.inj t t']
section
variable {X:Cx}{pins:List (Addr×Obj)}{σ:St}{H:Hp}{s:TH}{a:Addr}{xs ys:List V}
theorem SqL.of{K:TK}(h:H a=some (.lst xs)):SqL K H a xs:=.inl (.inl h)
theorem SqT.of{K:TK}(h:H a=some (.tup xs)):SqT K H a xs:=.inl (.inl h)
theorem Inv.list(I:Inv X pins σ H s)(h:SqL X.K H a xs):∃q:List Value,Vals xs q/\PlainL s.heap a q.toArray/\xs.length<=TQ:=by
 rcases h with h|⟨o,q,n,G,B,F,hs,hz,r⟩
 ·obtain⟨z,q,n,r,e⟩:=h.ok I.hok
  exact⟨q,r,⟨_,n,e,rfl,rfl,rfl⟩,z⟩
 ·refine⟨q.toList,r,⟨o,n,I.kIn a o G,B,F,by simpa using hs⟩,?_⟩
  have e:=r.length;simp only[VF]at e
  lia
theorem Inv.tuple(I:Inv X pins σ H s)(h:SqT X.K H a xs):∃q:List Value,Vals xs q/\IsTup s.heap a q.toArray/\xs.length<=TQ:=by
 rcases h with h|⟨o,q,n,F,B,hs,hz,r⟩
 ·obtain⟨z,q,r,p⟩:=h.ok I.hok
  exact⟨q,r,p.tup,z⟩
 ·refine⟨q.toList,r,⟨o,I.kIn a o F,B,n,by simpa using hs⟩,?_⟩
  have e:=r.length;simp only[VF]at e
  lia
theorem Inv.list_inj(I:Inv X pins σ H s)(h:SqL X.K H a xs)(h':SqL X.K H a ys):xs=ys:=by
 obtain⟨q,r,⟨o,n,e,_,_,d⟩,_⟩:=I.list h;obtain⟨its',F,⟨o',G,B,_,_,d'⟩,_⟩:=I.list h';rw[e]at B;cases B;rw[d]at d';injection d' with d1 _
 have:q=its':=by simpa using congrArg Array.toList d1
 subst this;exact r.inj F
theorem Inv.tuple_inj(I:Inv X pins σ H s)(h:SqT X.K H a xs)(h':SqT X.K H a ys):xs=ys:=by
 obtain⟨q,r,⟨o,e,_,n,d⟩,_⟩:=I.tuple h;obtain⟨its',F,⟨o',B,_,G,d'⟩,_⟩:=I.tuple h';rw[e]at B;cases B;rw[d]at d';injection d' with d1 _
 have:q=its':=by simpa using congrArg Array.toList d1
 subst this;exact r.inj F
end
abbrev Cx.wish(X:Cx)(E:Value->TH->Prop):Cx:={X with xe:=E}
abbrev Cx.nox(X:Cx):Cx:=X.wish λ_ _=>False
theorem Cx.Ok.wish{X:Cx}(ok:X.Ok)(E:Value->TH->Prop):(X.wish E).Ok:=
 ⟨ok.mod,ok.kind,ok.glob,ok.blt,ok.above,ok.inj,ok.has,ok.cab,ok.hd,ok.frames,ok.stk,ok.exf,ok.bs,ok.bsz,ok.noex,ok.exfs,ok.funs,ok.frf⟩
theorem Cx.Ok.unwish{X:Cx}{E:Value->TH->Prop}(ok:(X.wish E).Ok):X.Ok:=
 ⟨ok.mod,ok.kind,ok.glob,ok.blt,ok.above,ok.inj,ok.has,ok.cab,ok.hd,ok.frames,ok.stk,ok.exf,ok.bs,ok.bsz,ok.noex,ok.exfs,ok.funs,ok.frf⟩
section
variable {X:Cx}{pins:List (Addr×Obj)}{σ:St}{H:Hp}{s:TH}{E:Value->TH->Prop}
theorem Inv.wish(I:Inv X pins σ H s)(E:Value->TH->Prop):Inv (X.wish E) pins σ H s:=⟨I.ok.wish E,I.os,I.bare,I.base,I.loc,I.cell,I.free,I.freeC,I.pin,I.hok,I.len⟩
theorem Inv.unwish(I:Inv (X.wish E) pins σ H s):Inv X pins σ H s:=⟨I.ok.unwish,I.os,I.bare,I.base,I.loc,I.cell,I.free,I.freeC,I.pin,I.hok,I.len⟩
theorem SP.unwish(h:SP (X.wish E) pins D f s'):SP X pins D f s':=by
 cases f with
 | next=>obtain⟨B,H',I,q⟩:=h;exact⟨B,H',I.unwish,q⟩
 | brk=>obtain⟨B,H',I,q⟩:=h;exact⟨B,H',I.unwish,q⟩
 | cont=>obtain⟨B,H',I,q⟩:=h;exact⟨B,H',I.unwish,q⟩
 | ret u=>obtain⟨v,B,H',I,r,q⟩:=h;exact⟨v,B,H',I.unwish,r,q⟩
theorem PE.nox(h:PE X.nox e t):PE X e t:=λpins s σ H Q I hw=>
 U7 (h pins s σ H Q (I.wish _) hw) (λ_ _ ⟨v,H',B,r,q⟩=>⟨v,H',B.unwish,r,q⟩) λ_ _ z=>VS z
theorem PT.nox(h:PT X.nox e t):PT X e t:=λpins s σ H Q I hw=>
 U7 (h pins s σ H Q (I.wish _) hw) (λ_ _ ⟨H',B,q⟩=>⟨H',B.unwish,q⟩) λ_ _ z=>VS z
theorem PSs.nox{st:List Stmt}{t:TS}(h:PSs X.nox st t):PSs X st t:=λpins s σ H D I hw=>
 U7 (h pins s σ H D (I.wish _) hw) (λ_ _ q=>q.unwish) λ_ _ z=>VS z
end
section
variable {X:Cx}{st:Stmt}{rest:List Stmt}{t u:TS}{e:Expr}{te:TE}{pos:Pos}
def ON:TS:=λD σ H=>D.nx σ H
def O6(t u:TS):TS:=λD σ H=>t {D with nx:=u D} σ H
theorem wW:PSs X [] ON:=λ_ _ σ H _ I h=>YV ⟨σ,H,I,h⟩
theorem sF(h1:PS X st t)(h2:PSs X rest u):PSs X (st::rest) (O6 t u):=by
 intro pins s σ H D I h;refine wpAny_execs_cons (bE (h1 pins s σ H {D with nx:=u D} I h) λf F q=>?_);cases f with
 | next=>
  obtain⟨B,H',G,q⟩:=q;exact h2 pins F B H' D G q
 | ret v=>exact q
 | brk=>exact q
 | cont=>exact q
theorem w6(h1:PS X st t):PSs X [st] t:=by
 intro pins s σ H D I h;refine wpAny_execs_cons (bE (h1 pins s σ H D I h) λf B q=>?_);cases f with
 | next=>exact YV q
 | ret v=>exact q
 | brk=>exact q
 | cont=>exact q
theorem Inv.quiet(I:Inv X pins σ H s):interactive X.env=false:=by simp[interactive,I.ok.kind]
def NU(te:TE):TS:=λD σ H=>te σ H λ_ H1=>D.nx σ H1
theorem p8(q:PE X e te)(hs:U5 e none pos.line X.env=pure false:=by rfl):PS X (.Expr e pos) (NU te):=by
 intro pins s σ H D I h;exact wpAny_Expr_any (bE (q pins s σ H _ I h) λv G ⟨x,H1,B,J,F⟩=>⟨σ,H1,B,F⟩) I.quiet hs
def RM(te:TE):TS:=λD σ H=>te σ H D.rt
theorem CP(q:PE X e te):PS X (.Return (some e) pos) (RM te):=by
 intro pins s σ H D I h;exact wpAny_Return_some (bE (q pins s σ H _ I h) λv J ⟨x,H1,F,B,G⟩=>⟨x,σ,H1,F,B,G⟩)
def RD(c:TT)(t u:TS):TS:=λD σ H=>c σ H λb H1=>if b=true then t D σ H1 else u D σ H1
theorem DI{c:Expr}{a b:List Stmt}{tc:TT}(M:PT X c tc)(G:PSs X a t)(J:PSs X b u):PS X (.If c a b pos) (RD tc t u):=by
 intro pins s σ H D I h;refine wpAny_If (bE (M pins s σ H _ I h) λd q ⟨H1,B,F⟩=>?_);cases d with
 | true=>exact G pins q σ H1 D B F
 | false=>exact J pins q σ H1 D B F
end
abbrev TG:=V->St->Hp->(St->Hp->Prop)->Prop
abbrev HN:=List V->St->Hp->(St->Hp->Prop)->Prop
def PG(X:Cx)(q:Expr)(t:TG):Prop:=
 ∀(pins:List (Addr×Obj)) (s:TH) (σ:St) (H:Hp) (v:V) (u:Value) (Q:St->Hp->Prop),Inv X pins σ H s->RelV v u->t v σ H Q->
  wpAny (model X.prog X.w) X.A (VA q X.env u) (λ_ s'=>∃B H',Inv X pins B H' s'/\Q B H') X.xe s
def PGs(X:Cx)(ts:List Expr)(t:HN):Prop:=
 ∀(pins:List (Addr×Obj)) (s:TH) (σ:St) (H:Hp) (vs:List V) (us:List Value) (Q:St->Hp->Prop),Inv X pins σ H s->Vals vs us->t vs σ H Q->
  wpAny (model X.prog X.w) X.A (assignInOrder ((UO ts X.env).map (·.2)) us) (λ_ s'=>∃q H',Inv X pins q H' s'/\Q q H') X.xe s
abbrev DX:=V->V->V->Hp->(Hp->Prop)->Prop
def G9(X:Cx)(t:DX):Prop:=
 ∀(pins:List (Addr×Obj)) (s:TH) (σ:St) (H:Hp) (o i v:V) (ov iv u:Value) (Q:Hp->Prop),Inv X pins σ H s->RelV o ov->RelV i iv->RelV v u->t o i v H Q->
  wpAny (model X.prog X.w) X.A (setItem ov iv u) (λ_ s'=>∃H',Inv X pins σ H' s'/\Q H') X.xe s
section
variable {X:Cx}{pos:Pos}
def j7(i:Nat):TG:=λv σ H Q=>Q (σ.set i (some v)) H
theorem pR(B:X.N.Nodup)(hi:X.N[i]?=some x)(q:Loc X.env.scope x)(G:X.fn x=true\/X.env.scope.names.lookup x=some .local:=by first|exact .inl rfl|exact .inr rfl|assumption):PG X (.Name x pos) (j7 i):=by
 intro pins s σ H v u Q I r h;exact wpAny_assign_Name (sR I B hi q r (λs' F=>⟨_,H,F,h⟩) G)
def Q7:HN:=λvs σ H Q=>vs=[]/\Q σ H
def DG(t:TG)(u:HN):HN:=λvs σ H Q=>∃v r,vs=v::r/\t v σ H λq H'=>u r q H' Q
theorem wJ:PGs X [] Q7:=by
 intro pins s σ H vs q Q I r h;obtain⟨e,h⟩:=h;subst e;cases r;exact assignInOrder_nil ⟨σ,H,I,h⟩
theorem l5{e:Expr}{es:List Expr}{t:TG}{u:HN}(h1:PG X e t)(h2:PGs X es u)
  (hs:(UO (e::es) X.env).map (·.2)=VA e X.env::(UO es X.env).map (·.2):=by rfl):PGs X (e::es) (DG t u):=by
 intro pins s σ H vs N Q I r h;obtain⟨v,M,J,h⟩:=h;subst J;cases r with
 | cons r rr=>
  rw[hs];refine assignInOrder_cons (bE (h1 pins s σ H _ _ _ I r h) λ_ B ⟨q,H1,F,G⟩=>?_);exact h2 pins B q H1 _ _ Q F rr G
def O4(K:TK)(n:Nat)(t:HN):TG:=λv σ H Q=>∃a xs,v=.ref a/\SqT K H a xs/\xs.length=n/\t xs σ H Q
theorem u9(J:X.calm=true)(h:PGs X es t)
  (W:(UO es X.env).length=n:=by rfl) (q:(UO es X.env).findIdx? (·.1)=none:=by rfl):PG X (.Tuple es k pos) (O4 X.K n t):=by
 intro pins s σ H v u Q I r hw;obtain⟨a,xs,N,hq,F,hw⟩:=hw;subst N;cases r;obtain⟨U,B,G,hz⟩:=I.tuple hq;refine assign_Tuple_tuple (I.ok.hd J) G (by simp[W,<- F,B.length]) q λh' M=>?_
 have Y:Inv X pins σ H {s with heap:=h'}:=I.kept (t':=s.toks) λb o e=>M b o (UE (TX e)) e
 exact h pins _ σ H xs _ Q Y (by simpa using B) hw
def MS(to q:TE)(t:DX):TG:=λv σ H Q=>to σ H λo H1=>q σ H1 λi H2=>t o i v H2 λB=>Q σ B
theorem C8{o i:Expr}{to F:TE}{t:DX}(M:PE X o to)(hi:PE X i F)(hs:G9 X t)
  (N:∀v, VA (.Subscript o i pos) X.env v = (do
   let q <- WR [v] (eval o X.env);let B <- WR [v,q] (eval i X.env)
   standAt pos
   WR [v,q,B] (setItem q B v)
   release [v,q,B] []):=by intro _;rfl):PG X (.Subscript o i pos) (MS to F t):=by
 intro pins s σ H v u Q I r h;rw[N];refine TF (VG (bE (M pins s σ H _ I h) λq J ⟨x,H1,I1,U,q1⟩=>?_));refine TF (VG (bE (hi pins J σ H1 _ I1 q1) λB s2 ⟨y,H2,I2,G,Y⟩=>?_));refine TF (YW (TF (VG (bE (hs pins s2 σ H2 x y v q B u _ I2 U G r Y) λ_ s3 ⟨W,I3,q3⟩=>?_))));exact wpAny_release ⟨σ,W,I3,q3⟩
def DT(te:TE)(g:TG):TS:=λD σ H=>te σ H λx H1=>g x σ H1 D.nx
theorem vL{tg e:Expr}{te:TE}{g:TG}(F:PE X e te)(B:PG X tg g)(hs:W7 [tg] e pos.line X.env=pure false:=by rfl)(hw:W8 [tg] e X.env=pure none:=by rfl)
  (h1:(UO [tg] X.env).map (·.2)=[VA tg X.env]:=by rfl):PS X (.Assign [tg] e pos) (DT te g):=by
 intro pins s σ H D I h;refine wpAny_Assign_stores (bE (F pins s σ H _ I h) λv G ⟨x,H1,M,J,N⟩=>?_) hs hw;rw[h1];exact bE (B pins G σ H1 x v _ M J N) λ_ U q=>q
theorem u4{i:Nat}{x:Str}{e:Expr}{te:TE}{pos':Pos}(J:X.N.Nodup)(hi:X.N[i]?=some x)(F:Loc X.env.scope x)(q:PE X e te)(hs:U5 e (some (.Name x pos')) pos.line X.env=pure false:=by rfl)(W:X.fn x=true\/X.env.scope.names.lookup x=some .local:=by first|exact .inl rfl|exact .inr rfl|assumption) :
  PS X (.Assign [.Name x pos'] e pos) (DT te (j7 i)):=by
 intro pins s σ H D I h;refine wpAny_Assign_Name (bE (q pins s σ H _ I h) λv Y ⟨y,H1,M,B,U⟩=>?_) hs;exact sR M J hi F B (λs2 G=>⟨_,H1,G,U⟩) W
end
section
variable {X:Cx}{pos:Pos}
def IU(c:TT)(tb:TS):TS:=λD σ H=>∃W:Nat->St->Hp->Prop,(∃m,W m σ H)/\∀m σ H,W m σ H->
 c σ H λb H1=>if b=true then ∃N:St->Hp->Prop,(∀q H',N q H'->∃B,B<m/\W B q H')/\tb {D with nx:=N,ct:=N,bk:=D.nx} σ H1 else D.nx σ H1
theorem BM{c:Expr}{body:List Stmt}{tc:TT}{tb:TS}(hp:W9 (model X.prog X.w) X.A X.env X.xe)(hc:PT X c tc)(hb:PSs X body tb):PS X (.While c body [] pos) (IU tc tb):=by
 intro pins s σ H D I h;obtain⟨W,⟨m0,w0⟩,turn⟩:=h;refine wpAny_While (codeAny_whileLoop (λn s'=>∃G H',Inv X pins G H' s'/\W n G H') ?_ m0 ⟨σ,H,I,w0⟩);rintro n s1 ⟨B,H1,I1,w1⟩;refine W1 hp (bE (hc pins s1 B H1 _ I1 (turn n B H1 w1)) λb s2 ⟨H2,I2,J⟩=>?_);cases b with
 | true=>
  obtain⟨N,hN,J⟩:=J;rw[if_pos rfl];refine W1 hp (bE (hb pins s2 B H2 _ I2 J) λf s3 M=>?_);cases f with
  | next=>
   obtain⟨q,F,I3,n3⟩:=M;obtain⟨U,hm,Y⟩:=hN q F n3;exact⟨U,hm,q,F,I3,Y⟩
  | cont=>
   obtain⟨q,F,I3,n3⟩:=M;obtain⟨U,hm,Y⟩:=hN q F n3;exact⟨U,hm,q,F,I3,Y⟩
  | brk=>exact M
  | ret v=>exact M
 | false=>
  rw[if_neg T3];exact YV ⟨B,H2,I2,J⟩
end
structure It where
 go:Nat->Hp->Prop
 yld:Nat->Hp->V->Hp->Prop
 stop:Nat->Hp->Prop
def fM(X:Cx)(pins:List (Addr×Obj))(H:Hp)(b:Addr):Prop:=
 H b=none/\b≠X.env.locals/\b∉X.fs/\(b∈X.ex\/X.s₀.heap.objs.size<=b)/\(∀x c,X.env.cells.lookup x=some c->c≠b)/\∀p∈X.pn++pins,p.1≠b
theorem Inv.fpOk(I:Inv X pins σ H s)(B:s.heap.objs.size<=b)(G:H' b=none):fM X pins H' b:=by
 refine⟨G,UX (U9 I.lt B),I.nofs B,.inr (UV I.sz B),λx c e z=>?_,λp F z=>?_⟩
 ·obtain⟨v,q⟩:=I.cell x c e
  exact absurd (U9 q.lt (by rw[z];exact B)) (VN _)
 ·exact absurd (U9 (TX (I.pin p F).1) (by rw[z];exact B)) (VN _)
structure Turn(P:TN)(w:World)(K:TK)(tg:Expr)(J:It)(fp:List Addr)(it:Addr)(tn:Nat->Heap->Prop):Prop where
 mem:it∈fp
 obj:∀i h,tn i h->∀b∈fp,∃o,h.get? b=some o/\∀v,o.data≠.cell v
 keep:∀i h h',tn i h->(∀b∈fp,∀o,h.get? b=some o->h'.get? b=some o)->tn i h'
 item:∀(X:Cx),X.prog=P->X.w=w->X.K=K->X.calm=true->∀(i:Nat) (pins:List (Addr×Obj)) (s:TH) (σ:St) (H:Hp) (E:Value->TH->Prop),Inv X pins σ H s->(∀b∈fp,fM X pins H b)->tn i s.heap->J.go i H->
  wpAny (model P w) X.A (U3 (.ref it)) (λr s1=>∃u,r=some u /\
   wpAny (model P w) X.A (YX tg (.ref it) u) (λ_ s2=>∃x H',Inv X pins σ H' s2/\RelV x u/\J.yld i H x H'/\tn (i+1) s2.heap/\∀b∈fp,H' b=none) E s1) E s
 done:∀(X:Cx),X.prog=P->X.w=w->X.K=K->X.calm=true->∀(i:Nat) (pins:List (Addr×Obj)) (s:TH) (σ:St) (H:Hp) (E:Value->TH->Prop),Inv X pins σ H s->(∀b∈fp,fM X pins H b)->tn i s.heap->J.stop i H->
  wpAny (model P w) X.A (U3 (.ref it)) (λr s1=>r=none/\Inv X pins σ H s1) E s
 self:∀(A:TZ) (i:Nat) (s:TH) (Q:Value->TH->Prop) (E:Value->TH->Prop),tn i s.heap->Q (.ref it) s->wpAny (model P w) A (pyIter (.ref it)) Q E s
abbrev TI:=St->Hp->(It->Hp->Prop)->Prop
def PIE(X:Cx)(pins:List (Addr×Obj))(σ:St)(tg:Expr)(R:It->Hp->Prop)(q:Value)(B:TH):Prop:=
 ∃(it:Addr) (fp:List Addr) (tn:Nat->Heap->Prop) (J:It) (H':Hp),q=.ref it/\Inv X pins σ H' B/\Turn X.prog X.w X.K tg J fp it tn/\tn 0 B.heap/\(∀b∈fp,fM X pins H' b)/\R J H'
def PI(X:Cx)(tg q:Expr)(wi:TI):Prop:=
 ∀(pins:List (Addr×Obj)) (s:TH) (σ:St) (H:Hp) (R:It->Hp->Prop),Inv X pins σ H s->wi σ H R->
  wpAny (model X.prog X.w) X.A (eval q X.env) (λv B=>wpAny (model X.prog X.w) X.A (pyIter v) (PIE X pins σ tg R) X.xe B) X.xe s
theorem oR(F:s.heap.get? it=some o)(G:o.cls=.type n)(B:o.data=.fields vs)
    (J:["enumerate", "zip", "dict_itemiterator", "dict_reverseitemiterator", "odict_iterator", "itertools.zip_longest", "itertools.pairwise"].contains n=false) (q:Q () s):wpAny M A (YX tg (.ref it) u) Q E s:=by
  unfold YX;cases tg <;> first
    | exact TJ q
    | (cases u <;> first
        | exact TJ q
        | (refine TF (wpAny_load F ?_)
           rw[G,B];show wpAny M A (if(["enumerate", "zip", "dict_itemiterator", "dict_reverseitemiterator", "odict_iterator", "itertools.zip_longest", "itertools.pairwise"].contains n && vs[0]? == some (UY _))=true then _ else _) Q E s;rw[if_neg (by intro h;rw[J,Bool.false_and]at h;cases h)];exact TJ q))
def RQ(K:TK)(a:Addr):It:=
 ⟨λi H=>∃xs x,SqL K H a xs/\xs[i]?=some x,λi H x H'=>H'=H/\∀xs,SqL K H a xs->xs[i]?=some x,λi H=>∃xs,SqL K H a xs/\xs.length<=i⟩
def RW(K:TK)(a:Addr):It:=
 ⟨λi H=>∃xs x,SqT K H a xs/\xs[i]?=some x,λi H x H'=>H'=H/\∀xs,SqT K H a xs->xs[i]?=some x,λi H=>∃xs,SqT K H a xs/\xs.length<=i⟩
noncomputable def PZ(lo:Int)(n:Nat):It:=⟨λi _=>i<n,λi H x H'=>H'=H/\x=.int (lo+i),λi _=>n<=i⟩
theorem zT{P:TN}{w:World}{K:TK}{tg:Expr}(a it:Addr):Turn P w K tg (RQ K a) [it] it (λi h=>h.IsListIter it a i) where
 mem:=by simp
 obj:=λi h st b q=>by
  have e:b=it:=by simpa using q
  subst e;obtain⟨o,e,c,d⟩:=st;exact⟨o,e,λv z=>by rw[d]at z;cases z⟩
 keep:=λi h h' st k=>st.at λo e=>k it (by simp) o e
 item:=by
  intro X M hw hK hc i pins s σ H E I F st N;subst M hw hK;obtain⟨xs,x,G,U⟩:=N;obtain⟨Y,rv,p,hz⟩:=I.list G;obtain⟨u,hu,ru⟩:=rv.get U;obtain⟨f0,f1,f2,f3,J,W⟩:=F it (by simp);refine wpAny_pyNext_list_item st p.isList (x:=u) (by simpa using hu) λh' B sb=>?_
  have I1:Inv X pins σ H {s with heap:=h'}:=I.turned (t':=s.toks) (λb o q e=>(sb.2 b q).trans e) f0 f1 f3 J W;obtain⟨o,e,c,d⟩:=id B;exact⟨u,rfl,oR (s:={s with heap:=h'}) e c d (by decide) ⟨x,H,I1,ru,⟨rfl,λys hy=>by rw[I.list_inj hy G];exact U⟩,B,λb q=>(F b q).1⟩⟩
 done:=by
  intro X M hw hK hc i pins s σ H E I F st N;subst M hw hK;obtain⟨xs,G,U⟩:=N;obtain⟨Y,rv,p,hz⟩:=I.list G;obtain⟨f0,f1,f2,f3,J,W⟩:=F it (by simp);have hl:=rv.length;exact wpAny_pyNext_list_end (I.ok.hd hc) st p.isList (by simp;lia) λh' eb=>⟨rfl,I.turned (t':=s.toks) (λb o q e=>eb b o q e) f0 f1 f3 J W⟩
 self:=λ_ _ _ _ _ st h=>wpAny_pyIter_listiter st h
theorem uS{P:TN}{w:World}{K:TK}{tg:Expr}(a it:Addr):Turn P w K tg (RW K a) [it] it (λi h=>h.IsTupleIter it a i) where
 mem:=by simp
 obj:=λi h st b B=>by
  have e:b=it:=by simpa using B
  subst e;obtain⟨o,e,c,d⟩:=st;exact⟨o,e,λv z=>by rw[d]at z;cases z⟩
 keep:=λi h h' st k=>st.at λo e=>k it (by simp) o e
 item:=by
  intro X N hw hK hc i pins s σ H E I G st U;subst N hw hK;obtain⟨xs,x,J,W⟩:=U;obtain⟨q,rv,p,hz⟩:=I.tuple J;obtain⟨u,hu,ru⟩:=rv.get W;obtain⟨f0,f1,f2,f3,M,Y⟩:=G it (by simp);refine wpAny_pyNext_tuple_item st (show s.heap.IsTuple a q.toArray from p) (x:=u) (by simpa using hu) λh' F sb=>?_
  have I1:Inv X pins σ H {s with heap:=h'}:=I.turned (t':=s.toks) (λb o B e=>(sb.2 b B).trans e) f0 f1 f3 M Y;obtain⟨o,e,c,d⟩:=id F;exact⟨u,rfl,oR (s:={s with heap:=h'}) e c d (by decide) ⟨x,H,I1,ru,⟨rfl,λys hy=>by rw[I.tuple_inj hy J];exact W⟩,F,λb B=>(G b B).1⟩⟩
 done:=by
  intro X N hw hK hc i pins s σ H E I G st U;subst N hw hK;obtain⟨xs,J,W⟩:=U;obtain⟨q,rv,p,hz⟩:=I.tuple J;obtain⟨f0,f1,f2,f3,M,Y⟩:=G it (by simp);have hl:=rv.length;exact wpAny_pyNext_tuple_end (I.ok.hd hc) st (show s.heap.IsTuple a q.toArray from p) (by simp;lia) λh' eb=>⟨rfl,I.turned (t':=s.toks) (λb o B e=>eb b o B e) f0 f1 f3 M Y⟩
 self:=λ_ _ _ _ _ st h=>wpAny_pyIter_tupleiter st h
theorem uG{P:TN}{w:World}{K:TK}{tg:Expr}(it:Addr)(lo:Int)(n:Nat):Turn P w K tg (PZ lo n) [it] it (λi h=>IsRangeIter h it (lo+(i:Nat)*1) ((n:Int)-(i:Nat)) 1) where
 mem:=by simp
 obj:=λi h st b q=>by
  have e:b=it:=by simpa using q
  subst e;exact⟨_,st,λv z=>by
   have z':Data.fields _=Data.cell v:=z;cases z'⟩
 keep:=λi h h' st k=>k it (by simp) _ st
 item:=by
  intro X Y hw hK N i pins s σ H E I F st G;subst Y hw hK;obtain⟨f0,f1,f2,J,M,U⟩:=F it (by simp);have W:=Walks.range (prog:=X.prog) (w:=X.w) (I.ok.hd N) it lo 1 n;refine W.item i s _ _ G st λv h' tk hv B kk=>?_
  obtain⟨t,rfl⟩:=hv;have I1:Inv X pins σ H {s with heap:=h',toks:=tk}:=I.turned (λb o q e=>kk b o (by simpa using q) e) f0 f1 J M U;refine⟨_,rfl,oR (s:={s with heap:=h',toks:=tk}) (n := "range_iterator") B rfl rfl (by decide) ⟨.int (lo+i),H,I1,⟨t,?_⟩,⟨rfl,rfl⟩,B,λb q=>(F b q).1⟩⟩;rw[Int.mul_one]
 done:=by
  intro X Y hw hK N i pins s σ H E I F st G;subst Y hw hK;obtain⟨f0,f1,f2,J,M,U⟩:=F it (by simp);exact wpAny_pyNext_range_end (I.ok.hd N) st (by have:n<=i:=G;lia) λh' eb=>⟨rfl,I.turned (t':=s.toks) (λb o q e=>eb b o q e) f0 f1 J M U⟩
 self:=λ_ _ _ _ _ st h=>wpAny_pyIter_rangeiter st h
section
variable {X:Cx}{tg:Expr}
def NQ(K:TK)(tl:TE):TI:=λσ H R=>tl σ H λx H1=>∃a,x=.ref a/\(∃xs,SqL K H1 a xs)/\R (RQ K a) H1
def Q2(K:TK)(tl:TE):TI:=λσ H R=>tl σ H λx H1=>∃a,x=.ref a/\(∃xs,SqT K H1 a xs)/\R (RW K a) H1
theorem E3{l:Expr}{tl:TE}(G:PE X l tl):PI X tg l (NQ X.K tl):=by
 intro pins s σ H R I h;refine bE (G pins s σ H _ I h) λv B ⟨x,H1,F,M,N⟩=>?_
 obtain⟨a,e,⟨xs,W⟩,q⟩:=N;subst e;cases M;obtain⟨U,Y,p,hz⟩:=F.list W;refine wpAny_pyIter_list p.isList ?_;refine⟨B.heap.objs.size,[B.heap.objs.size],_,_,H1,rfl,F.kept (t':=B.toks) λb o e=>T4 _ e,zT a _,⟨_,UC _ rfl,rfl,rfl⟩,λb J=>?_,q⟩;have e:b=B.heap.objs.size:=by simpa using J
 subst e;exact F.fpOk (T5 _) (F.hok.fresh (T5 _))
theorem LM{l:Expr}{tl:TE}(J:PE X l tl):PI X tg l (Q2 X.K tl):=by
 intro pins s σ H R I h;refine bE (J pins s σ H _ I h) λv B ⟨x,H1,F,N,U⟩=>?_
 obtain⟨a,e,⟨xs,W⟩,q⟩:=U;subst e;cases N;obtain⟨G,Y,p,hz⟩:=F.tuple W;refine X4 (show B.heap.IsTuple a G.toArray from p) ?_;refine⟨B.heap.objs.size,[B.heap.objs.size],_,_,H1,rfl,F.kept (t':=B.toks) λb o e=>T4 _ e,uS a _,⟨_,UC _ rfl,rfl,rfl⟩,λb M=>?_,q⟩;have e:b=B.heap.objs.size:=by simpa using M
 subst e;exact F.fpOk (T5 _) (F.hok.fresh (T5 _))
theorem sE{pins:List (Addr×Obj)}{σ:St}{H:Hp}{s:TH}{R:It->Hp->Prop}{E:Value->TH->Prop}{lo hi:Int}{t u v:Tok}{tk:Nat}(I:Inv X pins σ H s)(h1:-(2^62)<=lo)(h2:lo<2^62)(F:-(2^62)<=hi)(G:hi<2^62)
  (q:R (PZ lo (hi-lo).toNat) H):wpAny (model X.prog X.w) X.A (pyIter (.ref s.heap.objs.size)) (PIE X pins σ tg R) E {s with heap:=s.heap.push {cls:=.type "range",data:=.fields #[.int lo t,.int hi u,.int 1 v]},toks:=tk}:=by
 refine wpAny_pyIter_range (IsRange.new ..) (small_one h1 h2 F G) ?_;have B:Inv X pins σ H {s with heap:=s.heap.push {cls:=.type "range",data:=.fields #[.int lo t,.int hi u,.int 1 v]},toks:=tk}:=I.kept λb o e=>T4 _ e
 refine⟨(s.heap.push {cls:=.type "range",data:=.fields #[.int lo t,.int hi u,.int 1 v]}).objs.size,[(s.heap.push {cls:=.type "range",data:=.fields #[.int lo t,.int hi u,.int 1 v]}).objs.size],_,_,H,rfl,
  B.kept (t':=tk) λb o e=>T4 _ e,uG _ lo (hi-lo).toNat,?_,λb J=>?_,q⟩
 ·have M:lo+((0:Nat):Int)*1=lo:=by simp
  have N:(((hi-lo).toNat:Nat):Int)-((0:Nat):Int)=Builtin.Range.rangeSize lo hi 1:=by rw[rangeSize_one];split <;> lia
  show IsRangeIter _ _ (lo+((0:Nat):Int)*1) ((((hi-lo).toNat:Nat):Int)-((0:Nat):Int)) 1;rw[M,N];exact UC _ rfl
 ·have e:b=(s.heap.push {cls:=.type "range",data:=.fields #[.int lo t,.int hi u,.int 1 v]}).objs.size:=by simpa using J
  subst e;exact B.fpOk (T5 _) (B.hok.fresh (T5 _))
def N2(ta:TA):TI:=λσ H R=>ta σ H λvs H1=>∃j:Int,vs=[.int j]/\-(2^62)<=j/\j<2^62/\R (PZ 0 j.toNat) H1
def OA(ta:TA):TI:=λσ H R=>ta σ H λvs H1=>∃i j:Int,vs=[.int i,.int j]/\(-(2^62)<=i/\i<2^62/\-(2^62)<=j/\j<2^62)/\R (PZ i (j-i).toNat) H1
theorem yQ{a:Expr}{ta:TA}{p pos:Pos}(F:Gl X "range")(J:X.mg "range" = none)(G:PA X [a] ta)(hs:TL [a] X.env=[(false,eval a X.env)]:=by rfl):PI X tg (.Call (.Name "range" p) [a] [] pos) (N2 ta):=by
 intro pins s σ H R I h;refine Call_ (jA I F J boot_range (YY (bE (G pos pins s σ H _ I h) λY W ⟨vs,H1,U,M,B⟩=>?_) hs rfl));obtain⟨j,e,B,N,q⟩:=B;subst e;cases M with
 | cons r rr=>
  cases rr;obtain⟨t,rfl⟩:=r;exact call_range_1 (sE U (by lia) (by lia) B N (by simpa using q))
theorem yR{a b:Expr}{ta:TA}{p pos:Pos}(G:Gl X "range")(M:X.mg "range" = none)(J:PA X [a,b] ta)(hs:TL [a,b] X.env=[(false,eval a X.env),(false,eval b X.env)]:=by rfl)(B:TL [b] X.env=[(false,eval b X.env)]:=by rfl) :
  PI X tg (.Call (.Name "range" p) [a,b] [] pos) (OA ta):=by
 intro pins s σ H R I h;refine Call_ (jA I G M boot_range (YY (bE (J pos pins s σ H _ I h) λus s1 ⟨vs,H1,I1,N,F⟩=>?_) (by rw[hs,B]) (by rw[B];rfl)));obtain⟨i,j,e,⟨F,W,Y,U⟩,q⟩:=F;subst e;cases N with
 | cons r rr=>
  cases rr with
  | cons r' rr=>
   cases rr;obtain⟨t,rfl⟩:=r;obtain⟨t',rfl⟩:=r';exact call_range_2 (sE I1 F W Y U q)
def QS(wi:TI)(g:TG)(tb:TS):TS:=λD σ H=>wi σ H λJ H1=>∃W:Nat->Nat->St->Hp->Prop,(∃m,W 0 m σ H1)/\∀i m σ H,W i m σ H->
 (J.stop i H/\D.nx σ H)\/(J.go i H/\∃N:St->Hp->Prop,(∀q H',N q H'->∃F,F<m/\W (i+1) F q H')/\∀x H',J.yld i H x H'->g x σ H' λB H2=>tb {D with nx:=N,ct:=N,bk:=D.nx} B H2)
noncomputable def mJ(fp:List Addr)(h:Heap):List (Addr×Obj):=fp.filterMap λb=>(h.get? b).map λo=>(b,o)
theorem dW(q:b∈fp)(e:h.get? b=some o):(b,o)∈mJ fp h:=List.mem_filterMap.mpr ⟨b,q,by rw[e];rfl⟩
theorem y8(B:p∈mJ fp h):p.1∈fp/\h.get? p.1=some p.2:=by
 obtain⟨b,F,e⟩:=List.mem_filterMap.mp B;cases q:h.get? b with
 | none=>rw[q]at e;cases e
 | some o=>
  rw[q]at e;have G:(b,o)=p:=UL e;subst G;exact⟨F,q⟩
theorem Inv.pinned(I:Inv X pins σ H s)(N:∀b∈fp,fM X pins H b)(G:∀b∈fp,∃o,s.heap.get? b=some o/\∀v,o.data≠.cell v):Inv X (pins++mJ fp s.heap) σ H s:=
 I.pins_of λp F=>(List.mem_append.mp F).elim (λz=>I.pin p (VZ _ z)) λz=>by
  obtain⟨B,e⟩:=y8 z;obtain⟨f0,M,J,_⟩:=N p.1 B;obtain⟨o,q,d⟩:=G p.1 B;rw[e]at q;cases q;exact⟨e,f0,M,J,d⟩
theorem Inv.unpinned(I:Inv X (pins++pl) σ H s):Inv X pins σ H s:=I.pins_of λp q=>I.pin p (VZ _ (YT _ q))
theorem K4{Y:Expr}{body:List Stmt}{wi:TI}{g:TG}{tb:TS}{pos:Pos}(hp:W9 (model X.prog X.w) X.A X.env X.xe)(hc:X.calm=true)(hi:PI X tg Y wi)(hg:PG X tg g)(U:PSs X body tb)
  (hs:∀x,WK Y X.env x=pure x:=by intro _;rfl):PS X (.For tg Y body [] pos) (QS wi g tb):=by
 intro pins s σ H D I h;refine wpAny_For (bE (hi pins s σ H _ I h) λv s1 h1=>bE h1 λbc s2 h2=>?_) hs;obtain⟨it,fp,tn,J,H2,e,I2,T,al,f2,W,⟨m0,w0⟩,turn⟩:=h2;subst e
 -- what stays true of the iterator's objects through the loop
 have F:∀ {H':Hp},(∀b∈fp,H' b=none)->∀b∈fp,fM X pins H' b:=λhn b U=>⟨hn b U,(f2 b U).2⟩
 refine codeAny_forLoop_any (λn s'=>∃i M H',Inv X pins M H' s'/\tn i s'.heap/\(∀b∈fp,H' b=none)/\W i n M H') ?_ m0 ⟨0,σ,H2,I2,al,λb U=>(f2 b U).1,w0⟩;rintro n s3 ⟨i,aa,H3,I3,ai,ae,w3⟩;rcases turn i n aa H3 w3 with⟨ah,qn⟩|⟨go,N,hN,step⟩
 ·refine W1 hp (bE (T.done X rfl rfl rfl hc i pins s3 aa H3 X.xe I3 (F ae) ai ah) λr s4 ⟨hr,I4⟩=>?_)
  subst hr;exact YV ⟨aa,H3,I4,qn⟩
 ·refine W1 hp (bE (T.item X rfl rfl rfl hc i pins s3 aa H3 X.xe I3 (F ae) ai go) λr s4 ⟨u,hr,h4⟩=>?_)
  subst hr;refine W1 hp (bE h4 λ_ s5 ⟨x,H5,I5,r5,y5,ad,ak⟩=>?_);have ap:=I5.pinned (F ak) (T.obj _ _ ad);refine W1 hp (bE (hg _ s5 aa H5 x u _ ap r5 (step x H5 y5)) λ_ s6 ⟨an,H6,I6,q6⟩=>?_);refine W1 hp (bE (U _ s6 an H6 _ I6 q6) λf s7 q7=>?_);have G:∀ {q:St} {B:Hp},Inv X (pins++mJ fp s5.heap) q B s7->N q B->∃m,m<n/\∃i M H',Inv X pins M H' s7/\tn i s7.heap/\(∀b∈fp,H' b=none)/\W i m M H':=λ{q B} I7 n7=>by
   obtain⟨m',hm,w7⟩:=hN q B n7;refine⟨m',hm,i+1,q,B,I7.unpinned,T.keep _ _ _ ad λb U o e=>(I7.pin (b,o) (VZ _ (VZ _ (dW U e)))).1,λb U=>?_,w7⟩;obtain⟨o,e,d⟩:=T.obj _ _ ad b U;exact(I7.pin (b,o) (VZ _ (VZ _ (dW U e)))).2.1
  cases f with
  | next=>obtain⟨q,B,I7,n7⟩:=q7;exact G I7 n7
  | cont=>obtain⟨q,B,I7,n7⟩:=q7;exact G I7 n7
  | brk=>obtain⟨q,B,I7,q7⟩:=q7;exact⟨q,B,I7.unpinned,q7⟩
  | ret v=>obtain⟨x7,q,B,I7,r7,q7⟩:=q7;exact⟨x7,q,B,I7.unpinned,r7,q7⟩
end
abbrev R2:=V->V->Hp->VK->Prop
def OpR(X:Cx)(f:Value->Value->Sem Value)(r:R2):Prop:=
 ∀(pins:List (Addr×Obj)) (s:TH) (σ:St) (H:Hp) (x y:V) (v u:Value) (Q:VK),Inv X pins σ H s->RelV x v->RelV y u->r x y H Q->
  wpAny (model X.prog X.w) X.A (f v u) (EP X pins σ Q) X.xe s
def RZ(X:Cx)(f:Value->Sem Value)(r:V->Hp->VK->Prop):Prop:=
 ∀(pins:List (Addr×Obj)) (s:TH) (σ:St) (H:Hp) (x:V) (v:Value) (Q:VK),Inv X pins σ H s->RelV x v->r x H Q->
  wpAny (model X.prog X.w) X.A (f v) (EP X pins σ Q) X.xe s
def CallR(X:Cx)(f:Value)(r:List V->Hp->VK->Prop):Prop:=
 ∀(pins:List (Addr×Obj)) (s:TH) (σ:St) (H:Hp) (xs:List V) (us:List Value) (Q:VK),Inv X pins σ H s->Vals xs us->r xs H Q->
  wpAny (model X.prog X.w) X.A (call f us) (EP X pins σ Q) X.xe s
def M7(r:R2)(ta tb:TE):TE:=λσ H Q=>ta σ H λx H1=>tb σ H1 λy H2=>r x y H2 Q
def S6(r:V->Hp->VK->Prop)(ta:TE):TE:=λσ H Q=>ta σ H λx H1=>r x H1 Q
def rI(C:Int->Int->Prop)(g:Int->Int->V):R2:=λx y H Q=>∃i j,x=.int i/\y=.int j/\C i j/\Q (g i j) H
def D9(g:Int->Int->V):R2:=λx y H Q=>∃i j,x=.int i/\y=.int j/\Q (g i j) H
def rU(g:Int->V):V->Hp->VK->Prop:=λx H Q=>∃i,x=.int i/\Q (g i) H
section
variable {X:Cx}{a b c:Expr}{ta tb tc:TE}{pos:Pos}
theorem MU(G:PE X a ta)(M:PE X b tb){pins:List (Addr×Obj)}{s:TH}{σ:St}{H:Hp}{R:V->V->Hp->Prop}(I:Inv X pins σ H s)
  (h:ta σ H λx H1=>tb σ H1 λy H2=>R x y H2) {Q:Value->TH->Prop} {f:Value->Value->Sem Value}
  (hf:∀v u F x y H2,Inv X pins σ H2 F->RelV x v->RelV y u->R x y H2->wpAny (model X.prog X.w) X.A (f v u) Q X.xe F) :
  wpAny (model X.prog X.w) X.A (eval a X.env) (λv q=>wpAny (model X.prog X.w) X.A (eval b X.env) (λu B=>wpAny (model X.prog X.w) X.A (f v u) Q X.xe B) X.xe q) X.xe s:=by
 refine bE (G pins s σ H _ I h) λv J ⟨x,H1,Y,N,q1⟩=>?_
 refine bE (M pins J σ H1 _ Y q1) λu F ⟨y,H2,W,r2,U⟩=>?_
 exact hf v u F x y H2 W N r2 U
theorem II{op:Operator}{r:R2}(F:OpR X (UQ op) r)(B:PE X a ta)(U:PE X b tb):PE X (.BinOp a op b pos) (M7 r ta tb):=by
 intro pins s σ H Q I h;exact wpAny_BinOp (MU B U I h λv u M x y H2 J N G q=>F pins M σ H2 x y v u Q J N G q)
theorem N4{op:UnaryOp}{r:V->Hp->VK->Prop}(q:RZ X (unaryOp op) r)(F:PE X a ta):PE X (.UnaryOp op a pos) (S6 r ta):=by
 intro pins s σ H Q I h;exact UnaryOp_ (bE (F pins s σ H _ I h) λv B ⟨x,H1,J,G,M⟩=>q pins B σ H1 x v Q J G M)
theorem P3{f:Value->Value->Sem Value}{C:Int->Int->Prop}{g:Int->Int->Int}
  (B:∀(i j:Int) (t u:Tok) (s:TH) (Q:Value->TH->Prop) (E:Value->TH->Prop),C i j->Q (.int (g i j) s.toks) {s with toks:=s.toks+1}->wpAny (model X.prog X.w) X.A (f (.int i t) (.int j u)) Q E s) :
  OpR X f (rI C λi j=>.int (g i j)):=by
 intro pins s σ H x y v u Q I G J h;obtain⟨i,j,rfl,rfl,F,q⟩:=h;obtain⟨t,rfl⟩:=G;obtain⟨t',rfl⟩:=J;exact B i j t t' s _ _ F ⟨.int (g i j),H,I.tok _,⟨_,rfl⟩,q⟩
theorem PC{f:Value->Value->Sem Value}{g:Int->Int->Int}
  (B:∀(i j:Int) (t u:Tok) (s:TH) (Q:Value->TH->Prop) (E:Value->TH->Prop),Q (.int (g i j) s.toks) {s with toks:=s.toks+1}->wpAny (model X.prog X.w) X.A (f (.int i t) (.int j u)) Q E s) :
  OpR X f (D9 λi j=>.int (g i j)):=by
 intro pins s σ H x y v u Q I F G h;obtain⟨i,j,rfl,rfl,q⟩:=h;obtain⟨t,rfl⟩:=F;obtain⟨t',rfl⟩:=G;exact B i j t t' s _ _ ⟨.int (g i j),H,I.tok _,⟨_,rfl⟩,q⟩
theorem HA{f:Value->Value->Sem Value}{g:Int->Int->Bool}
  (B:∀(i j:Int) (t u:Tok) (s:TH) (Q:Value->TH->Prop) (E:Value->TH->Prop),Q (.bool (g i j)) s->wpAny (model X.prog X.w) X.A (f (.int i t) (.int j u)) Q E s) :
  OpR X f (D9 λi j=>.bl (g i j)):=by
 intro pins s σ H x y v u Q I F G h;obtain⟨i,j,rfl,rfl,q⟩:=h;obtain⟨t,rfl⟩:=F;obtain⟨t',rfl⟩:=G;exact B i j t t' s _ _ ⟨.bl (g i j),H,I,rfl,q⟩
def HF(i j:Int):Prop:=0<j/\j<1073741824
def HL(i j:Int):Prop:=0<=j/\j<=1000000/\i.natAbs<2^64
theorem KU:OpR X (UQ .Add) (D9 λi j=>.int (i+j)):=PC λ_ _ _ _ _ _ _ q=>add_int q
theorem MC:OpR X (UQ .Sub) (D9 λi j=>.int (i-j)):=PC λ_ _ _ _ _ _ _ q=>sub_int q
theorem FA:OpR X (UQ .FloorDiv) (rI HF λi j=>.int (i/j)):=P3 λi j _ _ _ _ _ B q=>by
 have h1:(0:Int)<j:=B.1;have h2:j<1073741824:=B.2;exact floordiv_int (by lia) (by rw[Int.fdiv_eq_ediv_of_nonneg i (by lia)];exact q) (.inl (PyProof.noPylong_small (by lia)))
theorem J4:OpR X (UQ .Mod) (rI (λ_ j=>0<j) λi j=>.int (i%j)):=P3 λi j _ _ _ _ _ B q=>by
 have h1:(0:Int)<j:=B;exact mod_int' (by lia) (by rw[Int.fmod_eq_emod_of_nonneg i (by lia)];exact q)
theorem KN:OpR X (UQ .Pow) (rI HL λi j=>.int (i^j.toNat)):=P3 λ_ _ _ _ _ _ _ B q=>pow_int_small B.1 B.2.1 B.2.2 q
theorem SO{f:Value->Sem Value}{g:Int->Int}
  (B:∀(i:Int) (t:Tok) (s:TH) (Q:Value->TH->Prop) (E:Value->TH->Prop),Q (.int (g i) s.toks) {s with toks:=s.toks+1}->wpAny (model X.prog X.w) X.A (f (.int i t)) Q E s) :
  RZ X f (rU λi=>.int (g i)):=by
 intro pins s σ H x v Q I F h;obtain⟨i,rfl,q⟩:=h;obtain⟨t,rfl⟩:=F;exact B i t s _ _ ⟨.int (g i),H,I.tok _,⟨_,rfl⟩,q⟩
theorem LX:RZ X (unaryOp .USub) (rU λi=>.int (-i)):=SO λ_ _ _ _ _ q=>neg_int q
end
noncomputable def MV:V->V->Bool
 | .non,.non=>true | .non,.int _=>true | .int _,.non=>true | .non,.bl _=>true | .bl _,.non=>true | .non,.str _=>true | .str _,.non=>true
 | .int _,.int _=>true | .bl _,.bl _=>true | .str _,.str _=>true | .byt _,.byt _=>true
 | .int _,.str _=>true | .str _,.int _=>true | .bl _,.str _=>true | .str _,.bl _=>true
 | _,_=>false
def S7:R2:=λx y H Q=>MV x y=true/\Q (.bl (decide (x=y))) H
def SW:R2:=λx y H Q=>MV x y=true/\Q (.bl (!decide (x=y))) H
theorem xE:decide (V.int i=V.int j)=(i == j):=by
 rw[X5];simp
theorem C7:decide (V.bl i=V.bl j)=(i == j):=by
 rw[X5];simp
theorem wI:decide (V.str i=V.str j)=(i == j):=by
 rw[X5];simp
theorem wQ:decide (V.byt i=V.byt j)=(i.toList == j.toList):=by
 rw[X5];cases i;cases j;simp
section
variable {X:Cx}{a b c:Expr}{ta tb tc:TE}{pos:Pos}
theorem aS(I:Inv X pins σ H s)(q:Q (.bl k) H)(e:k=k'):EP X pins σ Q (.bool k') s:=by
 subst e;exact⟨.bl k,H,I,rfl,q⟩
theorem N5:OpR X (TY .Eq) S7:=by
 intro pins s σ H x y v u Q I F B h;obtain⟨hs,q⟩:=h;cases x with
 | non=>
  cases F;cases y with
  | non=>cases B;exact PySem.EqNone.eq_none_none (aS I q (by simp))
  | bl j=>cases B;exact PySem.EqNone.eq_none_bool (aS I q (by simp))
  | int j=>obtain⟨t',rfl⟩:=B;exact PySem.EqNone.eq_none_int (aS I q (by simp))
  | str j=>obtain⟨t',rfl⟩:=B;exact PySem.EqNone.eq_none_str (aS I q (by simp))
  | _=>exact absurd (show false=true from hs) T3
 | bl i=>
  cases F;cases y with
  | non=>cases B;exact PySem.EqNone.eq_bool_none (aS I q (by simp))
  | bl j=>cases B;exact eq_bool (aS I q C7)
  | str j=>obtain⟨t',rfl⟩:=B;exact PySem.EqMixed.eq_bool_str (aS I q (by simp))
  | _=>exact absurd (show false=true from hs) T3
 | int i=>
  obtain⟨t,rfl⟩:=F;cases y with
  | non=>cases B;exact PySem.EqNone.eq_int_none (aS I q (by simp))
  | int j=>obtain⟨t',rfl⟩:=B;exact eq_int (aS I q xE)
  | str j=>obtain⟨t',rfl⟩:=B;exact PySem.EqMixed.eq_int_str (aS I q (by simp))
  | _=>exact absurd (show false=true from hs) T3
 | str i=>
  obtain⟨t,rfl⟩:=F;cases y with
  | non=>cases B;exact PySem.EqNone.eq_str_none (aS I q (by simp))
  | bl j=>cases B;exact PySem.EqMixed.eq_str_bool (aS I q (by simp))
  | int j=>obtain⟨t',rfl⟩:=B;exact PySem.EqMixed.eq_str_int (aS I q (by simp))
  | str j=>obtain⟨t',rfl⟩:=B;exact eq_str (aS I q wI)
  | _=>exact absurd (show false=true from hs) T3
 | byt i=>
  obtain⟨t,rfl⟩:=F;cases y with
  | byt j=>obtain⟨t',rfl⟩:=B;exact PySem.W.eq_bytes (aS I q wQ)
  | _=>exact absurd (show false=true from hs) T3
 | _=>cases y <;> exact absurd (show false=true from hs) T3
theorem NP:OpR X (TY .NotEq) SW:=by
 intro pins s σ H x y v u Q I F B h;obtain⟨hs,q⟩:=h;cases x with
 | non=>
  cases F;cases y with
  | non=>cases B;exact PySem.EqNone.ne_none_none (aS I q (by simp))
  | bl j=>cases B;exact PySem.EqNone.ne_none_bool (aS I q (by simp))
  | int j=>obtain⟨t',rfl⟩:=B;exact PySem.EqNone.ne_none_int (aS I q (by simp))
  | str j=>obtain⟨t',rfl⟩:=B;exact PySem.EqNone.ne_none_str (aS I q (by simp))
  | _=>exact absurd (show false=true from hs) T3
 | bl i=>
  cases F;cases y with
  | non=>cases B;exact PySem.EqNone.ne_bool_none (aS I q (by simp))
  | bl j=>cases B;exact ne_bool (aS I q (congrArg not C7))
  | str j=>obtain⟨t',rfl⟩:=B;exact PySem.EqMixed.ne_bool_str (aS I q (by simp))
  | _=>exact absurd (show false=true from hs) T3
 | int i=>
  obtain⟨t,rfl⟩:=F;cases y with
  | non=>cases B;exact PySem.EqNone.ne_int_none (aS I q (by simp))
  | int j=>obtain⟨t',rfl⟩:=B;exact ne_int (aS I q (congrArg not xE))
  | str j=>obtain⟨t',rfl⟩:=B;exact PySem.EqMixed.ne_int_str (aS I q (by simp))
  | _=>exact absurd (show false=true from hs) T3
 | str i=>
  obtain⟨t,rfl⟩:=F;cases y with
  | non=>cases B;exact PySem.EqNone.ne_str_none (aS I q (by simp))
  | bl j=>cases B;exact PySem.EqMixed.ne_str_bool (aS I q (by simp))
  | int j=>obtain⟨t',rfl⟩:=B;exact PySem.EqMixed.ne_str_int (aS I q (by simp))
  | str j=>obtain⟨t',rfl⟩:=B;exact ne_str (aS I q (congrArg not wI))
  | _=>exact absurd (show false=true from hs) T3
 | byt i=>
  obtain⟨t,rfl⟩:=F;cases y with
  | byt j=>obtain⟨t',rfl⟩:=B;exact PySem.W.ne_bytes (aS I q (congrArg not wQ))
  | _=>exact absurd (show false=true from hs) T3
 | _=>cases y <;> exact absurd (show false=true from hs) T3
theorem OI:OpR X (TY .Lt) (D9 λi j=>.bl (decide (i<j))):=HA λ_ _ _ _ _ _ _ q=>lt_int q
theorem ND:OpR X (TY .LtE) (D9 λi j=>.bl (decide (i<=j))):=HA λ_ _ _ _ _ _ _ q=>le_int q
theorem NR:OpR X (TY .Gt) (D9 λi j=>.bl (decide (j<i))):=HA λ_ _ _ _ _ _ _ q=>gt_int q
theorem OG:OpR X (TY .GtE) (D9 λi j=>.bl (decide (j<=i))):=HA λ_ _ _ _ _ _ _ q=>ge_int q
theorem zK:OpR X (TY .In) (λx y H Q=>∃i j,x=.str i/\y=.str j/\Q (.bl (!(Builtin.Str.occurrences j i 0 j.length 1).isEmpty)) H):=by
 intro pins s σ H x y v u Q I B F h;obtain⟨i,j,rfl,rfl,q⟩:=h;obtain⟨t,rfl⟩:=B;obtain⟨t',rfl⟩:=F;exact in_str (aS I q rfl)
theorem KO:OpR X (TY .Is) (λx y H Q=>y=.non/\Q (.bl (decide (x=.non))) H):=by
 intro pins s σ H x y v u Q I B F h;obtain⟨rfl,q⟩:=h;cases F;refine is_none_gen (aS I q ?_);cases x <;> first
  | (cases B;rfl)
  | (obtain⟨t,rfl⟩:=B;rfl)
theorem GX:OpR X (TY .IsNot) (λx y H Q=>y=.non/\Q (.bl (!decide (x=.non))) H):=by
 intro pins s σ H x y v u Q I B F h;obtain⟨rfl,q⟩:=h;cases F;refine isnot_none_gen (aS I q ?_);cases x <;> first
  | (cases B;rfl)
  | (obtain⟨t,rfl⟩:=B;rfl)
theorem OpR.or(h:OpR X f r)(h':OpR X f r'):OpR X f (λx y H Q=>r x y H Q\/r' x y H Q):=by
 intro pins s σ H x y v u Q I B F q;rcases q with q|q
 ·exact h pins s σ H x y v u Q I B F q
 ·exact h' pins s σ H x y v u Q I B F q
theorem CK(b:Expr)(h:op≠.In:=by decide)(h2:op≠.NotIn:=by decide):WS op b=false:=by
 have B:(op == CmpOp.In)=false:=by cases op <;> first|rfl|exact absurd rfl h
 have q:(op == CmpOp.NotIn)=false:=by cases op <;> first|rfl|exact absurd rfl h2
 cases b <;> simp[WS,B,q]
theorem EU(F:OpR X (TY op) r)(B:PE X a ta)(W:PE X b tb)(G:WS op b=false):PE X (.Compare a [op] [b] pos) (M7 r ta tb):=by
 intro pins s σ H Q I h;exact wpAny_Compare1 (MU B W I h λv u N x y H2 M U J q=>F pins N σ H2 x y v u Q M U J q) G
def DM(t:TE):TT:=λσ H Q=>t σ H λx H'=>∃k,x=.bl k/\Q k H'
theorem wC{op:CmpOp}{r:R2}(F:OpR X (TY op) r)(q:PE X a ta)(M:PE X b tb)(G:WS op b=false):PT X (.Compare a [op] [b] pos) (DM (M7 r ta tb)):=by
 intro pins s σ H Q I h;refine wpAny_isTrue_Compare1 (bE (q pins s σ H _ I h) λv B ⟨x,H1,I1,J,q1⟩=>bE (M pins B σ H1 _ I1 q1) λu W ⟨y,H2,I2,r2,U⟩=>
  bE (F pins W σ H2 x y v u _ I2 J r2 U) λc s3 ⟨z,N,Y,r3,k,e,q3⟩=>?_) G
 subst e;cases r3;exact VR ⟨N,Y,q3⟩
def vN(r F:R2)(ta tb tc:TE):TE:=λσ H Q=>ta σ H λx H1=>tb σ H1 λy H2=>r x y H2 λz q=>∃k,z=.bl k /\
 (if k=true then tc σ q λG B=>F y G B Q else Q (.bl false) q)
theorem B7{op q:CmpOp}{r G:R2}(ho:OpR X (TY op) r)(B:OpR X (TY q) G)(ha:PE X a ta)(hb:PE X b tb)(hc:PE X c tc)
  (hm:XA [op,q] [b,c]=false:=by with_unfolding_all rfl):PE X (.Compare a [op,q] [b,c] pos) (vN r G ta tb tc):=by
 intro pins s σ H Q I h;refine Compare_chain (bE (ha pins s σ H _ I h) λv U ⟨x,H1,I1,r1,q1⟩=>chain_link (bE (hb pins U σ H1 _ I1 q1) λu s2 ⟨y,H2,I2,J,q2⟩=>
  bE (ho pins s2 σ H2 x y v u _ I2 r1 J q2) λd s3 ⟨z,F,M,r3,k,e,N⟩=>?_)) hm
 subst e;cases r3;refine VR ?_;cases k with
 | false=>exact ite_ff ⟨.bl false,F,M,rfl,N⟩
 | true=>exact ite_tt (chain_last (bE (hc pins s3 σ F _ M N) λw' s4 ⟨z',W,I4,r4,Y⟩=>B pins s4 σ W y z' u w' Q I4 J r4 Y))
theorem AO{op q:CmpOp}{r G:R2}(ho:OpR X (TY op) r)(B:OpR X (TY q) G)(ha:PE X a ta)(hb:PE X b tb)(hc:PE X c tc)
  (hm:XA [op,q] [b,c]=false:=by with_unfolding_all rfl):PT X (.Compare a [op,q] [b,c] pos) (DM (vN r G ta tb tc)):=by
 intro pins s σ H Q I h;refine isTrue_chain (bE (ha pins s σ H _ I h) λv U ⟨x,H1,I1,r1,q1⟩=>test_link (bE (hb pins U σ H1 _ I1 q1) λu s2 ⟨y,H2,I2,J,q2⟩=>
  bE (ho pins s2 σ H2 x y v u _ I2 r1 J q2) λd s3 ⟨z,F,M,r3,k,e,N⟩=>?_)) hm
 subst e;cases r3;refine VR ?_;cases k with
 | false=>
  obtain⟨k',e',q'⟩:=N;cases e';exact ite_ff ⟨F,M,q'⟩
 | true=>
  refine ite_tt (test_last (bE (hc pins s3 σ F _ M N) λw' s4 ⟨z',W,I4,r4,q4⟩=>bE (B pins s4 σ W y z' u w' _ I4 J r4 q4) λd' s5 ⟨z2,Y,I5,r5,k2,e2,q5⟩=>?_));subst e2;cases r5;exact VR ⟨Y,I5,q5⟩
theorem mH:(TQ:Nat)<2^63:=by rw[WT];decide
theorem uL:OpR X (UQ .Add) (λx y H Q=>∃i j,x=.str i/\y=.str j/\i.length+j.length<=TQ/\Q (.str (i++j)) H):=by
 intro pins s σ H x y v u Q I B F h;obtain⟨i,j,rfl,rfl,hz,q⟩:=h;obtain⟨t,rfl⟩:=B;obtain⟨t',rfl⟩:=F;exact add_str (λt' tk=>⟨.str (i++j),H,I.tok _,⟨_,rfl⟩,q⟩) hz
theorem vals1(r:Vals [x] us):∃u,us=[u]/\RelV x u:=by
 cases r with
 | cons r1 r2=>cases r2;exact⟨_,rfl,r1⟩
theorem vals2(r:Vals [x,y] us):∃u q,us=[u,q]/\RelV x u/\RelV y q:=by
 cases r with
 | cons r1 r2=>
  cases r2 with
  | cons r3 r4=>cases r4;exact⟨_,_,rfl,r1,r3⟩
theorem zP(F:X.calm=true):CallR X (.builtin "max") (λxs H Q=>∃i j,xs=[.int i,.int j]/\Q (.int (if j>i then j else i)) H):=by
 intro pins s σ H xs G Q I r h;obtain⟨i,j,rfl,q⟩:=h;obtain⟨u,J,rfl,⟨t,rfl⟩,⟨t',rfl⟩⟩:=vals2 r;refine max_two_ints (I.ok.hd F) λh' tk k=>⟨_,H,I.kept k,?_,q⟩
 by_cases B:j>i
 ·rw[if_pos B,if_pos B];exact⟨_,rfl⟩
 ·rw[if_neg B,if_neg B];exact⟨_,rfl⟩
theorem yF(F:X.calm=true):CallR X (.builtin "min") (λxs H Q=>∃i j,xs=[.int i,.int j]/\Q (.int (if j<i then j else i)) H):=by
 intro pins s σ H xs G Q I r h;obtain⟨i,j,rfl,q⟩:=h;obtain⟨u,J,rfl,⟨t,rfl⟩,⟨t',rfl⟩⟩:=vals2 r;refine min_two_ints (I.ok.hd F) λh' tk k=>⟨_,H,I.kept k,?_,q⟩
 by_cases B:j<i
 ·rw[if_pos B,if_pos B];exact⟨_,rfl⟩
 ·rw[if_neg B,if_neg B];exact⟨_,rfl⟩
theorem zE:CallR X (.type "int") (λxs H Q=>(∃i,xs=[.int i]/\Q (.int i) H)\/∃k,xs=[.bl k]/\Q (.int (if k then 1 else 0)) H):=by
 intro pins s σ H xs F Q I r h;rcases h with⟨i,rfl,q⟩|⟨k,rfl,q⟩
 ·obtain⟨u,rfl,t,rfl⟩:=vals1 r
  exact call_int_int ⟨.int i,H,I,⟨_,rfl⟩,q⟩
 ·obtain⟨u,rfl,B⟩:=vals1 r
  cases B;exact call_int_bool ⟨.int (if k then 1 else 0),H,I.tok _,⟨_,rfl⟩,q⟩
def RC(K:TK)(x:V)(H:Hp)(n:Nat):Prop:=
 match x with
 | .str y=>y.length<=TQ/\n=y.length
 | .byt y=>y.size<=TQ/\n=y.size
 | .ref p=>(∃xs,SqL K H p xs/\n=xs.length)\/∃xs,SqT K H p xs/\n=xs.length
 | _=>False
theorem lK:CallR X (.builtin "len") (λxs H Q=>∃x n,xs=[x]/\RC X.K x H n/\Q (.int n) H):=by
 intro pins s σ H xs us Q I r h;obtain⟨x,n,rfl,e,q⟩:=h;obtain⟨u,rfl,M⟩:=vals1 r;have hl:=mH;have hs:TQ=16777216:=WT;cases x with
 | str y=>
  obtain⟨t,rfl⟩:=M;obtain⟨Y,F⟩:y.length<=TQ/\n=y.length:=e;subst F;exact len_str (by lia) ⟨.int _,H,I.tok _,⟨_,rfl⟩,q⟩
 | byt y=>
  obtain⟨t,rfl⟩:=M;obtain⟨Y,F⟩:y.size<=TQ/\n=y.size:=e;subst F;exact PySem.W.len_bytes (by lia) ⟨.int _,H,I.tok _,⟨_,rfl⟩,q⟩
 | ref p=>
  cases M;have F:(∃xs,SqL X.K H p xs/\n=xs.length)\/∃xs,SqT X.K H p xs/\n=xs.length:=e;rcases F with⟨xs,G,F⟩|⟨xs,G,F⟩
  ·subst F
   obtain⟨N,U,J,hz⟩:=I.list G;have B:=U.length;exact Calls.call_len_list J.isList (by simp only[T6];lia) ⟨.int xs.length,H,I.tok _,⟨_,by simp only[T6];rw[B]⟩,q⟩
  ·subst F
   obtain⟨N,U,J,hz⟩:=I.tuple G;have B:=U.length;exact len_tuple J (by simp only[T6];lia) ⟨.int xs.length,H,I.tok _,⟨_,by simp only[T6];rw[B]⟩,q⟩
 | _=>exact(show False from e).elim
end
structure ObjM(h:Heap)(x dx C:Addr)(mA:Str->Option Value):Prop where
 obj:h.get? x=some (Z8 C dx)
 ns:h.Ns1 dx mA
 ne:dx≠x
theorem yW{h:Heap}{dx:Addr}{mA:Str->Option Value}(n:h.Ns1 dx mA):∃od,h.get? dx=some od/\∀name,PySem.W.lookIn name od=some (mA name):=by
 obtain⟨o,es,ep,M,F,J,_,N⟩:=n;refine⟨o,M,λname=>?_⟩;have e:=N name;unfold nsFind findBy at e;rw[<- Array.find?_toList]at e;unfold PySem.W.lookIn;rw[F];dsimp only;split
 ·rename_i y q
  rw[q]at e;exact congrArg some e
 ·rename_i q
  rw[q]at e;have a:es.toList.any (·.refKey)=false:=by
   rw[List.any_eq_false];intro y U;obtain⟨z,t,B⟩:=J y (Array.mem_toList_iff.mp U);simp[DictEntry.refKey,B]
  have G:¬ es.toList.any (·.refKey)=true:=by rw[a];exact T3
  rw[if_neg G];exact congrArg some e
theorem ObjM.look(I:ObjM h x dx C mA):∃od,PySem.W.InstAt h x (Z8 C dx) C (some od)/\∀name,PySem.W.lookIn name od=some (mA name):=
 let ⟨od,ho,hl⟩:=yW I.ns
 ⟨od,⟨I.obj,rfl,rfl,ho⟩,hl⟩
section
variable {prog:TN}{w:World}{A:TZ}{E:Value->TH->Prop}{s:TH}{K:TK}{x dx C f:Addr}{mA:Str->Option Value}{name:Str}{v:Value}
end
theorem RelO.some_of(r:RelO (some v) o):∃u,o=some u/\RelV v u:=by
 cases o with
 | none=>exact(show False from r).elim
 | some u=>exact⟨u,rfl,r⟩
section
variable {P:TN}{w:World}{H H':Hp}{h h':Heap}{a C dx:Addr}{fs fs':List (Str×V)}
theorem GE(B:HOk P w H h)(e:H a=some (.ins C dx fs)):∃mA,ObjM h a dx C mA/\(∀f,RelO (fs.lookup f) (mA f))/\PySem.Within mA (fs.map (·.1))/\fs.length<=1000/\H dx=some (.own a):=by
 obtain⟨d,z,ne,F,mA,n,r,q⟩:=(show ObjOk P w H h a (.ins C dx fs)from B a _ e);exact⟨mA,⟨F,n,ne⟩,r,q,z,d⟩
end
structure Cls(K:TK)(C:Addr):Prop where
 pg:PySem.W.plainGet K C Str.empty=true
 hd:PySem.W.hasDictIn K C=true
 po:PySem.W.plainOver K C=true
 sa:PySem.W.findIn K (.ref C) "__setattr__" = some (some (.builtin "object.__setattr__"))
theorem Cls.get{K:TK}{C:Addr}(c:Cls K C)(f:Str):PySem.W.plainGet K C f=true:=c.pg
section
variable {X:Cx}{pins:List (Addr×Obj)}{σ:St}{H:Hp}{s:TH}{a C dx:Addr}{fs:List (Str×V)}{f:Str}{v:V}{A:TZ}{E:Value->TH->Prop}
end
section
variable {X:Cx}{o e value:Expr}{f:Str}{pos pos' tpos:Pos}{ta tv:TE}
end
section
variable {X:Cx}{pins:List (Addr×Obj)}{σ:St}{H:Hp}{s:TH}{A:TZ}{E:Value->TH->Prop}{Q:Value->TH->Prop}{c:Value}{b:Bool}
inductive TyOf(K:TK)(H:Hp):V->Value->Prop where
 | non:TyOf K H .non (.type "NoneType")
 | bl (x:Bool):TyOf K H (.bl x) (.type "bool")
 | int (i:Int):TyOf K H (.int i) (.type "int")
 | str (x:Str):TyOf K H (.str x) (.type "str")
 | flt (x:UInt64):TyOf K H (.flt x) (.type "float")
 | lst {a:Addr} {xs:List V} (e:H a=some (.lst xs)):TyOf K H (.ref a) (.type "list")
 | frz {a:Addr} {o:Obj} {xs:List V} (e:H a=some (.frz o (.lst xs))):TyOf K H (.ref a) (.type "list")
 | tup {a:Addr} {xs:List V} (e:H a=some (.tup xs)):TyOf K H (.ref a) (.type "tuple")
 | dK {a:Addr} {kvs:List (Key×V)} (e:H a=some (.dK kvs)):TyOf K H (.ref a) (.type "dict")
 | dT {a:Addr} {kvs:List (List Key×V)} (e:H a=some (.dT kvs)):TyOf K H (.ref a) (.type "dict")
 | ins {a C dx:Addr} {fs:List (Str×V)} (e:H a=some (.ins C dx fs)) (cl:Cls K C) (ha:PySem.W.findIn K (.ref C) "__class__" = some (some (.builtin "object.__class__")))
   (hn:PySem.W.specialIn K (.builtin "object.__class__") "__get__" = some (some (.builtin "getset_descriptor.__get__"))) (htk:PySem.W.takesIn K (.builtin "object.__class__")=some true)
   (hm:PySem.W.mroIn K C (.type "object")=some true):TyOf K H (.ref a) (.ref C)
theorem yO(I:Inv X pins σ H s)(B:RelV x u)(ty:TyOf X.K H x t)(e:X6 X.K t c=some b)(h:∀tk,Q (.bool b) {s with toks:=tk}) :
  wpAny (model X.prog X.w) A (call (.builtin "isinstance") [u,c]) Q E s:=by
 cases ty with
 | non=>cases(show u=UG from B);exact VO PySem.W.kitx_none I.kIn VT e (λz=>nomatch z) h
 | bl y=>cases(show u=V8 y from B);exact VO PySem.W.kitx_bool I.kIn VT e (λz=>nomatch z) h
 | int i=>obtain⟨t,q⟩:=(show ∃t,u=Value.int i t from B);cases q;exact VO PySem.W.kitx_int I.kIn VT e (λz=>nomatch z) h
 | str y=>obtain⟨t,q⟩:=(show ∃t,u=Value.str y t from B);cases q;exact VO PySem.W.kitx_str I.kIn VT e (λz=>nomatch z) h
 | flt y=>obtain⟨t,q⟩:=(show ∃t,u=Value.float y t from B);cases q;exact VO PySem.W.kitx_float I.kIn VT e (λz=>nomatch z) h
 | @lst a xs ea=>
  cases(show u=TV a from B);obtain⟨_,_,n,_,h1⟩:=(show ObjOk X.prog X.w H s.heap a (.lst xs)from I.hok a _ ea);exact VO PySem.W.kitx_list I.kIn ⟨_,h1,rfl⟩ e (λz=>nomatch z) h
 | @frz a ob xs ea=>
  cases(show u=TV a from B);obtain⟨_,_,_,n,_,h1⟩:=(show ObjOk X.prog X.w H s.heap a (.frz ob (.lst xs))from I.hok a _ ea);exact VO PySem.W.kitx_list I.kIn ⟨_,h1,rfl⟩ e (λz=>nomatch z) h
 | @tup a xs ea=>
  cases(show u=TV a from B);obtain⟨_,_,_,p⟩:=(show ObjOk X.prog X.w H s.heap a (.tup xs)from I.hok a _ ea);obtain⟨o,h1,h2,_⟩:=p;exact VO PySem.W.kitx_tuple I.kIn ⟨o,h1,h2⟩ e (λz=>nomatch z) h
 | @dK a kvs ea=>
  cases(show u=TV a from B);obtain⟨_,_,vs,_,p⟩:=(show ObjOk X.prog X.w H s.heap a (.dK kvs)from I.hok a _ ea);obtain⟨o,es,ep,h1,h2,_⟩:=p;exact VO YZ I.kIn ⟨o,h1,h2.1⟩ e (λz=>nomatch z) h
 | @dT a kvs ea=>
  cases(show u=TV a from B);obtain⟨_,_,xs,_,o,es,ep,h1,h2,_⟩:=(show ObjOk X.prog X.w H s.heap a (.dT kvs)from I.hok a _ ea);exact VO YZ I.kIn ⟨o,h1,h2.1⟩ e (λz=>nomatch z) h
 | @ins a C dx fs ea cl ha hn htk hm=>
  cases(show u=TV a from B);obtain⟨mA,O,_⟩:=GE I.hok ea;obtain⟨od,J,_⟩:=O.look;exact VO (PySem.W.kitx_own (cl.get _) cl.hd ha hn htk hm) I.kIn J e (λz=>nomatch z) h
end
structure Room(k:Nat)(A:TZ):Prop where
 hd:A.handled=none
 dp:A.depth+3*k+5<recursionLimit
 un:A.units+16*k+200<cLine
theorem Room.mono(r:Room k A)(h:j<=k):Room j A:=⟨r.hd,by have:=r.dp;lia,by have:=r.un;lia⟩
theorem Room.deeper(r:Room (k+1) A)(env:Env):Room k (A.deeper env):=
 ⟨r.hd,by have:=r.dp;show A.depth+1+3*k+5<_;lia,by have:=r.un;show A.units+3+16*k+200<_;lia⟩
theorem Room.depth(r:Room k A):A.depth<recursionLimit:=by have:=r.dp;lia
theorem Room.units(r:Room k A):A.units+64<cLine:=by have:=r.un;lia
theorem Room.units0(r:Room k A):A.units<cLine:=by have:=r.un;lia
def MK:TA:=λ_ H Q=>Q [] H
def xP(ta:TE)(q:TA):TA:=λσ H Q=>ta σ H λx H1=>q σ H1 λxs H2=>Q (x::xs) H2
section
variable {X:Cx}{e:Expr}{es:List Expr}{te:TE}{t:TA}{pos:Pos}
theorem jD:PA X [] MK:=λ_ _ _ _ H Q I h=>zab ⟨[],H,I,.nil,h⟩
theorem dE(B:PE X e te)(q:PA X es t)(hs:TL (e::es) X.env=(false,eval e X.env)::TL es X.env:=by rfl):PA X (e::es) (xP te t):=by
 intro pos pins s σ H Q I h;rw[hs];show wpAny _ _ (spliced ((false,eval e X.env)::UD pos (TL es X.env))) _ _ s;refine X7 (bE (B pins s σ H _ I h) λu F ⟨x,H1,N,G,U⟩=>?_);exact bE (q pos pins F σ H1 _ N U) λus Y ⟨xs,H2,M,W,J⟩=>⟨x::xs,H2,M,.cons G W,J⟩
def RE(t:TA):TE:=λσ H Q=>t σ H λxs H1=>xs.length<=TQ/\∀p,H1 p=none->Q (.ref p) (upd H1 p (.tup xs))
def QP(t:TA):TE:=λσ H Q=>t σ H λxs H1=>xs.length<=TQ/\∀p,H1 p=none->Q (.ref p) (upd H1 p (.lst xs))
theorem K0{x1}(h:PA X es t):PE X (.Tuple es x1 pos) (RE t):=by
 intro pins s σ H Q I J;refine wpAny_Tuple_spliced (bE (h pos pins s σ H _ I J) λG B ⟨xs,H1,F,r,z,q⟩=>⟨by rw[<- r.length];exact z,?_⟩);have M:H1 B.heap.objs.size=none:=F.hok.fresh (T5 _);refine⟨.ref B.heap.objs.size,upd H1 B.heap.objs.size (.tup xs),F.laid (t':=B.toks) (λb u e=>T4 _ e) (T5 _) ?_,rfl,q _ M⟩;exact⟨z,G,r,⟨_,UC _ rfl,rfl,_,rfl,rfl⟩⟩
theorem KS(h:PA X es t):PE X (.List es pos) (QP t):=by
 intro pins s σ H Q I J;refine wpAny_List_spliced (bE (h pos pins s σ H _ I J) λG B ⟨xs,H1,F,r,z,q⟩=>⟨by rw[<- r.length];exact z,?_⟩);have M:H1 B.heap.objs.size=none:=F.hok.fresh (T5 _);refine⟨.ref B.heap.objs.size,upd H1 B.heap.objs.size (.lst xs),F.laid (t':=B.toks) (λb u e=>T4 _ e) (T5 _) ?_,rfl,q _ M⟩;exact⟨z,G,0,r,UC _ rfl⟩
end
abbrev Sp:=List V->Hp->VK->XK->Prop
abbrev AF:=List Env->Hp->TH->XK->Value->TH->Prop
structure Env0(P:TN)(w:World)(K:TK)(mg:Str->Option Value)(base:Heap)(A:TZ)(outer:List Env)(s:TH)(H:Hp):Prop where
 frames:A.frames=some outer
 mod:Mod K mg base
 bs:∀b o,base.get? b=some o->s.heap.get? b=some o/\H b=none
 bsz:base.objs.size<=s.heap.objs.size
 funs:s.heap.FunFrames base outer
 frf:∀b∈frs outer,H b=none
 hok:HOk P w H s.heap
 bare:WJ s.gens
def CE(q:List Env)(P:TN)(w:World)(H:Hp)(s:TH)(Q:VK)(u:Value)(s':TH):Prop:=
 ∃v H',s'.os=s.os/\WJ s'.gens/\Un (frs q) [] H H' s.heap s'.heap/\HOk P w H' s'.heap/\RelV v u/\Q v H'
def CR(CX:AF)(outer:List Env)(P:TN)(w:World)(H:Hp)(s:TH)(Q:VK)(E:XK)(r:Result)(s':TH):Prop:=
 match r with
 | .ok (.ret u)=>CE outer P w H s Q u s'
 | .ok _=>False
 | .error e=>CX outer H s E e s'
structure FnOk(P:TN)(w:World)(K:TK)(mg:Str->Option Value)(base:Heap)(CX:AF)(k:Nat)(f:Addr)(fd:VH)(ps:List Str)(sp:Sp):Prop where
 len:∀vs H Q E,sp vs H Q E->vs.length=ps.length
 run:∀(A:TZ) (outer:List Env) (s:TH) (H:Hp) (args:Args) (us:List Value) (vs:List V) (Q:VK) (E:XK),Room k A->Env0 P w K mg base A outer s H->BindsTo s fd args (ps.zip us)->Vals vs us->sp vs H Q E->
  VU (model P w) A (.call (.ref f) args) (CR CX outer P w H s Q E) s
theorem FnOk.mono{P:TN}{w:World}{K:TK}{mg:Str->Option Value}{base:Heap}{CX:AF}{j k:Nat}{f:Addr}{fd:VH}{ps:List Str}{sp:Sp}(F:FnOk P w K mg base CX j f fd ps sp)(h:j<=k) :
  FnOk P w K mg base CX k f fd ps sp:=⟨F.len,λA q s H args B vs Q E G=>F.run A q s H args B vs Q E (G.mono h)⟩
section
variable {X:Cx}{pins:List (Addr×Obj)}{σ:St}{H:Hp}{s s':TH}
theorem Inv.env0(I:Inv X pins σ H s):Env0 X.prog X.w X.K X.mg X.base X.A X.stack s H:=
 ⟨I.ok.frames,I.ok.mod,I.bs,UV I.ok.bsz I.sz,I.stack,I.stkFree,I.hok,I.bare⟩
theorem Inv.after(I:Inv X pins σ H s)(h:CE X.stack X.prog X.w H s Q u s'):EP X pins σ Q u s':=by
 obtain⟨v,H',os,B,un,F,r,q⟩:=h;obtain⟨J,g,d,t,G⟩:=s';obtain rfl:G=s.os:=os;exact⟨v,H',I.call (h':=J) (g':=g) (d':=d) (t':=t) (ch:=[]) un F B (λb z=>absurd z (by simp)),r,q⟩
end
def NL(sp:Sp)(dvs:List V)(E:XK)(t:TA):TE:=λσ H Q=>t σ H λvs H1=>sp (vs++dvs) H1 Q E
def Binds(K:TK)(fd:VH)(ps:List Str)(ds:List Value):Prop:=
 ∀(s:TH) (us:List Value),K.In s.heap->(us++ds).length=ps.length->BindsTo s fd ⟨us,[]⟩ (ps.zip (us++ds))
theorem Binds.all{K:TK}{fd:VH}{ps:List Str}(h:∀q:List Value,q.length=ps.length->bindArgs fd ⟨q,[]⟩=pure (ps.zip q)):Binds K fd ps []:=λs q _ B=>by
 rw[X8]at B ⊢;exact .of_eq (h q B)
def u7(CX:AF)(X:Cx)(E:XK):Prop:=∀(pins:List (Addr×Obj)) (σ:St) (H:Hp) (s:TH) (e:Value) (s':TH),Inv X pins σ H s->CX X.stack H s E e s'->X.xe e s'
section
variable {X:Cx}{CX:AF}{k:Nat}{f C:Addr}{fd:VH}{ps:List Str}{sp:Sp}{dvs:List V}{ds:List Value}{E:XK}{x m:Str}{p pos apos:Pos}{e o:Expr}{es:List Expr}{ta:TE}{t:TA}
theorem KH(F:FnOk X.prog X.w X.K X.mg X.base CX k f fd ps sp)(N:Room k X.A)(U:Binds X.K fd ps ds)(G:Vals dvs ds)(M:u7 CX X E)
  (I:Inv X pins σ H s) (r:Vals vs us) (h:sp (vs++dvs) H Q E):wpAny (model X.prog X.w) X.A (call (.ref f) us) (EP X pins σ Q) X.xe s:=by
 have B:Vals (vs++dvs) (us++ds):=r.append G;have J:(us++ds).length=ps.length:=by rw[<- B.length];exact F.len _ _ _ _ h
 refine wpAny_call (Y0 (F.run X.A X.stack s H ⟨us,[]⟩ (us++ds) (vs++dvs) Q E N I.env0 (U s us I.kIn J) B h) λr s' q=>?_);cases r with
 | error e=>exact M pins σ H s e s' I q
 | ok fl=>
  cases fl with
  | ret u=>exact I.after q
  | next=>exact VS q
  | brk=>exact VS q
  | cont=>exact VS q
theorem E9(F:FnOk X.prog X.w X.K X.mg X.base CX k f fd ps sp)(hr:Room k X.A)(N:Gl X x)(hm:X.mg x=some (.ref f))(U:WU X.K (.ref f)=true)(hb:Binds X.K fd ps ds)(M:Vals dvs ds)(hx:u7 CX X E)
  (ha:PA X (e::es) t) (G:(x == ("__debug__" : Str))=false:=by decide) (Y:TL (e::es) X.env=(false,eval e X.env)::TL es X.env:=by rfl) (B:(UD pos (TL es X.env)).any (·.1)=false:=by rfl) :
  PE X (.Call (.Name x p) (e::es) [] pos) (NL sp dvs E t):=by
 intro pins s σ H Q I h;refine zac (wZ I N hm ?_ G);refine PySem.W.callWith_K (h₀:=X.base) I.ok.mod.kin U (bE (ha pos pins s σ H _ I h) λus s1 ⟨vs,H1,J,r,q⟩=>⟨J.kIn,?_⟩) Y B;exact KH F hr hb M hx J r q
structure Mk(K:TK)(C f:Addr):Prop where
 makes:PySem.W.makesIn K C=true
 init:PySem.W.findIn K (.ref C) "__init__" = some (some (.ref f))
 fn:PySem.W.isFn K (.ref f)=true
 kp:WU K (.ref C)=true
end
section
variable {X:Cx}{CX:AF}{k:Nat}{f C:Addr}{fd:VH}{ps ks:List Str}{sp:Sp}{E:XK}{x m:Str}{p pos apos kpos:Pos}{e o:Expr}{es:List Expr}{kws:List WL}{te ta:TE}{t tk:TA}{nm:Option Str}
variable {g:List Value->List Value->List Value}{gV:List V->List V->List V}
end
structure FnScope(N P:List Str)(sc:Scope):Prop where
 kind:sc.kind=.function
 co:sc.isCoroutine=false
 gen:sc.isGenerator=false
 nd:N.Nodup
 pre:N.take P.length=P
 par:∀x∈P,sc.names.lookup x=some .local\/sc.names.lookup x=some .cell
 nofree:∀y∈sc.names,y.2≠.free
theorem oP{VI:Str->Option V9}:∀ {binds:List (Str×Value)} {m:Str->Option Value},(∀v,(x,v)∉binds)->bindL VI binds m x=m x
 | [],_,_=>rfl
 | (n,v)::r,m,h=>by
  unfold bindL;rw[oP λw hw=>h w (UN _ hw)];split
  ·have:x≠n:=by rintro rfl;exact h v UW
   simp[this]
  ·rfl
theorem oG{VI:Str->Option V9}:∀ {binds:List (Str×Value)} {m:Str->Option Value},(∀v,(x,v)∉binds)->bindC VI binds m x=m x
 | [],_,_=>rfl
 | (n,v)::r,m,h=>by
  unfold bindC;rw[oG λw hw=>h w (UN _ hw)];split
  ·rfl
  ·have:x≠n:=by rintro rfl;exact h v UW
   simp[this]
theorem nR{VI:Str->Option V9}{x:Str}{v:Value}:∀ {P:List Str} {vs:List Value} {i:Nat} {m:Str->Option Value},P.Nodup->P[i]?=some x->vs[i]?=some v->VI x=some .local->
  bindL VI (P.zip vs) m x=some v
 | [],_,_,_,_,h,_,_=>by simp at h
 | _::_,[],_,_,_,_,h,_=>by simp at h
 | p::P,w::vs,0,m,nd,h1,h2,hk=>by
  simp at h1 h2;subst h1;subst h2;show bindL VI ((p,w)::P.zip vs) m p=_;unfold bindL;rw[oP λv q=>(List.nodup_cons.mp nd).1 (zad q).1,if_pos hk];simp
 | p::P,w::vs,i+1,m,nd,h1,h2,hk=>by
  show bindL VI ((p,w)::P.zip vs) m x=_;unfold bindL;exact nR (i:=i) (List.nodup_cons.mp nd).2 (by simpa using h1) (by simpa using h2) hk
theorem oI{VI:Str->Option V9}{x:Str}{v:Value}:∀ {P:List Str} {vs:List Value} {i:Nat} {m:Str->Option Value},P.Nodup->P[i]?=some x->vs[i]?=some v->VI x≠some .local->
  bindC VI (P.zip vs) m x=some v
 | [],_,_,_,_,h,_,_=>by simp at h
 | _::_,[],_,_,_,_,h,_=>by simp at h
 | p::P,w::vs,0,m,nd,h1,h2,hk=>by
  simp at h1 h2;subst h1;subst h2;show bindC VI ((p,w)::P.zip vs) m p=_;unfold bindC;rw[oG λv q=>(List.nodup_cons.mp nd).1 (zad q).1,if_neg hk];simp
 | p::P,w::vs,i+1,m,nd,h1,h2,hk=>by
  show bindC VI ((p,w)::P.zip vs) m x=_;unfold bindC;exact oI (i:=i) (List.nodup_cons.mp nd).2 (by simpa using h1) (by simpa using h2) hk
def start(N:List Str)(vs:List V):St:=vs.map some++UF (N.length-vs.length) none
def iW(CX:AF)(P:TN)(w:World)(K:TK)(mg:Str->Option Value)(base:Heap)(N:List Str)(q:Str)(scope:Scope)(f:Addr)(F:Value)(A:TZ)(outer:List Env)(s:TH)(H:Hp)(E:XK):Cx where
 prog:=P
 w:=w
 K:=K
 mg:=mg
 base:=base
 A:=A.deeper (U4 q scope s.heap.objs.size f F)
 N:=N
 s₀:=s
 H₀:=H
 env:=U4 q scope s.heap.objs.size f F
 outer:=outer
 stack:=U4 q scope s.heap.objs.size f F::outer
 ex:=[]
 calm:=true
 fn:=λ_=>true
 pn:=[]
 xe:=λe s'=>wpAny (model P w) (A.deeper (U4 q scope s.heap.objs.size f F)) (leaving (U4 q scope s.heap.objs.size f F) e) (λ_ B=>CX outer H s E e B) (λG B=>CX outer H s E G B) s'
theorem lX{sc:Scope}{n:Nat}{x:Str}(h:sc.names.lookup x=some .cell):∃c,(XB n sc.names []).lookup x=some c:=by
 have q:=PySem.W.cellsFrom_some sc.names n [] (.inl h);exact Option.isSome_iff_exists.mp q
theorem zJ{CX:AF}{P:TN}{w:World}{K:TK}{mg:Str->Option Value}{base:Heap}{N ps:List Str}{F:Str}{scope:Scope}{f:Addr}{Y:Value}{A:TZ}{B:List Env}{s s1:TH}{H:Hp}{E:XK}{us:List Value}{vs:List V}
  (S:FnScope N ps scope) (hd:A.handled=none) (G:Env0 P w K mg base A B s H) (hl:vs.length=ps.length) (r:Vals vs us)
  (x:InCallC s s.heap.objs.size (bindL (U4 F scope s.heap.objs.size f Y).kindOf (ps.zip us) λ_=>none) (XB (s.heap.objs.size+1) scope.names []) (bindC (U4 F scope s.heap.objs.size f Y).kindOf (ps.zip us) λ_=>none) s1) :
  Inv (iW CX P w K mg base N F scope f Y A B s H E) [] (start N vs) H s1:=by
 have ah:ps.length<=N.length:=by have:=congrArg V0 S.pre;rw[X9]at this;lia
 obtain⟨h1,tk,rfl,hk⟩:=x.done;have J:∀b:Addr,b∉(iW CX P w K mg base N F scope f Y A B s H E).ex:=λb z=>absurd (show b∈([]:List Addr)from z) (by simp)
 refine⟨⟨G.mod,S.kind,rfl,rfl,T5 _,λy z c h1 h2=>?_,λy M=>?_,λy c _ h=>?_,λ_=>hd,Around.frames_deeper G.frames,.inr ⟨rfl,rfl⟩,λb z=>absurd z (J b),G.bs,G.bsz,λb _ _=>J b,λb z=>absurd z (J b),G.funs,G.frf⟩,
  rfl,G.bare,Un.kept hk,⟨_,x.toInCall.ns,λi y v h1 h2 h3=>?_⟩,λy c h=>⟨_,x.cell y c h⟩,G.hok.fresh (T5 _),λy c h=>?_,λp U=>absurd (show p∈([]:List (Addr×Obj))from U) (by simp),G.hok.kept hk,?_⟩
 ·exact name_of_addr x.apart (YA h1) (YA h2)
 ·have M:scope.names.lookup y=some .cell\/scope.names.lookup y=some .free:=M
  rcases M with M|M
  ·exact lX M
  ·exact absurd rfl (S.nofree _ (YA M))
 ·exact YS (x.above y c (YA h))
 ·have hi:i<vs.length:=by
   unfold start at h2;by_cases hi:i<vs.length
   ·exact hi
   ·rw[Y1 (by simpa using hi)]at h2
    rw[zae]at h2;split at h2 <;> cases h2
  have ha:vs[i]?=some v:=by
   unfold start at h2;rw[XC (by simpa using hi),UA]at h2;cases e:vs[i]? with
   | none=>rw[e]at h2;cases h2
   | some a=>rw[e]at h2;cases h2;rfl
  obtain⟨u,hu,rv⟩:=r.get ha;have U:ps[i]?=some y:=by
   rw[<- S.pre,List.getElem?_take_of_lt (by lia)];exact h1
  have W:ps.Nodup:=by rw[<- S.pre];exact S.nd.sublist (List.take_sublist _ _)
  refine⟨u,rv,?_⟩;rcases S.par y (UJ U)with k|k
  ·exact .inl ⟨k,nR W U hu k⟩
  ·obtain⟨c,e⟩:=lX (n:=s.heap.objs.size+1) k
   refine .inr ⟨.inl k,c,e,?_⟩;have q:=x.cell y c e;rw[oI W U hu (by show scope.names.lookup y≠_;rw[k];decide)]at q;exact q
 ·exact G.hok.fresh (YS (x.above y c (YA h)))
 ·unfold start
  show _=N.length;rw[VB,T2,List.length_replicate]
  lia
theorem NW{CX:AF}{P:TN}{w:World}{K:TK}{mg:Str->Option Value}{base:Heap}{k:Nat}{f:Addr}{name F:Str}{M:Arguments}{body:List Stmt}{scope:Scope}{dV kV ac pm G ct oc:Value}{an od:Option Addr}
  {ag:Array (Option Value)} {N ps:List Str} {sp:Sp} (lk:K.lookup f=some ⟨oc,od,.func (VV name F M body scope dV kV ac pm an G ct),ag⟩) (ai:XD K G F=true) (S:FnScope N ps scope)
  (ae:∀vs H Q E,sp vs H Q E->vs.length=ps.length)
  (Y:∀(A:TZ) (B:List Env) (s:TH) (H:Hp) (vs:List V) (Q:VK) (E:XK), Room k (A.deeper (U4 F scope s.heap.objs.size f G)) -> sp vs H Q E ->
   ∃t,PSs (iW CX P w K mg base N F scope f G A B s H E) body t/\t {nx:=λ_ H'=>Q .non H',rt:=Q} (start N vs) H) :
  FnOk P w K mg base CX (k+1) f (VV name F M body scope dV kV ac pm an G ct) ps sp:=by
 refine⟨ae,λA B s H args us vs Q E hr e0 hb r ad=>?_⟩;have hl:=ae _ _ _ _ ad;have KX:K.In s.heap:=e0.mod.kin.keeps λb o e=>(e0.bs b o e).1
 have af:s.heap.NoLimit:=e0.mod.nolimit.keeps λb o e=>(e0.bs b o e).1
 have aa:∀y∈ps.zip us,scope.names.lookup y.1=some .local\/(scope.names.lookup y.1=some .cell/\((XB (s.heap.objs.size+1) scope.names []).lookup y.1).isSome=true):=by
  rintro⟨n,v⟩ hy;rcases S.par n (zad hy).1 with q|q
  ·exact .inl q
  ·exact .inr ⟨q,PySem.W.cellsFrom_some _ _ _ (.inl q)⟩
 refine codeAny_call_function hr.depth (KX _ _ lk) rfl S.co S.gen rfl (PySem.W.codeRec_of KX ai) (hb _ _ _ _ ?_);refine wpAny_newFunctionEnv_cells S.kind aa λenv he s1 x=>?_
 subst he;refine⟨af.keeps x.toInCall.keep,codeAny_func ?_⟩;obtain⟨t,ht,hq⟩:=Y A B s H vs Q E (hr.deeper _) ad;have I:Inv (iW CX P w K mg base N F scope f G A B s H E) [] (start N vs) H s1:=zJ S hr.hd e0 hl r x;refine U7 (ht [] s1 (start N vs) H _ I hq) (λfl s' hs=>?_) λe s' hs=>hs
 have fin:∀ {U:St} {H':Hp} {v:V} {u:Value},Inv (iW CX P w K mg base N F scope f G A B s H E) [] U H' s'->RelV v u->Q v H'->CE B P w H s Q u s':=
  λ{U H' v u} J rv q=>⟨v,H',J.os,J.bare,J.base,J.hok,rv,q⟩
 cases fl with
 | ret u=>
  obtain⟨v,U,H',J,rv,q⟩:=hs;exact fin J rv q
 | next=>
  obtain⟨U,H',J,q⟩:=hs;exact fin (v:=V.non) (u:=UG) J rfl q
 | brk=>
  obtain⟨_,_,_,q⟩:=hs;exact VS q
 | cont=>
  obtain⟨_,_,_,q⟩:=hs;exact VS q
section
variable {X:Cx}{x:Str}{p pos:Pos}{e:Expr}{es:List Expr}{t:TA}{id T:String}{r:List V->Hp->VK->Prop}
def P5(r:List V->Hp->VK->Prop)(t:TA):TE:=λσ H Q=>t σ H λvs H1=>r vs H1 Q
theorem lW(U:CallR X (.builtin id) r)(F:Gl X x)(N:X.mg x=none)(Y:UM x=some (.builtin id))(J:PA X (e::es) t)(hn:x ≠ "__name__" := by decide)(B:(x == ("__debug__" : Str))=false:=by decide)
  (G:TL (e::es) X.env=(false,eval e X.env)::TL es X.env:=by rfl) (q:(UD pos (TL es X.env)).any (·.1)=false:=by rfl):PE X (.Call (.Name x p) (e::es) [] pos) (P5 r t):=by
 intro pins s σ H Q I h;refine zac (jA I F N Y ?_ hn B);exact PyProof.Rows.callWith_builtin1 (bE (J pos pins s σ H _ I h) λus M ⟨vs,H1,I1,W,q1⟩=>U pins M σ H1 vs us Q I1 W q1) G q
theorem oN(U:CallR X (.type T) r)(F:Gl X x)(N:X.mg x=none)(Y:UM x=some (.type T))(J:PA X (e::es) t)(hn:x ≠ "__name__" := by decide)(B:(x == ("__debug__" : Str))=false:=by decide)
  (G:TL (e::es) X.env=(false,eval e X.env)::TL es X.env:=by rfl) (q:(UD pos (TL es X.env)).any (·.1)=false:=by rfl):PE X (.Call (.Name x p) (e::es) [] pos) (P5 r t):=by
 intro pins s σ H Q I h;refine zac (jA I F N Y ?_ hn B);exact YY (bE (J pos pins s σ H _ I h) λus M ⟨vs,H1,I1,W,q1⟩=>U pins M σ H1 vs us Q I1 W q1) G q
end
end L2
namespace HT
open PySem PyProof.Rows
noncomputable def lexLt:List Int->List Int->Bool
 | [],[]=>false
 | [],_::_=>true
 | _::_,[]=>false
 | x::xs,y::ys=>if x=y then lexLt xs ys else decide (x<y)
theorem bW(x y:Int)(xs ys:List Int):lexLt (x::xs) (y::ys)=if x=y then lexLt xs ys else decide (x<y):=rfl
theorem dJ:lexLt [] []=false:=rfl
theorem cS(y:Int)(ys:List Int):lexLt [] (y::ys)=true:=rfl
theorem cT(x:Int)(xs:List Int):lexLt (x::xs) []=false:=rfl
theorem lY(A:TZ)(s:TH)(a:Int)(t:Tok)(c:Int)(u:Tok):∃e,YB A s (.int a t) (.int c u) e/\(e=true↔a=c):=
 ⟨(a == c),SeqAt.EqAt.int_int a t c u,by simp⟩
theorem AS(A:TZ)(s:TH)(a:Int)(t:Tok)(c:Int)(u:Tok)(prog:TN)(w:World)(E:Value->TH->Prop)(Q:Value->TH->Prop)(h:Q (.bool (decide (a<c))) s) :
  wpAny (model prog w) A (Y2 .Lt (.int a t) (.int c u)) Q E s:=
 (PyProof.Rows.lt_int h:wpAny (model prog w) A (TY .Lt (.int a t) (.int c u)) Q E s)
section
open PySem.SeqAt
open PySem.AutoSeq1 (wpAny_loadPart')
open PySem.MeetsSeq PySem.MeetsSeq2 PySem.MeetsSeq3
theorem m6(l b:Addr)(items B:Array Value)(n n2:Nat)(dd ad:Option Addr)(sl ae:Array (Option Value))(ns ms:List Int)(hi:UB items.toList ns)(hj:UB B.toList ms) :
  Meets (VP.«tuple.__lt__» ⟨[.ref l,.ref b],[]⟩)
   (λ_ R s => s.heap.get? l = some {cls := .type "tuple", dict:=dd, data := .seq items n, slots:=sl} /\ s.heap.get? b = some {cls := .type "tuple", dict:=ad, data := .seq B n2, slots:=ae} /\
    R (.ok (.ret (.bool (lexLt ns ms)))) s):=
 .of_wp λprog w A R s h=>by
  obtain⟨hp,g,d,tk,os⟩:=s;obtain⟨hl,hb,h⟩:=h;have f2:=zaf;have z1:items.size=ns.length:=by rw[<- hi.length];simp
  have z2:B.size=ms.length:=by rw[<- hj.length];simp
  wp_walk using VJ hl,VJ hb,zag _ (λrest b s'=>b.1=none/\s'=⟨hp,g,d,tk,os⟩/\∃(vs ws:List Value) (J G:List Int),rest=vs.zip ws /\
   UB vs J/\UB ws G/\J.length+B.size=G.length+items.size/\R (.ok (.ret (.bool (lexLt J G)))) ⟨hp,g,d,tk,os⟩) _
  case turn=>
   rintro⟨y,x⟩ rest b s' ⟨W,rfl,vs,ws,J,G,hz,Y,M,F,U⟩;cases Y with
   | nil=>rw[zah]at hz;cases hz
   | cons a t hvi'=>
    cases M with
    | nil=>rw[zai]at hz;cases hz
    | cons c u hwi'=>
     rw[XE]at hz;injection hz with hyx hrest
     injection hyx with hy hx
     subst hy hx;rw[bW]at U;simp only[UK]at F;obtain⟨e,he,N⟩:=lY A.in1 ⟨hp,g,d,tk,os⟩ a t c u;refine TF (he prog w _ _ ?_);cases e with
     | true=>
      rw[if_pos (N.mp rfl)]at U
      wp_walk
      exact⟨rfl,rfl,_,_,_,_,hrest,hvi',hwi',by lia,U⟩
     | false=>
      rw[if_neg (λq=>absurd (N.mpr q) T3)]at U;have ac:=AS A.in1 ⟨hp,g,d,tk,os⟩ a t c u prog w
      wp_walk using ac
      exact⟨_,rfl,by simpa using U⟩
  case fin=>
   rintro⟨b1,b2⟩ s' ⟨W,rfl,vs,ws,J,G,hz,Y,M,F,U⟩;simp only at W;subst W;have hv:lexLt J G=decide (items.size<B.size):=by
    cases Y with
    | nil=>
     cases M with
     | nil=>
      simp only[V1]at F;rw[dJ];exact(decide_eq_false (by lia)).symm
     | cons c u hw=>
      simp only[V1,UK]at F;rw[cS];exact(decide_eq_true (by lia)).symm
    | cons a t hv=>
     cases M with
     | nil=>
      simp only[V1,UK]at F;rw[cT];exact(decide_eq_false (by lia)).symm
     | cons c u hw=>
      rw[XE]at hz;cases hz
   rw[hv]at U
   wp_walk
   exact⟨_,rfl,by simpa[zaj]using U⟩
  case h=>
   exact⟨rfl,rfl,items.toList,B.toList,ns,ms,rfl,hi,hj,by lia,h⟩
end
section
variable {prog:TN}{w:World}{A:TZ}{E:Value->TH->Prop}{s:TH}
theorem k7(hl:IsTup s.heap l items)(hb:IsTup s.heap b items2)(hi:UB items.toList ns)(hj:UB items2.toList ms)
  (hu:A.units<cLine) (h:Q (.bool (lexLt ns ms)) s):wpAny (model prog w) A (TY .Lt (.ref l) (.ref b)) Q E s:=by
 obtain⟨⟨cls,dd,data,sl⟩,W,Y,n,U⟩:=id hl;obtain⟨⟨aa,J,N,M⟩,q,G,n2,B⟩:=id hb;simp only at Y U G B;subst Y U G B;exact zak (op:=.Lt) ⟨_,W,rfl⟩ ⟨_,q,rfl⟩ PySem.F.slot_tuple_lt PySem.F.entry_tuple_lt (PySem.F.args_tuple_lt_2 _ _) (m6 l b items items2 n n2 dd J sl M ns ms hi hj)
  ⟨W,q,show V8 (lexLt ns ms)≠zal/\Q (.bool (lexLt ns ms)) s from⟨(λx=>nomatch x),h⟩⟩ hu
theorem EW(ht:IsTup s.heap t vs.toArray)(hb:IsTup s.heap b ws.toArray)(hv:vs≠[])
  (h1:ws=[]->Q (.ref t) s) (h2:ws≠[]->Q (.ref s.heap.objs.size) {s with heap:=s.heap.push {cls:=.type "tuple",data:=.seq (vs++ws).toArray} })
  (hsz:vs.length+ws.length<=TQ):wpAny (model prog w) A (UQ .Add (.ref t) (.ref b)) Q E s:=by
 obtain⟨⟨cls,dd,data,sl⟩,M,W,n,U⟩:=id ht;obtain⟨⟨ab,B,N,F⟩,q,J,Y,G⟩:=id hb;simp only at W U J G;subst W U J G;have e:vs.toArray++ws.toArray=(vs++ws).toArray:=by simp
 by_cases hw:ws=[]
 ·exact concat_meets ⟨_,M,rfl⟩ ⟨_,q,rfl⟩ zam seq_tuple_add zan zao (zap _ _)
   (tuple_addW1 t b vs.toArray ws.toArray n Y dd B sl F (by simpa using hv) (by simp[hw])) ⟨M,q,h1 hw⟩
 ·refine concat_meets ⟨_,M,rfl⟩ ⟨_,q,rfl⟩ zam seq_tuple_add zan zao (zap _ _)
   (tuple_addW2 t b vs.toArray ws.toArray n Y dd B sl F (by simpa using hv) (by simpa using hw) (by rw[T6,T6];exact hsz)) ⟨M,q,?_⟩
  rw[e];exact h2 hw
noncomputable def sIx(n d:Nat):Option Int->Nat
 | none=>d
 | some v=>if v<0 then(v+(n:Int)).toNat else min v.toNat n
theorem KA(n d:Nat)(B:d<=n)(o:Option Int):sIx n d o<=n:=by
 cases o with
 | none=>exact B
 | some v=>
  show(if v<0 then(v+(n:Int)).toNat else min v.toNat n)<=n;by_cases q:v<0
  ·rw[if_pos q];lia
  ·rw[if_neg q];exact Nat.min_le_right _ _
theorem vX(v:Int)(n d:Nat):(if v<0 then max (v+(n:Int)) 0 else min v (n:Int))=((sIx n d (some v):Nat):Int):=by
 show(if v<0 then max (v+(n:Int)) 0 else min v (n:Int))=(((if v<0 then(v+(n:Int)).toNat else min v.toNat n):Nat):Int);by_cases q:v<0
 ·simp only[if_pos q];lia
 ·simp only[if_neg q];lia
theorem t4(lo hi:Option Int)(n:Nat):zaq lo hi 1 (n:Int)=(((sIx n 0 lo:Nat):Int),((sIx n n hi:Nat):Int)):=by
 have h1:¬ ((1:Int)<0):=by lia
 unfold zaq;simp only[h1,if_false];refine Prod.ext ?_ ?_
 ·cases lo with
  | none=>rfl
  | some v=>exact vX v n 0
 ·cases hi with
  | none=>rfl
  | some v=>exact vX v n n
theorem t7(i j:Nat):Y3 (i:Int) (j:Int) 1=j-i:=by
 unfold Y3;have h1:(1:Int)>0:=by lia
 simp only[h1,if_true,Int.ediv_one];split <;> lia
theorem k8(p:WA v o)(h:Q o s):wpAny (model prog w) A (Builtin.Slice.slicePartIndex v) Q E s:=by
 cases p with
 | none=>exact slicePart_none h
 | int i t=>exact slicePart_int h
theorem dN{J:Addr}{F G:Value}{lo hi:Option Int}{n:Nat}{Q:Int×Int×Nat->TH->Prop}(hs:s.heap.IsSliceOf J F G .none)(M:WA F lo)(N:WA G hi)
  (h:Q (((sIx n 0 lo:Nat):Int),1,sIx n n hi-sIx n 0 lo) s):wpAny (model prog w) A (Builtin.Slice.sliceApplied (.ref J) (pure (n:Int))) Q E s:=by
 obtain⟨os,q,U,B⟩:=id hs;unfold Builtin.Slice.sliceApplied Builtin.Slice.sliceFields;refine TF (TF (U6 q B (x:=F) rfl (TF (U6 q B (x:=G) rfl (TF (U6 q B (x:=.none) rfl (TJ ?_)))))));refine TF (slicePart_none ?_);show wpAny _ _ (if((1:Int) == 0)=true then _ else _) _ _ s;rw[if_neg (by decide)];refine TF (k8 M (TF (k8 N (TF (TJ ?_)))));show wpAny _ _ (match zaq lo hi 1 (n:Int)with|(lo,hi)=>pure (lo,(1:Int),Y3 lo hi 1)) _ _ s;rw[t4 lo hi n];show wpAny _ _ (pure (((sIx n 0 lo:Nat):Int),(1:Int),Y3 ((sIx n 0 lo:Nat):Int) ((sIx n n hi:Nat):Int) 1)) _ _ s;rw[t7];exact TJ h
theorem BN(xs:Array Value)(i k:Nat):((UU k).filterMap λ(m:Nat)=>xs[((i:Int)+(m:Int)*1).toNat]?).toArray=((xs.toList.drop i).take k).toArray:=by
 have e:(λ(m:Nat)=>xs[((i:Int)+(m:Int)*1).toNat]?)=λm=>xs[i+m]?:=by
  funext m;have:((i:Int)+(m:Int)*1).toNat=i+m:=by lia
  rw[this]
 rw[e];have:=pick_run xs i k;rw[List.filterMap_map]at this;have q:((λx=>xs[x]?) ∘ λx=>i+x)=λm=>xs[i+m]?:=rfl
 rw[q]at this;rw[this]
theorem g4{t U:Addr}{items:Array Value}{W Y:Value}{lo hi:Option Int}{Q:Value->TH->Prop}(F:IsTup s.heap t items)(hs:s.heap.IsSliceOf U W Y .none)(pl:WA W lo)(pu:WA Y hi)
  (hw:¬ (sIx items.size 0 lo=0/\sIx items.size items.size hi=items.size))
  (h:Q (.ref s.heap.objs.size) {s with heap:=s.heap.push {cls:=.type "tuple",data:=.seq ((items.toList.drop (sIx items.size 0 lo)).take (sIx items.size items.size hi-sIx items.size 0 lo)).toArray} })
  (hsz:items.size<=TQ):wpAny (model prog w) A (WB (.ref t) (.ref U)) Q E s:=by
 have B:sizeOk (.seq ((items.toList.drop (sIx items.size 0 lo)).take (sIx items.size items.size hi-sIx items.size 0 lo)).toArray):=by
  show((items.toList.drop (sIx items.size 0 lo)).take (sIx items.size items.size hi-sIx items.size 0 lo)).toArray.size<=TQ;rw[T6,X9,zar,VF]
  lia
 have hj:sIx items.size items.size hi<=items.size:=KA _ _ (T5 _) hi;obtain⟨os,G,N,aa⟩:=id hs;have M:s.TypeIs (.ref U) "slice" := ⟨os,G,N⟩;unfold WB
 try with_reducible refine VG ?_
 first|refine TF (TJ ?_)|skip
 refine TF (wpAny_sequenceKey F.typeIs (by decide) ?_);refine TF (WC (name:=WD "__getitem__") F.typeIs Y4
  (VL Y4 F.typeIs entry_tuple_getitem ?_ (args_tuple_getitem _ _)))
 show wpAny _ _ (Builtin.Tuple.tupleItemsOf (.ref t) >>= _) _ _ s;refine TF (tupleItemsOf_ F ?_);refine TF (Y5 M ?_);rw[if_pos (by decide)];refine TF (dN hs pl pu ?_);have J:¬ ((((sIx items.size 0 lo:Nat):Int) == 0 && (1:Int) == 1 && (sIx items.size items.size hi-sIx items.size 0 lo) == items.size)=true):=by
  intro q;rw[UR,UR]at q;have q1:((sIx items.size 0 lo:Nat):Int)=0:=eq_of_beq q.1.1;have q2:sIx items.size items.size hi-sIx items.size 0 lo=items.size:=eq_of_beq q.2;exact hw ⟨by lia,by lia⟩
 show wpAny _ _ (if(((sIx items.size 0 lo:Nat):Int) == 0 && (1:Int) == 1 && (sIx items.size items.size hi-sIx items.size 0 lo) == items.size)=true then _ else _) _ _ s;rw[if_neg J,BN]
 first
  | exact TF (m:=Y6 _) (VE (TJ ⟨_,rfl,TJ h⟩) B)
  | exact TF (m:=Y6 _) (VE (TF (TJ (TJ ⟨_,rfl,TJ h⟩))) B)
  | exact TF (TF (m:=Y6 _) (VE (TJ (TJ ⟨_,rfl,TJ h⟩)) B))
  | exact TF (TF (m:=Y6 _) (VE (TJ ⟨_,rfl,TJ h⟩) B))
end
end HT
namespace L2
open PySem PySem.Spec PyProof.Rows
abbrev TO:=St->Hp->(Option Int->Hp->Prop)->Prop
def PO(X:Cx)(e:Option Expr)(t:TO):Prop:=
 ∀(pins:List (Addr×Obj)) (s:TH) (σ:St) (H:Hp) (Q:Option Int->Hp->Prop),Inv X pins σ H s->t σ H Q->
  wpAny (model X.prog X.w) X.A (evalPart e X.env) (λu s'=>∃o H',Inv X pins σ H' s'/\WA u o/\Q o H') X.xe s
def ET:TO:=λ_ H Q=>Q none H
def NJ(t:TE):TO:=λσ H Q=>t σ H λx H1=>∃i,x=.int i/\Q (some i) H1
theorem intsAre_of:∀ {q:List Value},Vals (ns.map V.int) q->UB q ns:=by
 induction ns with
 | nil=>intro q r;rw[W2]at r;cases r;exact .nil
 | cons n ns ih=>
  intro q r;rw[T1]at r;cases r with
  | cons r1 r2=>
   obtain⟨t,e⟩:=r1;subst e;exact .cons n t (ih r2)
section
variable {X:Cx}{e:Expr}{te:TE}{lo hi:Option Expr}{tl th:TO}{pos p2:Pos}
theorem G3:PO X none ET:=by
 intro pins s σ H Q I h;rw[evalPart_none];exact TJ ⟨none,H,I,.none,h⟩
theorem EJ(h:PE X e te):PO X (some e) (NJ te):=by
 intro pins s σ H Q I hw;rw[evalPart_some];refine bE (h pins s σ H _ I hw) λu J ⟨x,H1,F,B,G⟩=>?_
 obtain⟨i,rfl,q⟩:=G;obtain⟨t,rfl⟩:=B;exact⟨some i,H1,F,.int i t,q⟩
def SlR(X:Cx)(r:V->Option Int->Option Int->Hp->VK->Prop):Prop:=
 ∀(pins:List (Addr×Obj)) (s:TH) (σ:St) (H:Hp) (x:V) (v vl vu:Value) (lo hi:Option Int) (sl:Addr) (Q:VK),Inv X pins σ H s->RelV x v->s.heap.IsSliceOf sl vl vu .none->WA vl lo->WA vu hi->r x lo hi H Q->
  ∃T id,typeLookup (.type T) "__getitem__" = pure (some (.builtin id))/\s.TypeIs v T/\wpAny (model X.prog X.w) X.A (WB v (.ref sl)) (EP X pins σ Q) X.xe s
theorem SlR.or(h:SlR X r)(h':SlR X r'):SlR X (λx lo hi H Q=>r x lo hi H Q\/r' x lo hi H Q):=by
 intro pins s σ H x v B F lo hi N Q I M hs J G q;rcases q with q|q
 ·exact h pins s σ H x v B F lo hi N Q I M hs J G q
 ·exact h' pins s σ H x v B F lo hi N Q I M hs J G q
def SY(r:V->Option Int->Option Int->Hp->VK->Prop)(te:TE)(tl th:TO):TE:=λσ H Q=>te σ H λx H1=>tl σ H1 λl H2=>th σ H2 λu q=>r x l u q Q
theorem A8(hr:SlR X r)(M:PE X e te)(Y:PO X lo tl)(hu:PO X hi th):PE X (.Subscript e (.Slice lo hi none p2) pos) (SY r te tl th):=by
 intro pins s σ H Q I h;refine Subscript_ (bE (M pins s σ H _ I h) λv N ⟨x,H1,I1,r1,q1⟩=>?_);refine wpAny_Slice (bE (Y pins N σ H1 _ I1 q1) λF s2 ⟨l,H2,I2,pl,U⟩=>bE (hu pins s2 σ H2 _ I2 U) λG B ⟨u,J,I3,W,q3⟩=>?_);rw[evalPart_none];refine TJ ?_;have I4:Inv X pins σ J {B with heap:=B.heap.push {cls:=.type "slice",data:=.fields #[F,G,.none]} }:=I3.kept (t':=B.toks) λb ob q=>T4 _ q
 obtain⟨T,id,hT,ht,hg⟩:=hr pins {B with heap:=B.heap.push {cls:=.type "slice",data:=.fields #[F,G,.none]} } σ J x v F G l u B.heap.objs.size Q I4 r1 (Heap.IsSliceOf.new ..) pl W q3;show wpAny (model X.prog X.w) X.A (subscriptTail e (.Slice lo hi none p2) v (.ref B.heap.objs.size)) (EP X pins σ Q) X.xe {B with heap:=B.heap.push {cls:=.type "slice",data:=.fields #[F,G,.none]} };exact tail_any (ops:=[.ref B.heap.objs.size,v]) ht hT hg (by with_unfolding_all rfl)
def nC(xs:List V)(lo hi:Option Int):List V:=(xs.drop (HT.sIx xs.length 0 lo)).take (HT.sIx xs.length xs.length hi-HT.sIx xs.length 0 lo)
theorem jR(xs:List V)(lo hi:Option Int):(nC xs lo hi).length<=xs.length:=by
 unfold nC;rw[X9,zar]
 lia
def PH(K:TK):V->Option Int->Option Int->Hp->VK->Prop:=λx lo hi H Q=>∃a xs,x=.ref a/\SqT K H a xs /\
 ¬ (HT.sIx xs.length 0 lo=0/\HT.sIx xs.length xs.length hi=xs.length)/\∀p,H p=none->Q (.ref p) (upd H p (.tup (nC xs lo hi)))
theorem KF:SlR X (PH X.K):=by
 intro pins s σ H x v W Y lo hi sl Q I U hs N M h;obtain⟨a,xs,rfl,J,hw,q⟩:=h;cases U;obtain⟨F,r,G,hz⟩:=I.tuple J;have B:F.toArray.size=xs.length:=by rw[T6];exact r.length.symm
 refine⟨"tuple",_,PyProof.Rows.slot_tuple_getitem.lookup,G.typeIs,?_⟩;refine HT.g4 G hs N M (by rw[B];exact hw) ?_ (by rw[B];exact hz);rw[B];refine⟨.ref s.heap.objs.size,_,I.laid (t':=s.toks) (o:=.tup (nC xs lo hi)) (λb ob q=>T4 _ q) (T5 _) ?_,rfl,q _ (I.hok.fresh (T5 _))⟩;exact⟨UV (jR xs lo hi) hz,_,(r.drop (HT.sIx xs.length 0 lo)).take (HT.sIx xs.length xs.length hi-HT.sIx xs.length 0 lo),IsTupN.new _ _⟩
def QR(K:TK):R2:=λx y H Q=>∃a b ns ms,x=.ref a/\y=.ref b/\SqT K H a (ns.map V.int)/\SqT K H b (ms.map V.int)/\Q (.bl (HT.lexLt ns ms)) H
theorem KG(J:X.A.units<cLine):OpR X (TY .Lt) (QR X.K):=by
 intro pins s σ H x y v u Q I Y U h;obtain⟨a,b,ns,ms,rfl,rfl,G,hb,q⟩:=h;cases Y;cases U;obtain⟨F,N,p1,_⟩:=I.tuple G;obtain⟨B,r2,p2,_⟩:=I.tuple hb;have M:UB F.toArray.toList ns:=intsAre_of N;have W:UB B.toArray.toList ms:=intsAre_of r2;exact HT.k7 p1 p2 M W J ⟨.bl (HT.lexLt ns ms),H,I,rfl,q⟩
def NZ(K:TK):R2:=λx y H Q=>∃a b xs ys,x=.ref a/\y=.ref b/\SqT K H a xs/\SqT K H b ys/\xs≠[]/\xs.length+ys.length<=TQ /\
 (ys=[]->Q (.ref a) H)/\(ys≠[]->∀p,H p=none->Q (.ref p) (upd H p (.tup (xs++ys))))
theorem Vals.nil_iff(r:Vals xs us):us=[]↔xs=[]:=by
 cases r with
 | nil=>simp
 | cons _ _=>simp
theorem FF:OpR X (UQ .Add) (NZ X.K):=by
 intro pins s σ H x y v u Q I Y N h;obtain⟨a,b,xs,ys,rfl,rfl,J,M,U,hz,q1,W⟩:=h;cases Y;cases N;obtain⟨aa,F,p1,_⟩:=I.tuple J;obtain⟨G,B,p2,_⟩:=I.tuple M;refine HT.EW p1 p2 (λz=>U (F.nil_iff.mp z)) (λz=>⟨.ref a,H,I,rfl,q1 (B.nil_iff.mp z)⟩) (λz=>?_) (by rw[<- F.length,<- B.length];exact hz);refine⟨.ref s.heap.objs.size,_,I.laid (t':=s.toks) (o:=.tup (xs++ys)) (λb ob q=>T4 _ q) (T5 _) ?_,rfl,W (λw=>z (B.nil_iff.mpr w)) _ (I.hok.fresh (T5 _))⟩;exact⟨by rw[VB];exact hz,_,F.append B,IsTupN.new _ _⟩
end
noncomputable def AC(n:Nat)(i:Int):Option Nat:=if 0<=i then(if i<n then some i.toNat else none)else if -(n:Int)<=i then some (i+n).toNat else none
def c7{α:Type}(xs:List α)(i:Int):Option α:=(AC xs.length i).bind λj=>xs[j]?
theorem wM(h:AC n i=some j):seqIndex? i n=some j/\j<n/\-(n:Int)<=i/\i<n:=by
 unfold AC at h;by_cases h0:0<=i
 ·rw[if_pos h0]at h
  by_cases h1:i<n
  ·rw[if_pos h1]at h
   have e:i.toNat=j:=UL h;exact⟨by rw[seqIndex_of h0 h1,e],by lia,by lia,h1⟩
  ·rw[if_neg h1]at h;cases h
 ·rw[if_neg h0]at h
  by_cases h1:-(n:Int)<=i
  ·rw[if_pos h1]at h
   have e:(i+n).toNat=j:=UL h;exact⟨by rw[seqIndex_neg (by lia) h1,e],by lia,h1,by lia⟩
  ·rw[if_neg h1]at h;cases h
theorem pT{q:Type}{xs:List q}{i:Int}{v:q}(h:c7 xs i=some v):∃j,seqIndex? i xs.length=some j/\xs[j]?=some v/\j<xs.length/\-(xs.length:Int)<=i/\i<xs.length:=by
 unfold c7 at h;cases e:AC xs.length i with
 | none=>rw[e]at h;cases h
 | some j=>
  rw[e]at h;obtain⟨h1,h2,B,F⟩:=wM e;exact⟨j,h1,h,h2,B,F⟩
theorem b7{q:Type}{xs:List q}{j:Nat}{v:q}(h:xs[j]?=some v):c7 xs (j:Int)=some v:=by
 have B:j<xs.length:=(List.getElem?_eq_some_iff.mp h).1;have e:AC xs.length (j:Int)=some j:=by
  unfold AC;rw[if_pos (by lia),if_pos (by lia)];simp
 unfold c7;rw[e];exact h
def pV(b:Expr):Prop:=∀o i,Y7 b false o i=operate [o,i] (WB o i)
def IxR(X:Cx)(r:R2):Prop:=
 ∀(value slice:Expr) (pins:List (Addr×Obj)) (s:TH) (σ:St) (H:Hp) (x y:V) (v u:Value) (Q:VK),Inv X pins σ H s->RelV x v->RelV y u->r x y H Q->
  Y7 slice false v u=operate [v,u] (WB v u)->wpAny (model X.prog X.w) X.A (subscriptTail value slice v u) (EP X pins σ Q) X.xe s
def MtR(X:Cx)(id:String)(r:V->List V->Hp->VK->Prop):Prop:=
 ∀(pins:List (Addr×Obj)) (s:TH) (σ:St) (H:Hp) (x:V) (xs:List V) (v:Value) (us:List Value) (Q:VK),Inv X pins σ H s->RelV x v->Vals xs us->r x xs H Q->
  wpAny (model X.prog X.w) X.A (call (.builtin id) (v::us)) (EP X pins σ Q) X.xe s
section
variable {X:Cx}{a b:Expr}{ta tb:TE}{pos:Pos}
theorem IxR.or(h:IxR X r)(h':IxR X r'):IxR X (λx y H Q=>r x y H Q\/r' x y H Q):=by
 intro value B pins s σ H x y v u Q I F G q hs;rcases q with q|q
 ·exact h value B pins s σ H x y v u Q I F G q hs
 ·exact h' value B pins s σ H x y v u Q I F G q hs
theorem MtR.or{id:String}{r F:V->List V->Hp->VK->Prop}(h:MtR X id r)(h':MtR X id F):MtR X id (λx xs H Q=>r x xs H Q\/F x xs H Q):=by
 intro pins s σ H x xs v B Q I G rs q;rcases q with q|q
 ·exact h pins s σ H x xs v B Q I G rs q
 ·exact h' pins s σ H x xs v B Q I G rs q
theorem NH(N:IxR X r)(B:PE X a ta)(U:PE X b tb)(hs:pV b):PE X (.Subscript a b pos) (M7 r ta tb):=by
 intro pins s σ H Q I h;exact Subscript_ (MU B U I h λv u J x y H2 G M F q=>N a b pins J σ H2 x y v u Q G M F q (hs _ _))
def OZ(K:TK):R2:=λx y H Q=>∃p xs i v,x=.ref p/\y=.int i/\SqL K H p xs/\c7 xs i=some v/\Q v H
def PK(K:TK):R2:=λx y H Q=>∃p xs i v,x=.ref p/\y=.int i/\SqT K H p xs/\c7 xs i=some v/\Q v H
def PM:R2:=λx y H Q=>∃z i c,x=.str z/\y=.int i/\z.length<=TQ/\c7 z.cps.toList i=some c/\Q (.str ⟨#[c]⟩) H
theorem F6:IxR X (OZ X.K):=by
 intro value J pins s σ H x y v u Q I rx ry h hs;obtain⟨p,xs,i,z,rfl,rfl,hq,Y,q⟩:=h;cases rx;obtain⟨t,rfl⟩:=ry;obtain⟨M,r,G,hz⟩:=I.list hq;obtain⟨j,h1,h2,h3,U,h5⟩:=pT Y;obtain⟨w,N,F⟩:=r.get h2;have W:=r.length;have hn:=mH;have fin:EP X pins σ Q w s:=⟨z,H,I,F,q⟩;by_cases h0:0<=i
 ·have B:i.toNat=j:=by
   rw[seqIndex_of h0 h5]at h1;exact UL h1
  exact item_listR G.isList h0 (by lia) (by rw[B];simpa using N) fin hs
 ·have B:(i+(M.toArray.size:Int)).toNat=j:=by
   rw[seqIndex_neg (by lia) U]at h1;rw[T6,<- W];exact UL h1
  exact subscriptTail_builtinR (x:=w) G.isList.typeIs slot_list_getitem.lookup
   (wpAny_getItem_list_neg (Q:=λr s'=>r=w/\EP X pins σ Q r s') G.isList (by lia) (by rw[T6] <;> lia) (by lia) (by rw[B];simpa using N) ⟨rfl,fin⟩) hs
theorem KD:IxR X (PK X.K):=by
 intro value F pins s σ H x y v u Q I W N h hs;obtain⟨p,xs,i,z,rfl,rfl,hq,M,q⟩:=h;cases W;obtain⟨t,rfl⟩:=N;obtain⟨Y,r,G,hz⟩:=I.tuple hq;obtain⟨j,h1,h2,h3,h4,h5⟩:=pT M;obtain⟨w,U,B⟩:=r.get h2;have J:=r.length;have hn:=mH;have fin:EP X pins σ Q w s:=⟨z,H,I,B,q⟩;exact subscriptTail_builtinR (x:=w) G.typeIs slot_tuple_getitem.lookup
  (getItem_tuple (j:=j) (Q:=λr s'=>r=w/\EP X pins σ Q r s') G (by lia) (by lia) (by rw[T6,<- J];exact h1) (by simpa using U) ⟨rfl,fin⟩) hs
theorem LN:IxR X PM:=by
 intro value B pins s σ H x y v u Q I U N h hs;obtain⟨z,i,c,rfl,rfl,hz,J,q⟩:=h;obtain⟨t,rfl⟩:=U;obtain⟨t',rfl⟩:=N;obtain⟨j,h1,h2,h3,F,M⟩:=pT J;have G:z.cps.toList.length=z.length:=by simp[Str.length]
 rw[G]at h1 F M;have hn:=mH;exact tail_any (typeIs_str s z t) slot_str_getitem.lookup (getItem_str (c:=c) (by
  have Y:decide (i < -(2^63:Int))=false:=decide_eq_false (by lia);have W:decide (i ≥ 2^63)=false:=decide_eq_false (by lia);rw[Y,W,Bool.or_false]) (by rw[h1];simpa using h2) ⟨.str ⟨#[c]⟩,H,I.tok _,⟨_,rfl⟩,q⟩) hs
def SL(K:TK):R2:=λx y H Q=>OZ K x y H Q\/PK K x y H Q\/PM x y H Q
theorem IW:IxR X (SL X.K):=F6.or (KD.or LN)
theorem uD(q:List Value)(n j:Nat)(u:Value):VD (·.setIfInBounds j u) {cls:=.type "list",data:=.seq q.toArray n}={cls:=.type "list",data:=.seq (q.set j u).toArray n}:=by
 simp[VD]
theorem Inv.lst{pins:List (Addr×Obj)}{σ:St}{H:Hp}{s:TH}{p:Addr}{xs:List V}(I:Inv X pins σ H s)(h:H p=some (.lst xs)) :
  ∃(q:List Value) (n:Nat),Vals xs q/\s.heap.get? p=some {cls:=.type "list",data:=.seq q.toArray n}/\xs.length<=TQ:=by
 obtain⟨z,q,n,r,e⟩:=I.hok p _ h;exact⟨q,n,r,e,z⟩
theorem Inv.lstUpd{pins:List (Addr×Obj)}{xs ys:List V}{B its':List Value}{n F:Nat}{f:Obj->Obj}(I:Inv X pins σ H s)(h:H p=some (.lst xs))
  (J:s.heap.get? p=some {cls:=.type "list",data:=.seq B.toArray n}) (G:f {cls:=.type "list",data:=.seq B.toArray n}={cls:=.type "list",data:=.seq its'.toArray F}) (r:Vals ys its') (hz:ys.length<=TQ) (t:Nat) :
  Inv X pins σ (upd H p (.lst ys)) {s with heap:=s.heap.update p f,toks:=t}:=by
 have e:(s.heap.update p f).get? p=some {cls:=.type "list",data:=.seq its'.toArray F}:=by
  rw[WM f J (by rw[G] <;> rfl),G]
 refine I.write (x:=p) (e:=p) (by rw[h];trivial) (.inl rfl) (λb u M q=>(WE _ _ (UH M)).trans q) ⟨_,e⟩ ?_;exact⟨hz,its',F,r,e⟩
def OH:V->V->V->Hp->(Hp->Prop)->Prop:=λo i v H Q=>∃p xs k j,o=.ref p/\i=.int k/\H p=some (.lst xs)/\AC xs.length k=some j/\Q (upd H p (.lst (xs.set j v)))
theorem set_list:G9 X OH:=by
 intro pins s σ H o i v ov iv u Q I ro ri rv h;obtain⟨p,xs,k,j,rfl,rfl,U,hj,q⟩:=h;cases ro;obtain⟨t,rfl⟩:=ri;obtain⟨B,n,r,G,hz⟩:=I.lst U;obtain⟨h1,h2,M,N⟩:=wM hj;have J:=r.length;have hn:=mH;have Y:Inv X pins σ (upd H p (.lst (xs.set j v))) {s with heap:=s.heap.update p (VD (·.setIfInBounds j u))}:=
  I.lstUpd U G (uD B n j u) (r.set rv j) (by rw[List.length_set];exact hz) s.toks
 by_cases h0:0<=k
 ·have F:k.toNat=j:=by
   rw[seqIndex_of h0 N]at h1;exact UL h1
  exact PySem.W.ki_setAt G h0 (by lia) (by rw[T6,<- J];exact N) (by rw[F];exact⟨_,Y,q⟩)
 ·have F:(k+(B.toArray.size:Int)).toNat=j:=by
   rw[seqIndex_neg (by lia) M]at h1;rw[T6,<- J];exact UL h1
  exact PySem.W.ki_setBack G (by lia) (by rw[T6,<- J];exact M) (by lia) (by rw[F];exact⟨_,Y,q⟩)
theorem pE(lo hi:Option Int)(n:Nat):(WF lo hi none n).1=((HT.sIx n 0 lo:Nat):Int)/\(WF lo hi none n).2.1=((HT.sIx n n hi:Nat):Int)/\(WF lo hi none n).2.2=1:=by
 refine⟨?_,?_,rfl⟩
 ·cases lo with
  | none=>simp[WF,HT.sIx]
  | some i=>
   simp only[WF,HT.sIx,Option.getD_none,show(1:Int)>0 by decide,if_true];by_cases h:i<0
   ·simp only[h,if_true] <;> lia
   ·simp only[h,if_false] <;> lia
 ·cases hi with
  | none=>simp[WF,HT.sIx]
  | some i=>
   simp only[WF,HT.sIx,Option.getD_none,show(1:Int)>0 by decide,if_true];by_cases h:i<0
   ·simp only[h,if_true] <;> lia
   ·simp only[h,if_false] <;> lia
theorem m7(q:List Value)(lo hi:Option Int):slicePick q.toArray lo hi none=((q.drop (HT.sIx q.length 0 lo)).take (HT.sIx q.length q.length hi-HT.sIx q.length 0 lo)).toArray:=by
 obtain⟨h1,h2,B⟩:=pE lo hi q.toArray.size;unfold slicePick;rw[h1,h2,B];simp only[sliceRange_one,pick_run,T6] <;> rfl
def QN(K:TK):V->Option Int->Option Int->Hp->VK->Prop:=λx lo hi H Q=>∃a xs,x=.ref a/\SqL K H a xs/\∀p,H p=none->Q (.ref p) (upd H p (.lst (nC xs lo hi)))
theorem FM:SlR X (QN X.K):=by
 intro pins s σ H x v W Y lo hi sl Q I N hs M J h;obtain⟨a,xs,rfl,G,q⟩:=h;cases N;obtain⟨U,r,F,hz⟩:=I.list G;have B:=r.length;refine⟨"list",_,slot_list_getitem.lookup,F.isList.typeIs,?_⟩;refine wpAny_getItem_list_slice F.isList hs M J .none (by simp) ?_ (by rw[T6] <;> lia);rw[m7,<- B];refine⟨.ref s.heap.objs.size,_,I.laid (t':=s.toks) (o:=.lst (nC xs lo hi)) (λb ob q=>T4 _ q) (T5 _) ?_,rfl,q _ (I.hok.fresh (T5 _))⟩;exact⟨UV (jR xs lo hi) hz,_,0,(r.drop (HT.sIx xs.length 0 lo)).take (HT.sIx xs.length xs.length hi-HT.sIx xs.length 0 lo),UC _ rfl⟩
noncomputable def iU:V->Bool
 | .non=>true
 | .bl _=>true
 | .int _=>true
 | .str _=>true
 | _=>false
noncomputable def IQ:V->V->Bool
 | .non,.non=>true
 | .bl a,.bl b=>a == b
 | .bl a,.int b=>(if a then 1 else 0) == b
 | .int a,.bl b=>a == (if b then 1 else 0)
 | .int a,.int b=>a == b
 | .str a,.str b=>a == b
 | _,_=>false
theorem LI(B:RelV y u)(q:RelV x v)(F:iU y=true)(fx:iU x=true):YB A s u v (IQ y x):=by
 cases y with
 | non=>
  cases B;cases x with
  | non=>cases q;exact SeqAt.EqAt.same _
  | bl b=>cases q;exact SeqAt.EqAt.none_bool b
  | int b=>obtain⟨t,rfl⟩:=q;exact SeqAt.EqAt.none_int b t
  | str b=>obtain⟨t,rfl⟩:=q;exact SeqAt.EqAt.none_str b t
  | _=>exact absurd (show false=true from fx) T3
 | bl a=>
  cases B;cases x with
  | non=>cases q;exact SeqAt.EqAt.bool_none a
  | bl b=>cases q;exact SeqAt.EqAt.bool_bool a b
  | int b=>obtain⟨t,rfl⟩:=q;exact SeqAt.EqAt.bool_int a b t
  | str b=>obtain⟨t,rfl⟩:=q;exact SeqAt.EqAt.bool_str a b t
  | _=>exact absurd (show false=true from fx) T3
 | int a=>
  obtain⟨t',rfl⟩:=B;cases x with
  | non=>cases q;exact SeqAt.EqAt.int_none a t'
  | bl b=>cases q;exact SeqAt.EqAt.int_bool a t' b
  | int b=>obtain⟨t,rfl⟩:=q;exact SeqAt.EqAt.int_int a t' b t
  | str b=>obtain⟨t,rfl⟩:=q;exact SeqAt.EqAt.int_str a t' b t
  | _=>exact absurd (show false=true from fx) T3
 | str a=>
  obtain⟨t',rfl⟩:=B;cases x with
  | non=>cases q;exact SeqAt.EqAt.str_none a t'
  | bl b=>cases q;exact SeqAt.EqAt.str_bool a t' b
  | int b=>obtain⟨t,rfl⟩:=q;exact SeqAt.EqAt.str_int a t' b t
  | str b=>obtain⟨t,rfl⟩:=q;exact SeqAt.EqAt.str_str a t' b t
  | _=>exact absurd (show false=true from fx) T3
 | _=>exact absurd (show false=true from F) T3
def HS(x:V)(u:Value):Bool:=match u with
 | .none=>IQ .non x
 | .bool b=>IQ (.bl b) x
 | .int i _=>IQ (.int i) x
 | .str z _=>IQ (.str z) x
 | _=>false
theorem DE(r:RelV y u)(f:iU y=true):HS x u=IQ y x:=by
 cases y with
 | non=>cases r;rfl
 | bl b=>cases r;rfl
 | int i=>obtain⟨t,rfl⟩:=r;rfl
 | str z=>obtain⟨t,rfl⟩:=r;rfl
 | _=>exact absurd (show false=true from f) T3
theorem qB:∀ {xs:List V} {us:List Value},Vals xs us->xs.all iU=true->us.any (HS x)=xs.any λy=>IQ y x
 | _,_,.nil,_=>rfl
 | y::xs,u::us,.cons r t,f=>by
  rw[XF,UR]at f;rw[VQ,VQ,DE r f.1,qB t f.2]
theorem lN(B:RelV x v)(fx:iU x=true):∀ {xs:List V} {us:List Value},Vals xs us->xs.all iU=true->∀u∈us,YB A s u v (HS x u)
 | _,_,.nil,_=>λu q=>by cases q
 | y::xs,u::us,.cons r t,f=>λF q=>by
  rw[XF,UR]at f;rcases List.mem_cons.mp q with rfl|q
  ·rw[DE r f.1];exact LI r B f.1 fx
  ·exact lN B fx t f.2 F q
def inV(x:V)(xs:List V):Bool:=xs.any λy=>IQ y x
def SG(K:TK)(neg:Bool):R2:=λx y H Q=>∃p xs,y=.ref p/\(SqL K H p xs\/SqT K H p xs)/\iU x=true/\xs.all iU=true/\Q (.bl (if neg then !inV x xs else inV x xs)) H
theorem yH:OpR X (TY .In) (SG X.K false):=by
 intro pins s σ H x y v u Q I J M h;obtain⟨p,xs,rfl,F,fx,fs,q⟩:=h;cases M;rcases F with F|F
 ·obtain⟨B,r,G,hz⟩:=I.list F
  refine SeqAt.in_listAt (HS x) G.isList (λw hw=>lN J fx r fs w (by simpa using hw)) ⟨.bl _,H,I,rfl,?_⟩;rw[show B.toArray.any (HS x)=B.any (HS x) by simp,qB r fs];exact q
 ·obtain⟨B,r,G,hz⟩:=I.tuple F
  refine SeqAt.in_tupleAt (HS x) G (λw hw=>lN J fx r fs w (by simpa using hw)) ⟨.bl _,H,I,rfl,?_⟩;rw[show B.toArray.any (HS x)=B.any (HS x) by simp,qB r fs];exact q
theorem CallR.or(h:CallR X f r)(h':CallR X f r'):CallR X f (λxs H Q=>r xs H Q\/r' xs H Q):=by
 intro pins s σ H xs B Q I rs q;rcases q with q|q
 ·exact h pins s σ H xs B Q I rs q
 ·exact h' pins s σ H xs B Q I rs q
theorem pL:CallR X (.type "list") (λxs H Q=>∃p ys,xs=[.ref p]/\(SqL X.K H p ys\/SqT X.K H p ys)/\∀l,H l=none->Q (.ref l) (upd H l (.lst ys))):=by
 intro pins s σ H xs us Q I r h;obtain⟨p,ys,rfl,N,q⟩:=h;obtain⟨u,rfl,rx⟩:=vals1 r;cases rx;have fin:∀(B:List Value),Vals ys B->ys.length<=TQ->∀(h':Heap) (F:Nat),(∀b o',s.heap.get? b=some o'->h'.get? b=some o')->
   h'.get? s.heap.objs.size=some {cls:=.type "list",dict:=none,data:=.seq B.toArray F,slots:=#[]}->EP X pins σ Q (.ref s.heap.objs.size) {s with heap:=h'}:=λB G hz h' F M e=>
  ⟨.ref s.heap.objs.size,_,I.laid (t':=s.toks) M (T5 _) (show ObjOk X.prog X.w _ h' _ (.lst ys)from⟨hz,B,F,G,e⟩),rfl,q _ (I.hok.fresh (T5 _))⟩
 rcases N with N|N
 ·obtain⟨B,G,pl,hz⟩:=I.list N
  have J:=G.length;obtain⟨o,W,Y,n,U⟩:=pl.isList;exact call_list_seq p (.inl rfl) W Y U (λh' F M e=>fin B G hz h' F M e) (by simp only[T6] <;> lia)
 ·obtain⟨B,G,pl,hz⟩:=I.tuple N
  have J:=G.length;obtain⟨o,W,Y,n,U⟩:=pl;exact call_list_seq p (.inr rfl) W Y U (λh' F M e=>fin B G hz h' F M e) (by simp only[T6] <;> lia)
theorem mU:CallR X (.type "tuple") (λxs H Q=>∃p ys,xs=[.ref p]/\((SqL X.K H p ys/\∀l,H l=none->Q (.ref l) (upd H l (.tup ys)))\/(SqT X.K H p ys/\Q (.ref p) H))):=by
 intro pins s σ H xs us Q I r h;obtain⟨p,ys,rfl,h⟩:=h;obtain⟨u,rfl,W⟩:=vals1 r;cases W;rcases h with⟨J,q⟩|⟨J,q⟩
 ·obtain⟨B,F,G,hz⟩:=I.list J
  have M:=F.length;refine call_tuple_list G.isList (λh' Y=>?_) (by simp only[T6] <;> lia);have N:Inv X pins σ H {s with heap:=h'}:=I.kept (t':=s.toks) Y;have U:Inv X pins σ (upd H h'.objs.size (.tup ys)) {s with heap:=h'.push {cls:=.type "tuple",data:=.seq B.toArray} }:=
   N.laid (t':=s.toks) (λb o e=>T4 _ e) (T5 _) (show ObjOk X.prog X.w _ _ _ (.tup ys)from⟨hz,B,F,IsTupN.new _ _⟩)
  exact⟨.ref h'.objs.size,_,U,rfl,q _ (N.hok.fresh (T5 _))⟩
 ·obtain⟨B,F,G,hz⟩:=I.tuple J
  exact call_tuple_same G ⟨.ref p,H,I,rfl,q⟩
def SF(K:TK)(T:String)(x:V)(H:Hp):Prop:=match x with
 | .str _=>T = "str"
 | .int _=>T = "int"
 | .ref p=>(T = "list" /\ ∃xs,SqL K H p xs)\/(T = "tuple" /\ ∃o,K.lookup p=some o/\o.cls=.type "tuple" /\ o.dict=none) \/
   (T = "dict" /\ ((∃kvs,H p=some (.dK kvs))\/∃kvs,H p=some (.dT kvs)))\/(T = "set" /\ ∃S n,H p=some (.set S n))
 | _=>False
theorem JD(I:Inv X pins σ H s)(r:RelV x v)(ty:SF X.K T x H) :
  s.TypeIs v T/\∀a,v=.ref a->∃G,s.heap.get? a=some G/\G.dict=none:=by
 cases x with
 | str z=>
  obtain⟨t,rfl⟩:=r;cases(show T = "str" from ty);exact⟨typeIs_str s z t,λ_ e=>nomatch e⟩
 | int i=>
  obtain⟨t,rfl⟩:=r;cases(show T = "int" from ty);exact⟨YC s i t,λ_ e=>nomatch e⟩
 | ref p=>
  cases r;rcases ty with⟨rfl,xs,U⟩|⟨rfl,o,q,M,B⟩|⟨rfl,q⟩|⟨rfl,S,n,q⟩
  ·obtain⟨N,_,J,_⟩:=I.list U
   refine⟨J.isList.typeIs,λa e=>?_⟩;cases e;obtain⟨o,n,e,c,B,_⟩:=J;exact⟨o,e,B⟩
  ·refine⟨⟨o,I.kIn p o q,M⟩,λa e=>?_⟩
   cases e;exact⟨o,I.kIn _ o q,B⟩
  ·have z:∃o,s.heap.get? p=some o/\o.ExactDict:=by
    rcases q with⟨kvs,q⟩|⟨kvs,q⟩
    ·obtain⟨_,_,_,_,o,_,_,e,ex,_⟩:=I.hok p _ q
     exact⟨o,e,ex⟩
    ·obtain⟨_,_,_,_,o,_,_,e,ex,_⟩:=I.hok p _ q
     exact⟨o,e,ex⟩
   obtain⟨o,e,ex⟩:=z;refine⟨⟨o,e,ex.1⟩,λa F=>?_⟩;cases F;exact⟨o,e,ex.2.1⟩
  ·obtain⟨o,_,_,_,e,ex,_⟩:=I.hok p _ q
   refine⟨⟨o,e,ex.1⟩,λa F=>?_⟩;cases F;exact⟨o,e,ex.2.1⟩
 | _=>exact VS ty
def QB(K:TK)(T:String)(r:V->List V->Hp->VK->Prop)(to:TE)(t:TA):TE:=λσ H Q=>to σ H λx H1=>SF K T x H1/\t σ H1 λxs H2=>r x xs H2 Q
variable {o e:Expr}{es:List Expr}{to:TE}{t:TA}{name:Str}{apos cpos:Pos}{T id:String}{r:V->List V->Hp->VK->Prop}
theorem DQ(pa:PlainAttrs T)(J:Slot T name id)(M:typeOf (.builtin id)=pure (.type "method_descriptor"))(hm:MtR X id r)(ho:PE X o to)(ha:PA X (e::es) t)
  (F:XG o name X.env (eval o X.env)=eval o X.env:=by rfl)
  (G:((UD cpos (TL (e::es) X.env)).all (λx => !x.1) && (backToKw cpos (Y8 [] X.env)).all (λx => x.1.isSome)
   && decide ((e::es).length+([]:List WL).length+(if([]:List WL).isEmpty then 0 else 1)<30))=true:=by rfl)
  (B:(apos.endLine == cpos.line)=true:=by rfl) (hs:TL (e::es) X.env=(false,eval e X.env)::TL es X.env:=by rfl) (q:(UD cpos (TL es X.env)).any (·.1)=false:=by rfl) :
  PE X (.Call (.Attribute o name apos) (e::es) [] cpos) (QB X.K T r to t):=by
 intro pins s σ H Q I h;refine wpAny_Call_method_late F G B rfl (bE (ho pins s σ H _ I h) λv Y ⟨x,H1,W,U,ty,q1⟩=>?_);obtain⟨h1,h2⟩:=JD W U ty;refine⟨T,id,pa,J,M,h1,h2,?_⟩;have N:=ha cpos pins Y σ H1 _ W q1;rw[hs]at N ⊢;refine Y9 (by show(false || (UD cpos (TL es X.env)).any (·.1))=false;rw[q] <;> rfl) (zas ?_);exact bE N λus s2 ⟨vs,H2,I2,r2,q2⟩=>hm pins s2 σ H2 x vs v us Q I2 U r2 q2
end
def QC(X:Cx)(id:String)(r:V->List V->Hp->VK->Prop):Prop:=
 ∀(pins:List (Addr×Obj)) (s:TH) (σ:St) (H:Hp) (x:V) (xs:List V) (v:Value) (us:List Value) (Q:VK),Inv X pins σ H s->RelV x v->Vals xs us->r x xs H Q->
  wpAny (model X.prog X.w) X.A (call (.builtin id) (v::us)) (EP X pins σ Q) X.xe s
theorem Vals.one:∀ {x:V} {us:List Value},Vals [x] us->∃u,us=[u]/\RelV x u
 | _,_,.cons r .nil=>⟨_,rfl,r⟩
theorem Vals.zero:∀ {us:List Value},Vals [] us->us=[]
 | _,.nil=>rfl
theorem Vals.rep(h:Vals xs us):∀k:Nat,Vals (UF k xs).flatten (UF k us).flatten
 | 0=>.nil
 | k+1=>by
  rw[WV,WV,W3,W3];exact Vals.append h (Vals.rep h k)
theorem foldl_rep(q:List Value):∀(k:Nat) (acc:List Value),
  List.foldl (λF B=>F++B) acc.toArray (UF k q.toArray)=(acc++(UF k q).flatten).toArray
 | 0,acc=>by simp
 | k+1,acc=>by
  have e:acc.toArray++q.toArray=(acc++q).toArray:=by simp
  have G:(acc++q)++(UF k q).flatten=acc++(UF (k+1) q).flatten:=by
   rw[WV,W3,List.append_assoc]
  rw[<- G,<- foldl_rep q k (acc++q),<- e,WV,ZA]
section
variable {X:Cx}{pins:List (Addr×Obj)}{σ:St}{H:Hp}{s:TH}{l b:Addr}{xs ys zs:List V}
theorem Inv.lset{B its':List Value}{n:Nat}{f:Array Value->Array Value}{t':Nat}(I:Inv X pins σ H s)(G:H l=some (.lst xs))
  (e:s.heap.get? l=some {cls:=.type "list",data:=.seq B.toArray n}) (N:f B.toArray=its'.toArray) (J:Vals ys its') (hz:ys.length<=TQ) :
  Inv X pins σ (upd H l (.lst ys)) {s with heap:=s.heap.update l (VD f),toks:=t'}:=by
 have q:=PySem.IsL.update e f;rw[N]at q;refine I.write (x:=l) (e:=l) (by rw[G];exact trivial) (.inl rfl) (λU u M F=>(WE s.heap (VD f) (UH M)).trans F) ⟨_,q⟩ ?_;exact⟨hz,its',_,J,q⟩
theorem Inv.lnew(I:Inv X pins σ H s)(B:Vals ys its)(hz:ys.length<=TQ) :
  Inv X pins σ (upd H s.heap.objs.size (.lst ys)) {s with heap:=s.heap.push {cls:=.type "list",data:=.seq its.toArray},toks:=t'}:=
 I.laid (λ_ _ q=>T4 _ q) (T5 _) ⟨hz,its,0,B,UC _ rfl⟩
theorem Inv.fresh(I:Inv X pins σ H s):H s.heap.objs.size=none:=I.hok.fresh (T5 _)
theorem Inv.lstM(I:Inv X pins σ H s)(B:H l=some (.lst xs)):xs.length<=TQ/\∃(q:List Value) (n:Nat),Vals xs q/\xs.length=q.length/\s.heap.get? l=some {cls:=.type "list",data:=.seq q.toArray n}:=by
 obtain⟨z,q,n,r,e⟩:=I.hok l _ B;exact⟨z,q,n,r,r.length,e⟩
theorem tI(h:n<=TQ):ZC n=false:=by
 unfold ZC;exact decide_eq_false (by lia)
end
section
variable {X:Cx}
def xC:V->List V->Hp->VK->Prop:=λx vs H Q=>∃l xs y,x=.ref l/\vs=[y]/\H l=some (.lst xs)/\xs.length<TQ/\Q .non (upd H l (.lst (xs++[y])))
theorem oC:QC X "list.append" xC:=by
 intro pins s σ H x vs v W Q I N J h;obtain⟨l,xs,y,rfl,rfl,G,hz,q⟩:=h;cases N;obtain⟨u,rfl,M⟩:=J.one;obtain⟨z,B,n,r,U,e⟩:=I.lstM G;refine call_meets F.slot_list_append ⟨_,e,rfl⟩ F.entry_list_append (F.args_list_append_2 _ _) (PySem.list_append l B.toArray n u (by rw[T6];lia)) ⟨e,?_⟩;refine⟨.non,_,I.lset (its':=B++[u]) G e (by simp) (r.append (.cons M .nil)) ?_,rfl,q⟩;rw[VB,zat]
 lia
theorem len_rep{q:Type}(xs:List q)(k:Nat):(UF k xs).flatten.length=k*xs.length:=by
 induction k with
 | zero=>simp
 | succ k ih=>rw[WV,W3,VB,ih,Nat.succ_mul,Nat.add_comm]
end
section
variable {prog:TN}{w:World}{A:TZ}{E:Value->TH->Prop}{s:TH}
end
section
variable {X:Cx}
end
section
variable {κ:Type}[DecidableEq κ]
noncomputable def c8(kvs:List (κ×V))(k:κ):Option V:=(kvs.find? λq=>decide (q.1=k)).map (·.2)
noncomputable def putK(kvs:List (κ×V))(k:κ)(v:V):List (κ×V):=
 if(kvs.any λq=>decide (q.1=k))=true then kvs.map (λq=>if q.1=k then(q.1,v)else q)else kvs++[(k,v)]
noncomputable def HZ(kvs:List (κ×V))(k:κ):List (κ×V):=kvs.filter λq=>decide (q.1≠k)
theorem iI{p:κ×V}{r:List (κ×V)}{k:κ}(e:p.1=k):c8 (p::r) k=some p.2:=by simp[c8,V2,e]
theorem iF{p:κ×V}{r:List (κ×V)}{k:κ}(e:¬ p.1=k):c8 (p::r) k=c8 r k:=by simp[c8,V2,e]
theorem tG(k:κ):∀kvs:List (κ×V),(kvs.any λq=>decide (q.1=k))=(c8 kvs k).isSome
 | []=>rfl
 | p::r=>by
  rw[VQ];by_cases e:p.1=k
  ·simp only[iI e,decide_eq_true e,Bool.true_or,Option.isSome_some]
  ·rw[iF e,decide_eq_false e,Bool.false_or];exact tG k r
theorem eK(kvs:List (κ×V))(k:κ)(v:V):(putK kvs k v).length<=kvs.length+1:=by
 unfold putK;split
 ·rw[T2];lia
 ·rw[VB,UK,V1];lia
theorem RelO.isSome_eq(r:RelO o u):o.isSome=u.isSome:=by
 cases o with
 | none=>cases u with
  | none=>rfl
  | some _=>exact(show False from r).elim
 | some _=>cases u with
  | none=>exact(show False from r).elim
  | some _=>rfl
theorem RelO.getD(r:RelO o u)(q:RelV d d'):RelV (o.getD d) (u.getD d'):=by
 cases o with
 | none=>cases u with
  | none=>exact q
  | some _=>exact(show False from r).elim
 | some _=>cases u with
  | none=>exact(show False from r).elim
  | some _=>exact r
theorem KV.val(r:KV kvs vs)(k:κ):RelO (c8 kvs k) (W4 vs k):=by
 unfold KV at r;induction r with
 | nil=>exact VT
 | @cons p q ps qs h t ih=>
  obtain⟨h1,h2⟩:=h;by_cases e:p.1=k
  ·have B:q.1=k:=h1.symm.trans e
   have b:W4 (q::qs) k=some q.2:=by simp[W4,V2,B]
   rw[iI e,b];exact h2
  ·have B:¬ q.1=k:=λz=>e (h1.trans z)
   have b:W4 (q::qs) k=W4 qs k:=by simp[W4,V2,B]
   rw[iF e,b];exact ih
theorem KV.any(r:KV kvs vs)(k:κ):(kvs.any λq=>decide (q.1=k))=vs.any λq=>decide (q.1=k):=by
 unfold KV at r;induction r with
 | nil=>rfl
 | cons h t ih=>rw[VQ,VQ,ih,h.1]
theorem KV.repl(r:KV kvs vs)(k:κ)(F:RelV y u) :
  KV (kvs.map λB=>if B.1=k then(B.1,y)else B) (vs.map λB=>if B.1=k then(B.1,u)else B):=by
 unfold KV at r ⊢;induction r with
 | nil=>exact .nil
 | @cons p q ps qs h t ih=>
  rw[T1,T1];refine .cons ?_ ih;obtain⟨h1,h2⟩:=h;by_cases e:p.1=k
  ·rw[if_pos e,if_pos (h1.symm.trans e)];exact⟨h1,F⟩
  ·rw[if_neg e,if_neg (λz=>e (h1.trans z))];exact⟨h1,h2⟩
theorem KV.put(r:KV kvs vs)(k:κ)(q:RelV y u):KV (putK kvs k y) (stored vs k u):=by
 unfold putK stored;rw[r.any k];by_cases e:(vs.any λB=>decide (B.1=k))=true
 ·rw[if_pos e,if_pos e];exact r.repl k q
 ·rw[if_neg e,if_neg e];exact Paired.snoc r ⟨rfl,q⟩
theorem KV.drop(r:KV kvs vs)(k:κ):KV (HZ kvs k) (without vs k):=by
 unfold KV at r ⊢;unfold HZ without;induction r with
 | nil=>exact .nil
 | @cons p q ps qs h t ih=>
  obtain⟨h1,h2⟩:=h;rw[zau,zau];by_cases e:p.1=k
  ·have a:¬ decide (p.1≠k)=true:=by simp[e]
   have b:¬ decide (q.1≠k)=true:=by simp[h1.symm.trans e]
   rw[if_neg a,if_neg b];exact ih
  ·have B:¬ q.1=k:=λz=>e (h1.trans z)
   have a:decide (p.1≠k)=true:=by simp[e]
   have b:decide (q.1≠k)=true:=by simp[B]
   rw[if_pos a,if_pos b];exact .cons ⟨h1,h2⟩ ih
theorem KV.length(r:KV kvs vs):kvs.length=vs.length:=W0 r
end
theorem tM(r:RelV (kV k) u):(a8 P w).is k u=true:=by
 cases k with
 | inl i=>obtain⟨t,e⟩:=(show ∃t,u=Value.int i t from r);subst e;exact q0 P w i t
 | inr x=>obtain⟨t,e⟩:=(show ∃t,u=Value.str x t from r);subst e;exact qY P w x t
theorem oQ:∀ {ks:List Key} {us:List Value},Vals (ks.map kV) us->ItemsAre (a8 P w) ks us
 | [],_,r=>by rw[W2]at r;cases r;exact .nil
 | k::ks,_,r=>by
  rw[T1]at r;cases r with
  | cons h t=>exact .cons (tM h) (oQ t)
abbrev KT(H:Hp):List (List Key×V)->List (List Key×Addr×Value)->Prop:=U2 λp q=>p.1=q.1/\H q.2.1=some (.tup (p.1.map kV))/\RelV p.2 q.2.2
theorem KT.val(r:KT H kvs xs)(k:List Key):RelO (c8 kvs k) ((atKey xs k).map (·.2)):=by
 induction r with
 | nil=>exact VT
 | @cons p q ps qs h t ih=>
  obtain⟨h1,_,h2⟩:=h;by_cases e:p.1=k
  ·have B:q.1=k:=h1.symm.trans e
   have b:atKey (q::qs) k=some q.2:=by simp[atKey,V2,B]
   rw[iI e,b];exact h2
  ·have B:¬ q.1=k:=λz=>e (h1.trans z)
   have b:atKey (q::qs) k=atKey qs k:=by simp[atKey,V2,B]
   rw[iF e,b];exact ih
theorem KT.repl(r:KT H kvs xs)(k:List Key)(G:RelV y u) :
  KT H (kvs.map λB=>if B.1=k then(B.1,y)else B) (xs.map (putAt k u)):=by
 induction r with
 | nil=>exact .nil
 | @cons p q ps qs h t ih=>
  rw[T1,T1];refine .cons ?_ ih;obtain⟨h1,h2,F⟩:=h;unfold putAt;by_cases e:p.1=k
  ·rw[if_pos e,if_pos (h1.symm.trans e)];exact⟨h1,h2,G⟩
  ·rw[if_neg e,if_neg (λz=>e (h1.trans z))];exact⟨h1,h2,F⟩
theorem KT.put(r:KT H kvs xs)(k:List Key)(G:H b=some (.tup (k.map kV)))(B:RelV y u) :
  KT H (putK kvs k y) (storedH xs k b u):=by
 have e:(kvs.any λF=>decide (F.1=k))=(atKey xs k).isSome:=by
  rw[tG,(r.val k).isSome_eq,Option.isSome_map]
 unfold putK storedH;rw[e];by_cases q:(atKey xs k).isSome=true
 ·rw[if_pos q,if_pos q];exact r.repl k B
 ·rw[if_neg q,if_neg q];exact Paired.snoc r ⟨rfl,G,B⟩
theorem KT.keeps(r:KT H kvs xs)(q:∀b ys,H b=some (.tup ys)->H' b=some (.tup ys)):KT H' kvs xs:=
 Paired.mapP r λ_ _ z=>⟨z.1,q _ _ z.2.1,z.2.2⟩
section
variable {P:TN}{w:World}{H:Hp}{h:Heap}{a:Addr}
theorem HV(ok:HOk P w H h)(e:Rd H a u):ObjOk P w H h a u:=e.ok ok
theorem mM(ok:HOk P w H h)(e:Rd H a (.dK kvs)):kvs.length<=TQ/\(a == VC)=false/\∃vs,KV kvs vs/\h.DictOf (a8 P w) a vs:=
 show ObjOk P w H h a (.dK kvs)from HV ok e
theorem NS(ok:HOk P w H h)(e:H a=some (.dK kvs)):kvs.length<=TQ/\(a == VC)=false/\∃vs,KV kvs vs/\h.DictOf (a8 P w) a vs:=mM ok (.inl e)
theorem jC(ok:HOk P w H h)(e:H a=some (.tup (ks.map kV))):(VY (a8 P w)).is h ks a:=by
 obtain⟨_,q,r,o,h1,h2,n,B⟩:=(show ObjOk P w H h a (.tup (ks.map kV))from ok a _ e);exact⟨o,q.toArray,n,h1,h2,B.1,by simpa using oQ r⟩
theorem oZ(ok:HOk P w H h)(e:Rd H a (.dT kvs)):kvs.length<=TQ/\(a == VC)=false /\
  ∃xs,KT H kvs xs/\h.DictOfH (VY (a8 P w)) a xs:=by
 obtain⟨z,y,xs,r,o,es,ep,h1,h2,F,G,J⟩:=(show ObjOk P w H h a (.dT kvs)from HV ok e);refine⟨z,y,xs,r,o,es,ep,h1,h2,F,G,λx B=>?_,J⟩;have all:∀ {l:List (List Key×V)} {m:List (List Key×Addr×Value)},KT H l m->∀x∈m,(VY (a8 P w)).is h x.1 x.2.1:=by
  intro l m q;induction q with
  | nil=>intro x B;exact nomatch B
  | @cons p q ps qs hq t ih=>
   intro x B;rcases List.mem_cons.mp B with e|B
   ·subst e
    exact jC ok (by rw[<- hq.1];exact hq.2.1)
   ·exact ih x B
 exact all r x B
theorem HW(ok:HOk P w H h)(e:H a=some (.dT kvs)):kvs.length<=TQ/\(a == VC)=false /\
  ∃xs,KT H kvs xs/\h.DictOfH (VY (a8 P w)) a xs:=oZ ok (.inl e)
end
def DGet(H:Hp)(a:Addr)(y:V)(r:Option V):Prop:=
 (∃kvs k,Rd H a (.dK kvs)/\y=kV k/\r=c8 kvs k)\/∃kvs k b,Rd H a (.dT kvs)/\y=.ref b/\H b=some (.tup (k.map kV))/\r=c8 kvs k
def DPut(H:Hp)(a:Addr)(y v:V)(H':Hp):Prop:=
 (∃kvs k,H a=some (.dK kvs)/\y=kV k/\kvs.length<TQ/\H'=upd H a (.dK (putK kvs k v))) \/
 ∃kvs k b,H a=some (.dT kvs)/\y=.ref b/\H b=some (.tup (k.map kV))/\kvs.length<TQ/\H'=upd H a (.dT (putK kvs k v))
theorem DGet.k{H:Hp}{a:Addr}{kvs:List (Key×V)}{k:Key}(e:H a=some (.dK kvs)):DGet H a (kV k) (c8 kvs k):=.inl ⟨kvs,k,.inl e,rfl,rfl⟩
theorem DGet.t{H:Hp}{a b:Addr}{kvs:List (List Key×V)}{k:List Key}(e:H a=some (.dT kvs))(q:H b=some (.tup (k.map kV))):DGet H a (.ref b) (c8 kvs k):=.inr ⟨kvs,k,b,.inl e,rfl,q,rfl⟩
theorem DPut.k{H:Hp}{a:Addr}{kvs:List (Key×V)}{k:Key}{v:V}(e:H a=some (.dK kvs))(q:kvs.length<TQ):DPut H a (kV k) v (upd H a (.dK (putK kvs k v))):=.inl ⟨kvs,k,e,rfl,q,rfl⟩
theorem DPut.t{H:Hp}{a b:Addr}{kvs:List (List Key×V)}{k:List Key}{v:V}(e:H a=some (.dT kvs))(B:H b=some (.tup (k.map kV)))(q:kvs.length<TQ) :
  DPut H a (.ref b) v (upd H a (.dT (putK kvs k v))):=.inr ⟨kvs,k,b,e,rfl,B,q,rfl⟩
section
variable {X:Cx}{pins:List (Addr×Obj)}{σ:St}{H:Hp}{s:TH}{a:Addr}{y v:V}{u r:Value}{o:Option V}{A:TZ}{E:Value->TH->Prop}
theorem Inv.big(I:Inv X pins σ H s):VC<s.heap.objs.size:=by
 have h:UP<s.heap.objs.size:=(I.mod.glob.keeps I.bk).lt;exact XH (by decide) h
theorem xZ(Y:A.units+1<cLine)(I:Inv X pins σ H s)(g:DGet H a y (some v))(N:RelV y u)(h:∀F s',Inv X pins σ H s'->RelV v F->Q F s') :
  wpAny (model X.prog X.w) A (WB (.ref a) u) Q E s:=by
 rcases g with⟨kvs,k,e,G,l⟩|⟨kvs,k,b,e,G,eb,l⟩
 ·subst G
  obtain⟨z,W,vs,q,M⟩:=mM I.hok e;obtain⟨F,hw,B⟩:=RelO.some_of (v:=v) (o:=W4 vs k) (by rw[l];exact q.val k);exact wpAny_getItem_of (tM N) M.mapOf hw (h F _ (I.tok _) B)
 ·subst G
  cases(show u=TV b from N);obtain⟨z,W,xs,q,M⟩:=oZ I.hok e;obtain⟨F,hw,B⟩:=RelO.some_of (v:=v) (o:=(atKey xs k).map (·.2)) (by rw[l];exact q.val k);obtain⟨p,U,J⟩:=Option.map_eq_some_iff.mp hw;refine wpAny_getItem_heap (YD Y) (jC I.hok eb) M U ?_;rw[J];exact h F _ (I.tok _) B
theorem QU(N:A.units+1<cLine)(I:Inv X pins σ H s)(g:DGet H a y o)(M:RelV y u)(h:∀s',Inv X pins σ H s'->Q (.bool o.isSome) s') :
  wpAny (model X.prog X.w) A (TY .In u (.ref a)) Q E s:=by
 rcases g with⟨kvs,k,e,F,l⟩|⟨kvs,k,b,e,F,U,l⟩
 ·subst F
  obtain⟨z,G,vs,B,J⟩:=mM I.hok e;refine wpAny_in_of (tM M) G J.mapOf ?_;rw[<- (B.val k).isSome_eq,<- l];exact h _ (I.tok _)
 ·subst F
  cases(show u=TV b from M);obtain⟨z,G,xs,B,J⟩:=oZ I.hok e;refine wpAny_in_heap (YD N) (jC I.hok U) G J ?_;have q:=(B.val k).isSome_eq;rw[Option.isSome_map]at q;rw[<- q,<- l];exact h _ (I.tok _)
theorem pU(I:Inv X pins σ H s)(B:PY (H a))(hs:UI a s.heap h')(G:∃q,h'.get? a=some q)(new:ObjOk X.prog X.w (upd H a ob) h' a ob) :
  Inv X pins σ (upd H a ob) {s with heap:=h',toks:=t'}:=
 I.write (x:=a) (e:=a) B (.inl rfl) (λb q F z=>(hs.2 b F).trans z) G new
theorem LV(z:kvs.length<=TQ)(F:(a == VC)=false)(q:KV kvs vs)(B:h'.DictOf (a8 P w) a vs) :
  ObjOk P w H' h' a (.dK kvs):=⟨z,F,vs,q,B⟩
theorem zA(hu:A.units+1<cLine)(I:Inv X pins σ H s)(g:DPut H a y v H')(ry:RelV y u)(rv:RelV v r)(h:∀s',Inv X pins σ H' s'->Q () s') :
  wpAny (model X.prog X.w) A (setItem (.ref a) u r) Q E s:=by
 rcases g with⟨kvs,k,e,W,l,U⟩|⟨kvs,k,b,e,W,eb,l,U⟩
 ·subst W U
  obtain⟨z,J,vs,B,M⟩:=NS I.hok e;have hz:vs.length<=TQ:=by rw[<- B.length];exact z
  have N:(putK kvs k v).length<=TQ:=by have:=eK kvs k v;lia
  refine wpAny_setItem_pairs (hsz:=hz) (tM ry) M λh' F hs=>h _ ?_
  have he:∃q,h'.get? a=some q:=let ⟨q,_,_,G,_⟩:=F;⟨q,G⟩;exact pU I (by rw[e];exact VT) hs he (LV N J (B.put k rv) F)
 ·subst W U
  cases(show u=TV b from ry);obtain⟨z,J,xs,B,M⟩:=HW I.hok e;have hz:xs.length<=TQ:=by rw[<- W0 B];exact z
  have N:(putK kvs k v).length<=TQ:=by have:=eK kvs k v;lia
  refine wpAny_setItem_heap (hsz:=hz) (YD hu) (jC I.hok eb) M λh' F hs=>h _ ?_
  obtain⟨q,es,ep,G,h2,h3,h4,_,h5⟩:=F;refine pU I (by rw[e];exact VT) hs ⟨q,G⟩ ⟨N,J,_,(B.put k eb rv).keeps λc ys Y=>?_,q,es,ep,G,h2,h3,h4,h5⟩;rw[aC (IF Y e (λz=>nomatch z))];exact Y
end
section
variable {X:Cx}{pins:List (Addr×Obj)}{σ:St}{H:Hp}{s:TH}{a:Addr}{kvs:List (Key×V)}{k:Key}{u:Value}{A:TZ}{E:Value->TH->Prop}
theorem OC(I:Inv X pins σ H s)(e:Rd H a (.dK kvs))(h:∀t s',Inv X pins σ H s'->Q (.int kvs.length t) s'):wpAny (model X.prog X.w) A (call (.builtin "len") [.ref a]) Q E s:=by
 obtain⟨z,F,vs,q,B⟩:=mM I.hok e;refine call_len_dict F B (by rw[<- q.length];rw[WT]at z;lia) ?_;rw[<- q.length];exact h _ _ (I.tok _)
end
def O9(i:Expr):Prop:=∀q B,Y7 i false q B=operate [q,B] (WB q B)
theorem GC{E:Value->TH->Prop}{T id:String}{Q:Value->TH->Prop}
  (N:typeLookup (.type T) "__getitem__" = pure (some (.builtin id))) (hs:O9 slice)
  (h:wpAny (model prog w) A (eval value env) (λo G=>wpAny (model prog w) A (eval slice env) (λi q=>q.TypeIs o T/\wpAny (model prog w) A (WB o i) Q E q) E G) E s) :
  wpAny (model prog w) A (eval (.Subscript value slice pos) env) Q E s:=by
 refine Subscript_ (U7 h (λo G J=>U7 J (λi q B=>?_) λ_ _ x=>x) λ_ _ x=>x);obtain⟨hT,B⟩:=B;unfold subscriptTail;refine TF ?_;rw[getitemInPython_of_ne hT.not_modules];refine TF (wpAny_specialOf hT N ?_);have fin:wpAny (model prog w) A (Y7 slice false o i) (λr F=>wpAny (model prog w) A (letTemporaryGo value o r >>= λ_=>pure r) Q E F) E q:=by
  rw[hs o i];exact wpAny_operating (U7 B (λr F M=>TF (wpAny_letTemporaryGo (TJ M))) λ_ _ x=>x)
 first
  | exact TJ (TF fin)
  | exact TF (TJ (TF fin))
  | exact TF fin
theorem qX(I:Inv X pins σ H s)(g:DGet H a y o):s.TypeIs (.ref a) "dict" := by
 rcases g with⟨kvs,k,e,_,_⟩|⟨kvs,k,b,e,_,_,_⟩
 ·obtain⟨_,_,vs,_,q⟩:=mM I.hok e
  exact q.typeIs
 ·obtain⟨_,_,xs,_,q⟩:=oZ I.hok e
  exact q.typeIs
def HX(td ty:TE):TE:=λσ H Q=>td σ H λx H1=>ty σ H1 λy H2=>∃a v,x=.ref a/\DGet H2 a y (some v)/\Q v H2
def OK(td ty tv:TE):TS:=λD σ H=>tv σ H λv H1=>td σ H1 λx H2=>ty σ H2 λy B=>∃a q,x=.ref a/\DPut B a y v q/\D.nx σ q
section
variable {X:Cx}{o i e value:Expr}{pos pos' tpos:Pos}{td ty tv:TE}
theorem G4(J:X.A.units+1<cLine)(M:PE X o td)(hi:PE X i ty)(hs:O9 i):PE X (.Subscript o i pos) (HX td ty):=by
 intro pins s σ H Q I h;refine GC PySem.F.slot_dict_getitem.lookup hs (bE (M pins s σ H _ I h) λu G ⟨x,H1,I1,Y,q1⟩=>bE (hi pins G σ H1 _ I1 q1) λiv s2 ⟨y,H2,B,N,a,v,ex,g,U⟩=>?_);subst ex;obtain rfl:u=TV a:=Y;exact⟨qX B g,xZ J B g N λw' s3 W q=>⟨v,H2,W,q,U⟩⟩
theorem GM(G:X.A.units+1<cLine)(J:PE X o td)(hi:PE X i ty)(hv:PE X value tv)(hs:U5 value (some (.Subscript o i pos')) pos.line X.env=pure false) :
  PS X (.Assign [.Subscript o i pos'] value pos) (OK td ty tv):=by
 intro pins s σ H D I h;refine wpAny_Assign_Subscript (bE (hv pins s σ H _ I h) λr q ⟨v,H1,I1,rv,U⟩=>bE (J pins q σ H1 _ I1 U) λu Y ⟨x,H2,N,rx,F⟩=>bE (hi pins Y σ H2 _ N F) λiv s3 ⟨y,H3,I3,M,a,B,ex,g,q3⟩=>?_) hs;subst ex;obtain rfl:u=TV a:=rx;exact zA G I3 g M rv λs4 W=>⟨σ,B,W,q3⟩
end
theorem B3(h:Heap)(q:VC<h.objs.size):ObjOk P w H (h.push {cls:=.type "dict",data:=.dict #[]}) h.objs.size (.dT []):=
 ⟨UZ _,beq_eq_false_iff_ne.mpr (UH (UE q)),[],.nil,_,#[],0,UC _ rfl,⟨rfl,rfl,rfl⟩,rfl,rfl,List.nodup_nil⟩
def IX:TE:=λ_ H Q=>∀p,H p=none->Q (.ref p) (upd H p (.dT []))
section
variable {X:Cx}{pos:Pos}
theorem BA:PE X (.Dict [] [] pos) IX:=λpins s σ H Q I h=>
 wpAny_Dict_empty ⟨.ref s.heap.objs.size,_,I.laid (a:=s.heap.objs.size) (o:=.dT []) (t':=s.toks) (λ_ _ q=>T4 _ q) (T5 _) (B3 s.heap I.big),rfl,h _ (I.hok.fresh (T5 _))⟩
end
structure M2(X:Cx)(o:Expr)(m:Str)(apos:Pos)(e f:Expr)(cpos:Pos):Prop where
 base:XG o m X.env (eval o X.env)=eval o X.env
 few:((UD cpos (TL [e,f] X.env)).all (λx=>!x.1) && (backToKw cpos (Y8 [] X.env)).all (λx=>x.1.isSome)
  && decide (([e,f]:List Expr).length+([]:List WL).length+(if([]:List WL).isEmpty then 0 else 1)<30))=true
 line:(apos.endLine == cpos.line)=true
 trees:UD cpos (TL [e,f] X.env)=[(false,eval e X.env),(false,eval f X.env)]
def M6(H:Hp)(a:Addr):Prop:=(∃kvs,Rd H a (.dK kvs))\/∃kvs,Rd H a (.dT kvs)
theorem vP(I:Inv X pins σ H s)(d:M6 H a) :
  s.TypeIs (.ref a) "dict" /\ (∀b,TV a=.ref b->∃B,s.heap.get? b=some B/\B.dict=none)/\(a == VC)=false:=by
 rcases d with⟨kvs,e⟩|⟨kvs,e⟩
 ·obtain⟨_,G,vs,_,F⟩:=mM I.hok e
  refine⟨F.typeIs,λb q=>?_,G⟩;cases q;obtain⟨B,_,_,h1,h2,_⟩:=F;exact⟨B,h1,h2.2.1⟩
 ·obtain⟨_,G,xs,_,F⟩:=oZ I.hok e
  refine⟨F.typeIs,λb q=>?_,G⟩;cases q;obtain⟨B,_,_,h1,h2,_⟩:=F;exact⟨B,h1,h2.2.1⟩
section
variable {X:Cx}{pins:List (Addr×Obj)}{σ:St}{H:Hp}{s:TH}{a:Addr}{y d:V}{u r:Value}{o:Option V}{A:TZ}{E:Value->TH->Prop}
theorem L7(W:A.units+1<cLine)(I:Inv X pins σ H s)(g:DGet H a y o)(M:RelV y u)(N:RelV d r)(h:∀U s',Inv X pins σ H s'->RelV (o.getD d) U->Q U s') :
  wpAny (model X.prog X.w) A (call (.builtin "dict.get") [.ref a,u,r]) Q E s:=by
 rcases g with⟨kvs,k,e,G,l⟩|⟨kvs,k,b,e,G,Y,l⟩
 ·subst G
  obtain⟨z,J,vs,q,B⟩:=mM I.hok e;refine call_meetsIn zav B.typeIs PySem.F.entry_dict_get (PySem.F.args_dict_get_3 _ _ _) (meets_dict_get_default (a8 X.prog X.w) a (tM M) J r) ⟨_,B.mapOf,h _ _ (I.tok _) ?_⟩;rw[l];exact(q.val k).getD N
 ·subst G
  cases(show u=TV b from M);obtain⟨z,J,xs,q,B⟩:=oZ I.hok e;refine call_meetsIn zav B.typeIs PySem.F.entry_dict_get (PySem.F.args_dict_get_3 _ _ _) (meetsH_dict_get_default (VY (a8 X.prog X.w)) a b J r) ⟨YD W,k,xs,jC I.hok Y,B,h _ _ (I.tok _) ?_⟩;rw[l];exact(q.val k).getD N
end
def IR(td ty tx:TE):TE:=λσ H Q=>td σ H λx H1=>∃a,x=.ref a/\M6 H1 a/\ty σ H1 λy H2=>tx σ H2 λz q=>∃o,DGet q a y o/\Q (o.getD z) q
section
variable {X:Cx}{o e f:Expr}{apos cpos:Pos}{td ty tx:TE}
theorem A3(Y:X.A.units+1<cLine)(ho:PE X o td)(G:PE X e ty)(U:PE X f tx)(m:M2 X o "get" apos e f cpos):PE X (.Call (.Attribute o "get" apos) [e,f] [] cpos) (IR td ty tx):=by
 intro pins s σ H Q I h;refine wpAny_Call_method m.base m.few m.line zaw zav PySem.F.type_dict_get (bE (ho pins s σ H _ I h) λu J ⟨x,H1,B,rx,a,ex,d,q1⟩=>?_);subst ex;obtain rfl:u=TV a:=rx;obtain⟨t1,t2,_⟩:=vP B d;refine⟨t1,t2,?_⟩;rw[m.trees];refine Y9 rfl (zas (X7 (bE (G pins J σ H1 _ B q1) λiv s2 ⟨y,H2,I2,ry,M⟩=>
  X7 (bE (U pins s2 σ H2 _ I2 M) λfv s3 ⟨z,N,I3,W,ov,g,q3⟩=>zab ?_))))
 exact L7 Y I3 g ry W λw' s4 I4 q=>⟨_,N,I4,q,q3⟩
end
section
variable {X:Cx}{pins:List (Addr×Obj)}{σ:St}{H:Hp}{s:TH}{a:Addr}{kvs:List (Key×V)}{A:TZ}{E:Value->TH->Prop}
end
section
variable {X:Cx}{pins:List (Addr×Obj)}{σ:St}{H:Hp}{s:TH}{a:Addr}{y:V}{u:Value}{A:TZ}{E:Value->TH->Prop}
end
end L2
namespace Att
open PySem PySem.W PySem.Calls PyProof.Rows
theorem kC:∀(ns:List Int) (vs:List Value),WellAll P h vs (ns.map WData.int)->UB vs ns:=by
 intro ns;induction ns with
 | nil=>
  intro vs w;rw[W2]at w;cases w;exact .nil
 | cons n ns ih=>
  intro vs w;rw[T1]at w;cases w with
  | cons a b=>
   cases a;exact .cons _ _ (ih _ b)
theorem yB{l:OpenLaw}{n:Nat}(hn:l.most=some n){P:Params}{h:Heap}{args:List WData}{F:List Value}
  (B:l.row.toRowW.claim.pre args=true) (U:WellAll P h F args) :
  ∃a vs ns,F=[TV a]/\args=[WData.list (ns.map WData.int)]/\h.get? a=some {cls:=.type "list",data:=.seq vs.toArray}/\UB vs ns/\ns.length<=n:=by
 have N:WShape.hasAll [] args [.list .int]=true:=(pre_splitW B).1;have W:l.pre.holds [] {args:=args}=true:=(pre_splitW B).2;obtain⟨d,r,rfl,h1,h2⟩:=hasAllW_cons N;obtain rfl:=hasAllW_nil h2;obtain⟨xs,rfl,Y⟩:=hasW_list h1;obtain⟨ns,rfl⟩:=items_int Y;have G:ns.length<=n:=by
  unfold OpenLaw.pre at W;have J:(WTm.not (.lt (.lit (.int (n:Int))) (.len (.arg 0)))).holds [] {args:=[.list (ns.map .int)]}=true:=by
   have J:=(holds_andW W).1;rw[hn]at J;exact J
  have M:=condW_of J (w_not (w_lt w_lit (w_len_list (w_arg rfl))));rw[T2]at M;refine Nat.le_of_not_lt λq=>?_
  have q':(n:Int)<((ns.length:Nat):Int):=by lia
  first
   | (rw[decide_eq_true q']at M;exact absurd M (by decide))
   | (simp at M;lia)
 cases U with
 | cons w1 w2=>
  cases w2;cases w1 with
  | list ho hall=>exact⟨_,_,ns,rfl,rfl,ho,kC ns _ hall,G⟩
theorem yT(l:OpenLaw)(args:List WData):l.row.toRowW.claim.post args (.bool true) args=true:=
 postW_of (r:=l.row.toRowW) (X:=(true == true))
  (show WShape.has [] (.bool true) .bool=true by first|rfl|decide|simp[WShape.has,WShape.arms,WShape.armsAll])
  (show(WTm.eq .res (.lit (.bool true))).value [] {args:=args,res:=some (.bool true),after:=args}=some (.bool (true == true))from w_eq_bool (w_res rfl) w_lit) rfl
theorem qZ{l:OpenLaw}{n:Nat}{q:TN}{F:List Str}{XP:(Str->Option Value)->Heap->Prop}{YP:World->Heap->Prop}{d:DefRec}
  (hn:l.most=some n) (ai:d.params.defaults=[])
  (call:∀(w:World) (J B:TH) (mg mb:Str -> Option Value) (U:Addr) (o:Obj) (pm cd M:Value) (a:Addr) (vs:List Value) (ns:List Int),
   Ground q F [] XP w J mg mb B.heap->YP w B.heap->
   B.heap.get? U=some o->o.data=.func (docDef d.name d.params d.body d.scope pm cd M)->B.heap.CodeRec cd d.name->mg d.name=some (.ref U)->
   B.heap.get? a=some {cls:=.type "list",data:=.seq vs.toArray}->UB vs ns->ns.length<=n->B.gens=#[]->
   VU (model l.prog w) W5 (.call (.ref U) ⟨[.ref a],[]⟩) (λr s'=>r=.ok (.ret (.bool true))/\OldK B.heap s'.heap/\s'.os=B.os/\WJ s'.gens) B) :
  WalkO q F XP YP l.row.toRowW d [] (λf vs=>PySem.call f vs):=by
 intro w J B mg mb G Y U o pm cd M dV kV ho hd ag hD ad hg args aj as aa am ax af au;obtain rfl:dV=.none:=Dflts.none hD ai;obtain rfl:kV=.none:=Dflts.noKw hD;obtain⟨a,vs,ns,rfl,rfl,W,N,ab⟩:=yB hn aa af;refine enter_call (Y0 (call w J B mg mb U o pm cd M a vs ns G Y ho (fd_plain hd) ag ad W N ab hg) λr s' hq=>?_);obtain⟨rfl,h2,h3,h4⟩:=hq;exact⟨.inl ⟨.bool true,.bool true,[],rfl,λ_=>rfl,.bool true,yT l _,λ_=>⟨YE,λ_ hm=>(nomatch hm)⟩⟩,h2,h3,h4⟩
section
variable {prog:TN}{w:World}{A:TZ}{E:Value->TH->Prop}{s:TH}{K:Frag}
noncomputable def qI(h:Heap):Heap:={h with objs:=#[]}
theorem gI(h:Heap)(b:Addr):(qI h).get? b=none:=by
 cases e:(qI h).get? b with
 | none=>rfl
 | some o=>exact absurd (TX e) (Nat.not_lt_zero _)
noncomputable def ledger(h:Heap)(L d:Addr):List (Addr×Obj):=(UU h.objs.size).filterMap λa=>if a=L\/a=d then none else(h.get? a).map λo=>(a,o)
theorem cC:(a,o)∈ledger h L d↔a≠L/\a≠d/\h.get? a=some o:=by
 unfold ledger;rw[List.mem_filterMap];constructor
 ·rintro⟨b,_,e⟩
  split at e
  ·cases e
  ·rename_i hb
   obtain⟨o',B,F⟩:=Option.map_eq_some_iff.mp e;cases F;exact⟨λq=>hb (.inl q),λq=>hb (.inr q),B⟩
 ·rintro⟨J,G,B⟩
  refine⟨a,List.mem_range.mpr (TX B),?_⟩;rw[if_neg (show ¬ (a=L\/a=d)from λq=>q.elim J G),B] <;> rfl
theorem K5(n:h.Ns L m):Fr (qI h) L h m:=
 ⟨n,λb o e=>(by rw[gI]at e;cases e),UZ _⟩
end
end Att
namespace L2
open PySem PySem.Spec PyProof.Rows
theorem nP:∀ {vs:List Value} {ns:List Int},UB vs ns->Vals (ns.map V.int) vs
 | _,_,.nil=>.nil
 | _,_,.cons n t h=>.cons ⟨t,rfl⟩ (nP h)
def Only(H:Hp):Prop:=∀b,H b=none\/∃o xs,H b=some (.frz o (.lst xs))
theorem B8{P:TN}{w:World}{K:TK}{mg mb:Str->Option Value}{CX:AF}{k:Nat}{fa a:Addr}{fd:VH}{x:Str}{sp:Sp}{B:TH}{vs:List Value}{ns:List Int}
  (KX:K.In B.heap) (ae:B.heap.Ns UP mg) (J:B.heap.Ns builtinsNs mb) (aj:∀x:Str,x ≠ "__name__" -> mb x=UM x) (ad:B.heap.NoLimit) (hg:B.gens=#[])
  (ha:B.heap.get? a=some {cls:=.type "list",data:=.seq vs.toArray}) (hi:UB vs ns) (hl:ns.length<=TQ) (hr:Room k W5)
  (F:∀base:Heap,K.In base->base.Ns UP mg->FnOk P w K mg base CX k fa fd [x] sp) (U:∀(s:TH) (u:Value),BindsTo s fd ⟨[u],[]⟩ [(x,u)])
  (al:∀H:Hp,Only H->SqL K H a (ns.map V.int)->sp [.ref a] H (λv _=>v=.bl true) λ_ _ _=>False)
  (am:∀H e s',CX [] H B (λ_ _ _=>False) e s'->False) :
  VU (model P w) W5 (.call (.ref fa) ⟨[.ref a],[]⟩) (λr s'=>r=.ok (.ret (.bool true))/\OldK B.heap s'.heap/\s'.os=B.os/\WJ s'.gens) B:=by
 have rv:=nP hi;have af:=hi.length
 -- from an abstract heap in which nothing but the script may be tracked
 have N:∀H:Hp,Only H->SqL K H a (ns.map V.int)->HOk P w H B.heap->(∀b,H b≠none->b=a)->(H a≠none->K.lookup a=none)->
   VU (model P w) W5 (.call (.ref fa) ⟨[.ref a],[]⟩) (λr s'=>r=.ok (.ret (.bool true))/\OldK B.heap s'.heap/\s'.os=B.os/\WJ s'.gens) B:=by
  intro H hO hS Y hA hK;have G:∀ {b:Addr} {o:Obj},B.heap.get? b=some o->H b=none->(qP B.heap H).get? b=some o:=λe n=>B6 e n
  have ah:∀ {b:Addr} {o:Obj} {es:Array WN} {ep:Nat},B.heap.get? b=some o->o.data=.dict es ep->H b=none:=λ{b o es ep} e d=>by
   cases q:H b with
   | none=>rfl
   | some u=>
    have e':b=a:=hA b (by rw[q];simp);subst e';rw[ha]at e;cases e;have d':Data.seq vs.toArray _=Data.dict es ep:=d;cases d'
  have M:∀ {b:Addr} {m:Str->Option Value},B.heap.Ns b m->(qP B.heap H).Ns b m:=λ{b m} ⟨o,es,ep,e,d,r⟩=>⟨o,es,ep,G e (ah e d),d,r⟩
  have ab:K.In (qP B.heap H):=λb o e=>G (KX b o e) (by
   cases q:H b with
   | none=>rfl
   | some u=>
    have e':b=a:=hA b (by rw[q];simp);subst e';rw[hK (by rw[q];simp)]at e;cases e)
  have hM:Mod K mg (qP B.heap H):=⟨ab,M ae,⟨mb,M J,aj⟩,let ⟨mc,h1,h2⟩:=ad;⟨mc,M h1,h2⟩⟩;have e0:Env0 P w K mg (qP B.heap H) W5 [] B H:=⟨rfl,hM,λb o e=>EL e,Nat.le_of_eq (zQ _ _),trivial,λb J=>absurd (show b∈([]:List Addr)from J) (by simp),Y,.of_eq hg⟩;refine Y0 ((F _ ab (M ae)).run W5 [] B H ⟨[.ref a],[]⟩ [.ref a] [.ref a] _ _ hr e0 (U B (.ref a)) (.cons rfl .nil) (al H hO hS)) λr s' h=>?_
  cases r with
  | error e=>exact(am H e s' h).elim
  | ok fl=>
   cases fl with
   | next=>exact VS h
   | brk=>exact VS h
   | cont=>exact VS h
   | ret u=>
    obtain⟨v,H',os,W,un,aa,r',q⟩:=h;have q':v=.bl true:=q;subst q';obtain rfl:u=V8 true:=r';refine⟨rfl,OldK.of_keep λb o e=>?_,os,W⟩;cases q:H b with
    | none=>exact un.keep b o e q (by intro z;exact absurd (show b∈([]:List Addr)from z) (by simp)) (by simp)
    | some u=>
     rcases hO b with z|⟨ob,xs,z⟩
     ·rw[q]at z;cases z
     ·have z2:=un.frzs b ob _ z
      obtain⟨e1,_⟩:=Y b _ z;obtain⟨e2,_⟩:=aa b _ z2;rw[e]at e1;cases e1;exact e2
 cases hk:K.lookup a with
 | some o=>
  -- the script is one of the module's own objects
  have e:=KX a o hk;rw[ha]at e;cases e;refine N (λ_=>none) (λ_=>.inl rfl) (.inr ⟨_,vs.toArray,_,hk,rfl,rfl,rfl,by rw[T6,af];exact hl,by simpa using rv⟩) (λb u z=>by have z':(none:Option HO)=some u:=z;cases z') (λb z=>absurd rfl z) λz=>absurd rfl z
 | none=>
  refine N (λb=>if b=a then some (.frz {cls:=.type "list",data:=.seq vs.toArray} (.lst (ns.map V.int)))else none) (λb=>?_) (.inl (.inr ⟨{cls:=.type "list",data:=.seq vs.toArray},if_pos rfl⟩)) (λb u z=>?_) (λb z=>?_) λ_=>hk
  ·by_cases J:b=a
   ·exact .inr ⟨_,_,if_pos J⟩
   ·exact .inl (if_neg J)
  ·by_cases J:b=a
   ·have z':=(if_pos J).symm.trans z
    cases z';subst J;exact⟨ha,by rw[T2];exact hl,vs,_,rv,ha⟩
   ·have z':=(if_neg J).symm.trans z
    cases z'
  ·by_cases J:b=a
   ·exact J
   ·exact absurd (if_neg J) z
theorem E6{l:zax}{n k:Nat}{q:TN}{J:List Str}{XP:(Str->Option Value)->Heap->Prop}{YP:World->Heap->Prop}{d:DefRec}{K:Params->TK}{CX:World->AF}{sp:World->Sp}{x:Str}
  (hn:l.most=some n) (af:n<=TQ) (ae:d.params.defaults=[]) (hr:Room k W5)
  (hY:∀(w:World) (h:Heap),YP w h->(K w.params).In h)
  (F:∀(w:World) (mg:Str -> Option Value) (fa:Addr) (h:Heap), (K w.params).In h -> h.Ns UP mg -> mg d.name = some (.ref fa) ->
   ∃fd:VH,(∀(s:TH) (u:Value),BindsTo s fd ⟨[u],[]⟩ [(x,u)]) /\
    ∀base:Heap,(K w.params).In base->base.Ns UP mg->FnOk l.prog w (K w.params) mg base (CX w) k fa fd [x] (sp w))
  (ac:∀(w:World) (H:Hp) (a:Addr) (ns:List Int),ns.length<=n->Only H->SqL (K w.params) H a (ns.map V.int)->sp w [.ref a] H (λv _=>v=.bl true) λ_ _ _=>False)
  (ad:∀(w:World) (H:Hp) (s:TH) (e:Value) (s':TH),CX w [] H s (λ_ _ _=>False) e s'->False) :
  PySem.W.WalkO q J XP YP l.row.toRowW d [] (λf vs=>PySem.call f vs):=by
 refine Att.qZ hn ae λw ai U mg mb fa o pm cd aj a vs ns G Y ho hd aq ab N M B hg=>?_
 have KX:=hY w _ Y;obtain⟨fd,hb,hF⟩:=F w mg fa _ KX G.T.g ab;exact B8 KX G.T.g G.T.b G.T.builtins G.T.nolimit hg N M (UV B af) hr hF hb (λH hO hS=>ac w H a ns B hO hS) λH e s'=>ad w H U e s'
noncomputable def cH(s:Stmt):Arguments:=match s with
 | .FunctionDef _ a _ _ _ _ _ _ _ _=>a
 | _=>{posonlyargs:=[],args:=[],vararg:=none,kwonlyargs:=[],kw_defaults:=[],kwarg:=none,defaults:=[]}
noncomputable def bB(s:Stmt):List Stmt:=match s with
 | .FunctionDef _ _ b _ _ _ _ _ _ _=>b
 | _=>[]
noncomputable def aF(s:Stmt):Scope:=match s with
 | .FunctionDef _ _ _ _ _ _ sc _ _ _=>sc
 | _=>{kind:=.function,names:=[],isGenerator:=false,isCoroutine:=false}
abbrev tY:AF:=λ_ _ _ _ _ _=>False
abbrev E0:XK:=λ_ _ _=>False
theorem NF:u7 tY X E0:=λ_ _ _ _ _ _ _ h=>h.elim
structure Fun(K:TK)(x qual:Str)(st:Stmt)(f:Addr)(fd:VH):Prop where
 ex:∃(oc:Value) (od:Option Addr) (kV doc pm:Value) (an:Option Addr) (cdv ct:Value) (osl:Array (Option Value)),
  fd=VV x qual (cH st) (bB st) (aF st) .none kV doc pm an cdv ct/\K.lookup f=some ⟨oc,od,.func fd,osl⟩/\XD K cdv qual=true
 kp:WU K (.ref f)=true
section
variable {P:TN}{w:World}{K:TK}{mg:Str->Option Value}{base:Heap}
theorem Fun.ok{x G:Str}{st:Stmt}{f:Addr}{fd:VH}{N ps:List Str}{k:Nat}{sp:Sp}(F:Fun K x G st f fd)(S:FnScope N ps (aF st))(Y:∀vs H Q E,sp vs H Q E->vs.length=ps.length)
  (M:∀(J:Value) (A:TZ) (B:List Env) (s:TH) (H:Hp) (vs:List V) (Q:VK) (E:XK), Room k (A.deeper (U4 G (aF st) s.heap.objs.size f J)) -> sp vs H Q E ->
   ∃t,PSs (iW tY P w K mg base N G (aF st) f J A B s H E).nox (bB st) t/\t {nx:=λ_ H'=>Q .non H',rt:=Q} (start N vs) H):FnOk P w K mg base tY (k+1) f fd ps sp:=by
 obtain⟨oc,od,kV,ab,pm,an,J,ct,ac,rfl,lk,U⟩:=F.ex;refine NW lk U S Y λA B s H vs Q E hr W=>?_
 obtain⟨t,h,q⟩:=M J A B s H vs Q E hr W;exact⟨t,h.nox,q⟩
theorem Fun.binds{x q:Str}{st:Stmt}{f:Addr}{fd:VH}{ps:List Str}(F:Fun K x q st f fd)
  (h:∀(kV B M:Value) (J:Option Addr) (G ct:Value) (us:List Value),us.length=ps.length->bindArgs (VV x q (cH st) (bB st) (aF st) .none kV B M J G ct) ⟨us,[]⟩=pure (ps.zip us)):Binds K fd ps []:=by
 obtain⟨Y,od,kV,B,M,J,G,ct,U,rfl,W,N⟩:=F.ex;exact .all (h kV B M J G ct)
theorem CG{x q:Str}{st:Stmt}{f:Addr}{N:Value}{od J:Option Addr}{G:Array (Option Value)}{kV F M B ct:Value}(l:K.lookup f=some ⟨N,od,.func (VV x q (cH st) (bB st) (aF st) .none kV F M J B ct),G⟩)
  (c:XD K B q=true) (k:WU K (.ref f)=true):Fun K x q st f (VV x q (cH st) (bB st) (aF st) .none kV F M J B ct):=⟨⟨N,od,kV,F,M,J,B,ct,G,rfl,l,c⟩,k⟩
end
theorem xQ(q:Room k A):A.units+1<cLine:=ZD (Nat.add_le_add_left (by decide:1<=64) _) q.units
section
variable {X:Cx}
theorem pv(i:Nat)(G:X.N[i]?=some x:=by rfl)(F:M5 X.env.scope x:=by first|exact V3 rfl|exact WG (V3 rfl)|exact WG (WG rfl))(B:(x == ("__debug__" : Str))=false:=by decide)
  (q:(x == ("__classdict__" : Str))=false:=by decide):PE X (.Name x pos) (gX i):=K1 G F B q
end
theorem QY{A B:Prop}(h:B):if false=true then A else B:=by
 rw[if_neg T3];exact h
theorem Q3{A B:Prop}(h:A):if true=true then A else B:=by
 rw[if_pos rfl];exact h
def Same(H H':Hp):Prop:=∀b o,H b=some o->H' b=some o
theorem Same.trans(a:Same H H1)(b:Same H1 H2):Same H H2:=λc o h=>b c o (a c o h)
theorem Same.free(e:Same H H')(h:H' l=Option.none):H l=Option.none:=by
 cases q:H l with
 | none=>rfl
 | some o=>
  rw[e l o q]at h;cases h
theorem Same.seq{K:TK}{H H':Hp}{a:Addr}{xs:List V}(e:Same H H')(h:SqL K H a xs):SqL K H' a xs:=by
 rcases h with(h|⟨o,h⟩)|h
 ·exact .inl (.inl (e _ _ h))
 ·exact .inl (.inr ⟨o,e _ _ h⟩)
 ·exact .inr h
section
variable {X:Cx}
end
section
variable {κ:Type}[DecidableEq κ]
theorem xD:∀ {l:List κ} {k:κ},l.Nodup->¬ k∈l->(l++[k]).Nodup
 | [],k,_,_=>by simp
 | a::r,k,h,hk=>by
  obtain⟨h1,h2⟩:=List.nodup_cons.mp h;show(a::(r++[k])).Nodup;refine List.nodup_cons.mpr ⟨λm=>?_,xD h2 λm=>hk (List.mem_cons.mpr (WG m))⟩;rcases List.mem_append.mp m with q|q
  ·exact h1 q
  ·exact hk (List.mem_cons.mpr (V3 (List.mem_singleton.mp q).symm))
end
end L2
set_option maxHeartbeats 4000000
namespace My
open PySem PySem.Spec PyProof.Rows L2
def OY(i j:Int):Prop:=(-(10^250)<i/\i<10^250)/\-(10^250)<j/\j<10^250
section
variable {X:Cx}
def QE(K:TK):List V->Hp->VK->Prop:=λxs H Q=>∃x n t b,xs=[x,.ty n]/\TyOf K H x t/\X6 K t (.type n)=some b/\Q (.bl b) H
theorem AM:CallR X (.builtin "isinstance") (QE X.K):=by
 intro pins s σ H xs G Q I r h;obtain⟨x,n,t,b,rfl,ty,e,q⟩:=h;obtain⟨u,J,rfl,B,F⟩:=vals2 r;cases F;exact yO I B ty e λtk=>⟨.bl b,H,I.tok tk,rfl,q⟩
end
structure Ok(P:TN)(w:World)(K:TK)(mg:Str->Option Value)(base:Heap)(x:Str)(k:Nat)(ps:List Str)(sp:Sp):Prop where
 ex:∃f fd,WU K (.ref f)=true/\Binds K fd ps []/\mg x=some (.ref f)/\FnOk P w K mg base tY k f fd ps sp
structure DefAt(K:TK)(mg:Str->Option Value)(x:Str)(st:Stmt)(ps:List Str):Prop where
 ex:∃f fd,Fun K x x st f fd/\Binds K fd ps []/\mg x=some (.ref f)
def KY(sp:Sp)(t:TA):TE:=λσ H Q=>t σ H λvs H1=>sp vs H1 Q E0
section
variable {X:Cx}{x:Str}{k:Nat}{ps:List Str}{sp:Sp}{e:Expr}{es:List Expr}{t:TA}{p pos:Pos}
theorem sD(O:Ok X.prog X.w X.K X.mg X.base x k ps sp)(W:Room k X.A)(G:Gl X x)(N:PA X (e::es) t)(B:(x == ("__debug__" : Str))=false:=by decide)
  (M:TL (e::es) X.env=(false,eval e X.env)::TL es X.env:=by rfl) (q:(UD pos (TL es X.env)).any (·.1)=false:=by rfl) :
  PE X (.Call (.Name x p) (e::es) [] pos) (KY sp t):=by
 obtain⟨f,fd,J,Y,U,F⟩:=O.ex;have h:=E9 (p:=p) (pos:=pos) F W G U J Y .nil NF N B M q;intro pins s σ H Q I hw;refine h pins s σ H Q I ?_;have e:(λ(vs:List V) (H1:Hp)=>sp (vs++[]) H1 Q E0)=λvs H1=>sp vs H1 Q E0:=by
  funext vs H1;rw[X8]
 show t σ H λvs H1=>sp (vs++[]) H1 Q E0
 rw[e];exact hw
end
section
variable {P:TN}{w:World}{K:TK}{mg:Str->Option Value}{base:Heap}
def BodyOk(P:TN)(w:World)(K:TK)(mg:Str->Option Value)(base:Heap)(x:Str)(st:Stmt)(N:List Str)(k:Nat)(sp:Sp):Prop:=
 ∀(f:Addr) (cdv:Value) (A:TZ) (outer:List Env) (s:TH) (H:Hp) (vs:List V) (Q:VK) (E:XK),Room k (A.deeper (U4 x (aF st) s.heap.objs.size f cdv))->sp vs H Q E->
   ∃t,PSs (iW tY P w K mg base N x (aF st) f cdv A outer s H E).nox (bB st) t/\t {nx:=λ_ H'=>Q .non H',rt:=Q} (start N vs) H
theorem BodyOk.fn{x:Str}{st:Stmt}{N ps:List Str}{k:Nat}{sp:Sp}{f:Addr}{fd:VH}(B:BodyOk P w K mg base x st N k sp)(F:Fun K x x st f fd)(S:FnScope N ps (aF st))(J:∀vs H Q E,sp vs H Q E->vs.length=ps.length) :
  FnOk P w K mg base tY (k+1) f fd ps sp:=F.ok S J λG A q s H vs Q E M h=>B f G A q s H vs Q E M h
theorem BodyOk.ok{x:Str}{st:Stmt}{N ps:List Str}{k:Nat}{sp:Sp}(q:BodyOk P w K mg base x st N k sp)(D:DefAt K mg x st ps)(S:FnScope N ps (aF st))(G:∀vs H Q E,sp vs H Q E->vs.length=ps.length) :
  Ok P w K mg base x (k+1) ps sp:=by
 obtain⟨f,fd,F,B,J⟩:=D.ex;exact⟨f,fd,F.kp,B,J,q.fn F S G⟩
theorem Ok.mono(O:Ok P w K mg base x j ps sp)(h:j<=k):Ok P w K mg base x k ps sp:=by
 obtain⟨f,fd,G,B,q,F⟩:=O.ex;exact⟨f,fd,G,B,q,F.mono h⟩
end
def tK(K:TK):Sp:=λvs H Q _=>∃(a:Addr) (ns:List Int),vs=[.ref a]/\SqL K H a (ns.map V.int)/\ns.length<=63/\∀H',Q (.bl true) H'
theorem walk{l:zax}{q:TN}{B:List Str}{U:(Str->Option Value)->Heap->Prop}{J:World->Heap->Prop}{d:DefRec}{K:Params->TK}{k:Nat}(M:k<=100)(hn:l.most=some 63)(G:d.params.defaults=[])
  (Y:∀(w:World) (h:Heap),J w h->(K w.params).In h)
  (F:∀(w:World) (mg:Str -> Option Value) (fa:Addr) (h:Heap), (K w.params).In h -> h.Ns UP mg -> mg d.name = some (.ref fa) ->
   ∃fd:VH,(∀(s:TH) (u:Value),BindsTo s fd ⟨[u],[]⟩ [("script",u)])/\∀base:Heap,(K w.params).In base->base.Ns UP mg->FnOk l.prog w (K w.params) mg base tY k fa fd ["script"] (tK (K w.params))) :
  PySem.W.WalkO q B U J l.row.toRowW d [] (λf vs=>PySem.call f vs):=
 L2.E6 (n:=63) (k:=k) (x := "script") (CX:=λ_=>tY) (sp:=λw=>tK (K w.params)) hn (by decide) G (Room.mono (k:=100) ⟨rfl,by decide,by decide⟩ M) Y F (λ_ _ a ns N _ hS=>⟨a,ns,rfl,hS,N,λ_=>rfl⟩) λ_ _ _ _ _ z=>z
theorem sN(h:H p=none):Same H (upd H p o):=λb u e=>by
 rw[aC (a6 e h)];exact e
theorem Same.tupR{K:TK}{H H':Hp}{a:Addr}{xs:List V}(e:Same H H')(h:SqT K H a xs):SqT K H' a xs:=by
 rcases h with(h|⟨o,h⟩)|h
 ·exact .inl (.inl (e _ _ h))
 ·exact .inl (.inr ⟨o,e _ _ h⟩)
 ·exact .inr h
theorem boot_len:UM "len" = some (.builtin "len"):=by decide +kernel
theorem boot_max:UM "max" = some (.builtin "max"):=by decide +kernel
theorem boot_min:UM "min" = some (.builtin "min"):=by decide +kernel
theorem boot_isinstance:UM "isinstance" = some (.builtin "isinstance"):=by decide +kernel
theorem boot_sorted:UM "sorted" = some (.builtin "sorted"):=by decide +kernel
theorem boot_int:UM "int" = some (.type "int"):=by decide +kernel
theorem boot_bool:UM "bool" = some (.type "bool"):=by decide +kernel
theorem boot_tuple:UM "tuple" = some (.type "tuple"):=by decide +kernel
theorem boot_list:UM "list" = some (.type "list"):=by decide +kernel
theorem boot_all:UM "all" = some (.builtin "all"):=by decide +kernel
end My
namespace My
open PySem PySem.Spec PyProof.Rows L2 PySem.SeqAt
inductive Dx where
 | non|bl (b:Bool)|int (i:Int)|str (x:Str)|tup (l:List Dx)|lst (l:List Dx)
mutual
def Rep(K:TK)(H:Hp):Dx->V->Prop
 | .non,v=>v=.non
 | .bl b,v=>v=.bl b
 | .int i,v=>v=.int i
 | .str x,v=>v=.str x
 | .tup l,v=>∃a xs,v=.ref a/\SqT K H a xs/\RepL K H l xs
 | .lst l,v=>∃a xs,v=.ref a/\SqL K H a xs/\RepL K H l xs
def RepL(K:TK)(H:Hp):List Dx->List V->Prop
 | [],vs=>vs=[]
 | d::ds,vs=>∃x xs,vs=x::xs/\Rep K H d x/\RepL K H ds xs
end
section
variable {K:TK}{H H':Hp}
mutual
theorem Rep.same(e:Same H H'):∀(d:Dx) (v:V),Rep K H d v->Rep K H' d v
 | .non,v,h=>by rw[Rep]at h ⊢;exact h
 | .bl b,v,h=>by rw[Rep]at h ⊢;exact h
 | .int i,v,h=>by rw[Rep]at h ⊢;exact h
 | .str x,v,h=>by rw[Rep]at h ⊢;exact h
 | .tup l,v,h=>by
  rw[Rep]at h ⊢;obtain⟨a,xs,q,h1,h2⟩:=h;exact⟨a,xs,q,Same.tupR e h1,RepL.same e l xs h2⟩
 | .lst l,v,h=>by
  rw[Rep]at h ⊢;obtain⟨a,xs,q,h1,h2⟩:=h;exact⟨a,xs,q,e.seq h1,RepL.same e l xs h2⟩
theorem RepL.same(e:Same H H'):∀(ds:List Dx) (vs:List V),RepL K H ds vs->RepL K H' ds vs
 | [],vs,h=>by rw[RepL]at h ⊢;exact h
 | d::ds,vs,h=>by
  rw[RepL]at h ⊢;obtain⟨x,xs,q,h1,h2⟩:=h;exact⟨x,xs,q,Rep.same e d x h1,RepL.same e ds xs h2⟩
end
theorem RepL.nil:RepL K H [] []:=by rw[RepL]
theorem RepL.cons(h1:Rep K H d v)(h2:RepL K H ds vs):RepL K H (d::ds) (v::vs):=by
 rw[RepL];exact⟨v,vs,rfl,h1,h2⟩
theorem RepL.length:∀ {ds:List Dx} {vs:List V},RepL K H ds vs->vs.length=ds.length
 | [],vs,h=>by rw[RepL]at h;rw[h];rfl
 | d::ds,vs,h=>by
  rw[RepL]at h;obtain⟨x,xs,rfl,_,h2⟩:=h;rw[UK,UK,RepL.length h2]
theorem RepL.get':∀ {ds:List Dx} {vs:List V} {i:Nat} {d:Dx},RepL K H ds vs->ds[i]?=some d->∃v,vs[i]?=some v/\Rep K H d v
 | [],vs,i,d,h,e=>by simp at e
 | d'::ds,vs,i,d,h,e=>by
  rw[RepL]at h;obtain⟨x,xs,rfl,h1,h2⟩:=h;cases i with
  | zero=>simp at e;subst e;exact⟨x,rfl,h1⟩
  | succ i=>exact RepL.get' (i:=i) (ds:=ds) h2 (by simpa using e)
mutual
def Dx.dep:Dx->Nat
 | .tup l=>qR l+1
 | .lst l=>qR l+1
 | .non=>0
 | .bl _=>0
 | .int _=>0
 | .str _=>0
def qR:List Dx->Nat
 | []=>0
 | d::ds=>max d.dep (qR ds)
end
mutual
def Dx.nb:Dx->Bool
 | .bl _=>false
 | .tup l=>EB l
 | .lst l=>EB l
 | .non=>true
 | .int _=>true
 | .str _=>true
def EB:List Dx->Bool
 | []=>true
 | d::ds=>d.nb && EB ds
end
theorem v6:∀ {ds:List Dx} {i:Nat} {d:Dx},ds[i]?=some d->d.dep<=qR ds
 | [],i,d,e=>by simp at e
 | d'::ds,0,d,e=>by simp at e;subst e;rw[qR];lia
 | d'::ds,i+1,d,e=>by
  have:=v6 (ds:=ds) (i:=i) (by simpa using e);rw[qR];lia
theorem u2:∀ {ds:List Dx} {i:Nat} {d:Dx},EB ds=true->ds[i]?=some d->d.nb=true
 | [],i,d,_,e=>by simp at e
 | d'::ds,0,d,h,e=>by simp at e;subst e;rw[EB,UR]at h;exact h.1
 | d'::ds,i+1,d,h,e=>by
  rw[EB,UR]at h;exact u2 h.2 (by simpa using e)
end
section
variable {X:Cx}{pins:List (Addr×Obj)}{σ:L2.St}{H:Hp}{s:TH}
theorem v5(I:Inv X pins σ H s)(h1:SqL X.K H a xs)(h2:SqT X.K H a ys):False:=by
 obtain⟨F,_,⟨o,n,e,c,_⟩,_⟩:=I.list h1;obtain⟨its',_,⟨o',q,B,_⟩,_⟩:=I.tuple h2;rw[e]at q;cases q;rw[c]at B;exact absurd B (by decide)
mutual
theorem Rep.inj(I:Inv X pins σ H s):∀(d e:Dx) (v:V),Rep X.K H d v->Rep X.K H e v->d=e
 | .non,e,v,h,h'=>by
  rw[Rep]at h;subst h;cases e <;> (rw[Rep]at h') <;> first|rfl|(cases h';done)|(obtain⟨_,_,z,_⟩:=h';cases z)
 | .bl b,e,v,h,h'=>by
  rw[Rep]at h;subst h;cases e <;> (rw[Rep]at h') <;> first|(cases h';rfl)|(cases h';done)|(obtain⟨_,_,z,_⟩:=h';cases z)
 | .int i,e,v,h,h'=>by
  rw[Rep]at h;subst h;cases e <;> (rw[Rep]at h') <;> first|(cases h';rfl)|(cases h';done)|(obtain⟨_,_,z,_⟩:=h';cases z)
 | .str x,e,v,h,h'=>by
  rw[Rep]at h;subst h;cases e <;> (rw[Rep]at h') <;> first|(cases h';rfl)|(cases h';done)|(obtain⟨_,_,z,_⟩:=h';cases z)
 | .tup l,e,v,h,h'=>by
  rw[Rep]at h;obtain⟨a,xs,rfl,h1,h2⟩:=h;cases e with
  | tup m=>
   rw[Rep]at h';obtain⟨b,ys,B,q,F⟩:=h';cases B;have G:=I.tuple_inj h1 q;subst G;rw[RepL.inj I l m xs h2 F]
  | lst m=>
   rw[Rep]at h';obtain⟨b,ys,B,q,F⟩:=h';cases B;exact(v5 I q h1).elim
  | non=>rw[Rep]at h';cases h'
  | bl b=>rw[Rep]at h';cases h'
  | int i=>rw[Rep]at h';cases h'
  | str x=>rw[Rep]at h';cases h'
 | .lst l,e,v,h,h'=>by
  rw[Rep]at h;obtain⟨a,xs,rfl,h1,h2⟩:=h;cases e with
  | lst m=>
   rw[Rep]at h';obtain⟨b,ys,B,q,F⟩:=h';cases B;have G:=I.list_inj h1 q;subst G;rw[RepL.inj I l m xs h2 F]
  | tup m=>
   rw[Rep]at h';obtain⟨b,ys,B,q,F⟩:=h';cases B;exact(v5 I h1 q).elim
  | non=>rw[Rep]at h';cases h'
  | bl b=>rw[Rep]at h';cases h'
  | int i=>rw[Rep]at h';cases h'
  | str x=>rw[Rep]at h';cases h'
theorem RepL.inj(I:Inv X pins σ H s):∀(ds es:List Dx) (vs:List V),RepL X.K H ds vs->RepL X.K H es vs->ds=es
 | [],es,vs,h,h'=>by
  rw[RepL]at h;subst h;cases es with
  | nil=>rfl
  | cons e es=>rw[RepL]at h';obtain⟨_,_,z,_⟩:=h';cases z
 | d::ds,es,vs,h,h'=>by
  rw[RepL]at h;obtain⟨x,xs,rfl,h1,h2⟩:=h;cases es with
  | nil=>rw[RepL]at h';cases h'
  | cons e es=>
   rw[RepL]at h';obtain⟨_,_,z,q,B⟩:=h';cases z;rw[Rep.inj I d e x h1 q,RepL.inj I ds es xs h2 B]
end
end
open Classical in
theorem p4:∀(ds es:List Dx),((UU (min ds.length es.length)).all (λj=>decide (ds.getD j .non=es.getD j .non)) && ds.length == es.length)=decide (ds=es):=by
 intro ds es;by_cases h:ds=es
 ·subst h
  simp
 ·rw[decide_eq_false h]
  by_cases q:ds.length=es.length
  ·simp only[q,Nat.min_self,beq_self_eq_true,Bool.and_true]
   rw[Bool.eq_false_iff];intro B;rw[YF]at B;refine h (ZE q λi h1 h2=>?_);have:=of_decide_eq_true (B i (List.mem_range.mpr h2));simpa[XI,h1,h2]using this
  ·have:(ds.length == es.length)=false:=by simpa using q
   rw[this,Bool.and_false]
open Classical in
theorem sP(ds es:List Dx)(h:ds.length=es.length):((UU ds.length).all (λj=>decide (ds.getD j .non=es.getD j .non)))=decide (ds=es):=by
 have:=p4 ds es;rw[h,Nat.min_self,beq_self_eq_true,Bool.and_true]at this;rw[h];exact this
section
variable {X:Cx}{pins:List (Addr×Obj)}{σ:L2.St}{H:Hp}{s:TH}
theorem EqAt.to(h:EqAt A s u v b)(e:b=c):EqAt A s u v c:=e ▸ h
open Classical in
theorem iJ(I:Inv X pins σ H s){n:Nat}(ih:∀(A:TZ) (d e:Dx) (x y:V) (u v:Value),d.dep<=n->A.units+n<cLine->d.nb=true->e.nb=true->Rep X.K H d x->Rep X.K H e y->RelV x u->RelV y v->EqAt A s u v (decide (d=e)))
  {A:TZ} {ds es:List Dx} {xs ys:List V} {q vs:List Value} (hd:qR ds<=n) (hu:A.units+(n+1)<cLine) (h1:EB ds=true) (h2:EB es=true) (U:RepL X.K H ds xs) (N:RepL X.K H es ys) (M:Vals xs q) (G:Vals ys vs) :
  ∀j (h1:j<q.toArray.size) (h2:j<vs.toArray.size),EqAt A.in1 s q.toArray[j] vs.toArray[j] (decide (ds.getD j .non=es.getD j .non)):=by
 intro j W j2;have l1:=U.length;have l2:=N.length;have l3:=M.length;have l4:=G.length;have k1:j<q.length:=by simpa using W
 have k2:j<vs.length:=by simpa using j2
 have B:ds[j]?=some (ds.getD j .non):=by simp[XI,show j<ds.length by lia]
 have F:es[j]?=some (es.getD j .non):=by simp[XI,show j<es.length by lia]
 obtain⟨x,ex,rx⟩:=U.get' B;obtain⟨y,ey,ry⟩:=N.get' F;obtain⟨u,J,ru⟩:=M.get ex;obtain⟨v,ev,rv⟩:=G.get ey;have b1:q.toArray[j]=u:=by
  rw[U8 k1]at J;simpa using UL J
 have Y:vs.toArray[j]=v:=by
  rw[U8 k2]at ev;simpa using UL ev
 rw[b1,Y];exact ih A.in1 _ _ x y u v (UV (v6 B) hd) (by show A.units+1+n<cLine;lia) (u2 h1 B) (u2 h2 F) rx ry ru rv
end
section
variable {X:Cx}{pins:List (Addr×Obj)}{σ:L2.St}{H:Hp}{s:TH}
theorem PlainL.isList(p:PlainL h a its):h.IsList a its:=by
 obtain⟨o,n,e,c,_,d⟩:=p;exact⟨o,e,c,n,d⟩
open Classical in
theorem p7(I:Inv X pins σ H s) :
  ∀(n:Nat) (A:TZ) (d e:Dx) (x y:V) (u v:Value),d.dep<=n->A.units+n<cLine->d.nb=true->e.nb=true->Rep X.K H d x->Rep X.K H e y->RelV x u->RelV y v->EqAt A s u v (decide (d=e)):=by
 intro n;induction n with
 | zero=>
  intro A d e x y u v hd hu Y M W q ru F;have B:A.units<cLine:=by lia
  cases d with
  | bl b=>rw[Dx.nb]at Y;cases Y
  | tup l=>rw[Dx.dep]at hd;lia
  | lst l=>rw[Dx.dep]at hd;lia
  | non=>
   rw[Rep]at W;subst W;cases ru;cases e with
   | bl b=>rw[Dx.nb]at M;cases M
   | non=>rw[Rep]at q;subst q;cases F;exact EqAt.to (EqAt.same _) (by simp)
   | int i=>rw[Rep]at q;subst q;obtain⟨t,rfl⟩:=F;exact EqAt.to (EqAt.none_int _ _) (by simp)
   | str i=>rw[Rep]at q;subst q;obtain⟨t,rfl⟩:=F;exact EqAt.to (EqAt.none_str _ _) (by simp)
   | tup l=>
    rw[Rep]at q;obtain⟨a,xs,rfl,h1,_⟩:=q;cases F;obtain⟨J,_,G,_⟩:=I.tuple h1;exact EqAt.to (EqAt.none_tuple G B) (by simp)
   | lst l=>
    rw[Rep]at q;obtain⟨a,xs,rfl,h1,_⟩:=q;cases F;obtain⟨J,_,G,_⟩:=I.list h1;exact EqAt.to (EqAt.none_list G.isList B) (by simp)
  | int i=>
   rw[Rep]at W;subst W;obtain⟨t,rfl⟩:=ru;cases e with
   | bl b=>rw[Dx.nb]at M;cases M
   | non=>rw[Rep]at q;subst q;cases F;exact EqAt.to (EqAt.int_none _ _) (by simp)
   | int j=>rw[Rep]at q;subst q;obtain⟨t',rfl⟩:=F;exact EqAt.to (EqAt.int_int _ _ _ _) (by simp[zay])
   | str j=>rw[Rep]at q;subst q;obtain⟨t',rfl⟩:=F;exact EqAt.to (EqAt.int_str _ _ _ _) (by simp)
   | tup l=>
    rw[Rep]at q;obtain⟨a,xs,rfl,h1,_⟩:=q;cases F;obtain⟨J,_,G,_⟩:=I.tuple h1;exact EqAt.to (EqAt.int_tuple _ _ G B) (by simp)
   | lst l=>
    rw[Rep]at q;obtain⟨a,xs,rfl,h1,_⟩:=q;cases F;obtain⟨J,_,G,_⟩:=I.list h1;exact EqAt.to (EqAt.int_list _ _ G.isList B) (by simp)
  | str i=>
   rw[Rep]at W;subst W;obtain⟨t,rfl⟩:=ru;cases e with
   | bl b=>rw[Dx.nb]at M;cases M
   | non=>rw[Rep]at q;subst q;cases F;exact EqAt.to (EqAt.str_none _ _) (by simp)
   | int j=>rw[Rep]at q;subst q;obtain⟨t',rfl⟩:=F;exact EqAt.to (EqAt.str_int _ _ _ _) (by simp)
   | str j=>rw[Rep]at q;subst q;obtain⟨t',rfl⟩:=F;exact EqAt.to (EqAt.str_str _ _ _ _) (by simp[zay])
   | tup l=>
    rw[Rep]at q;obtain⟨a,xs,rfl,h1,_⟩:=q;cases F;obtain⟨J,_,G,_⟩:=I.tuple h1;exact EqAt.to (EqAt.str_tuple _ _ G B) (by simp)
   | lst l=>
    rw[Rep]at q;obtain⟨a,xs,rfl,h1,_⟩:=q;cases F;obtain⟨J,_,G,_⟩:=I.list h1;exact EqAt.to (EqAt.str_list _ _ G.isList B) (by simp)
 | succ n ih=>
  intro A d e x y u v hd hu Y M W q ru F;have B:A.units<cLine:=by lia
  cases d with
  | bl b=>rw[Dx.nb]at Y;cases Y
  | non=>exact ih A _ e x y u v (by rw[Dx.dep];lia) (by lia) Y M W q ru F
  | int i=>exact ih A _ e x y u v (by rw[Dx.dep];lia) (by lia) Y M W q ru F
  | str i=>exact ih A _ e x y u v (by rw[Dx.dep];lia) (by lia) Y M W q ru F
  | tup l=>
   have ad:=W;rw[Rep]at W;obtain⟨a,xs,rfl,h1,q1⟩:=W;cases ru;obtain⟨J,v1,G,_⟩:=I.tuple h1;cases e with
   | bl b=>rw[Dx.nb]at M;cases M
   | non=>rw[Rep]at q;subst q;cases F;exact EqAt.to (EqAt.tuple_none G B) (by simp)
   | int j=>rw[Rep]at q;subst q;obtain⟨t',rfl⟩:=F;exact EqAt.to (EqAt.tuple_int _ _ G B) (by simp)
   | str j=>rw[Rep]at q;subst q;obtain⟨t',rfl⟩:=F;exact EqAt.to (EqAt.tuple_str _ _ G B) (by simp)
   | lst m=>
    rw[Rep]at q;obtain⟨b,ys,rfl,h2,q2⟩:=q;cases F;obtain⟨N,v2,U,_⟩:=I.list h2;exact EqAt.to (EqAt.tuple_list G U.isList B) (by simp)
   | tup m=>
    by_cases hv:v=TV a
    ·subst hv
     obtain rfl:y=V.ref a:=RelV.inj F rfl;have:=Rep.inj I _ _ _ ad q;rw[this];exact EqAt.to (EqAt.same _) (by simp)
    ·rw[Rep]at q;obtain⟨b,ys,rfl,h2,q2⟩:=q;cases F
     obtain⟨N,v2,U,_⟩:=I.tuple h2;rw[Dx.dep]at hd;rw[Dx.nb]at Y M;refine EqAt.to (EqAt.of_refs (λz=>hv (by rw[z])) (RcAt.tuples G U B (iJ I ih (by lia) hu Y M q1 q2 v1 v2))) ?_;have e1:J.toArray.size=l.length:=by rw[T6,<- v1.length,q1.length]
     have e2:N.toArray.size=m.length:=by rw[T6,<- v2.length,q2.length]
     rw[e1,e2,p4];simp
  | lst l=>
   have ad:=W;rw[Rep]at W;obtain⟨a,xs,rfl,h1,q1⟩:=W;cases ru;obtain⟨J,v1,G,_⟩:=I.list h1;cases e with
   | bl b=>rw[Dx.nb]at M;cases M
   | non=>rw[Rep]at q;subst q;cases F;exact EqAt.to (EqAt.list_none G.isList B) (by simp)
   | int j=>rw[Rep]at q;subst q;obtain⟨t',rfl⟩:=F;exact EqAt.to (EqAt.list_int _ _ G.isList B) (by simp)
   | str j=>rw[Rep]at q;subst q;obtain⟨t',rfl⟩:=F;exact EqAt.to (EqAt.list_str _ _ G.isList B) (by simp)
   | tup m=>
    rw[Rep]at q;obtain⟨b,ys,rfl,h2,q2⟩:=q;cases F;obtain⟨N,v2,U,_⟩:=I.tuple h2;exact EqAt.to (EqAt.list_tuple G.isList U B) (by simp)
   | lst m=>
    by_cases hv:v=TV a
    ·subst hv
     obtain rfl:y=V.ref a:=RelV.inj F rfl;have:=Rep.inj I _ _ _ ad q;rw[this];exact EqAt.to (EqAt.same _) (by simp)
    ·rw[Rep]at q;obtain⟨b,ys,rfl,h2,q2⟩:=q;cases F
     obtain⟨N,v2,U,_⟩:=I.list h2;rw[Dx.dep]at hd;rw[Dx.nb]at Y M;have e1:J.toArray.size=l.length:=by rw[T6,<- v1.length,q1.length]
     have e2:N.toArray.size=m.length:=by rw[T6,<- v2.length,q2.length]
     by_cases hl:l.length=m.length
     ·refine EqAt.to (EqAt.of_refs (λz=>hv (by rw[z])) (RcAt.lists G.isList U.isList (by rw[e1,e2,hl]) B (iJ I ih (by lia) hu Y M q1 q2 v1 v2))) ?_
      rw[e1,sP _ _ hl];simp
     ·refine EqAt.to (EqAt.of_refs (λz=>hv (by rw[z])) (RcAt.lists_lengths G.isList U.isList (by rw[e1,e2];simpa using hl) B)) ?_
      rw[decide_eq_false];intro z;cases z;exact hl rfl
end
noncomputable def Dx.seq:Dx->Bool
 | .tup _=>true | .lst _=>true | .non=>false | .bl _=>false | .int _=>false | .str _=>false
open Classical in
def O5(K:TK)(neg:Bool):R2:=λx y H Q=>∃d e,Rep K H d x/\Rep K H e y/\d.seq=true/\e.seq=true/\d.nb=true/\e.nb=true/\d.dep<=60/\Q (.bl (if neg then !decide (d=e)else decide (d=e))) H
section
variable {X:Cx}{pins:List (Addr×Obj)}{σ:L2.St}{H:Hp}{s:TH}
open Classical in
theorem IC(I:Inv X pins σ H s)(hu:X.A.units+64<cLine)(r1:Rep X.K H d x)(M:Rep X.K H e y)(q1:d.seq=true)(J:e.seq=true)(n1:d.nb=true)(n2:e.nb=true)(hd:d.dep<=60)(ru:RelV x u)(rv:RelV y v) :
  RcAt X.A s u v (decide (d=e))/\RcNeAt X.A s u v (!decide (d=e)):=by
 have B:X.A.units<cLine:=by lia
 cases d with
 | bl b=>cases q1
 | non=>cases q1
 | int b=>cases q1
 | str b=>cases q1
 | tup l=>
  rw[Rep]at r1;obtain⟨a,xs,rfl,h1,k1⟩:=r1;cases ru;obtain⟨Y,v1,G,_⟩:=I.tuple h1;have U:Y.toArray.size=l.length:=by rw[T6,<- v1.length,k1.length]
  cases e with
  | bl b=>cases J
  | non=>cases J
  | int b=>cases J
  | str b=>cases J
  | tup m=>
   rw[Rep]at M;obtain⟨b,ys,rfl,h2,W⟩:=M;cases rv;obtain⟨F,N,q,_⟩:=I.tuple h2;have e2:F.toArray.size=m.length:=by rw[T6,<- N.length,W.length]
   rw[Dx.dep]at hd;rw[Dx.nb]at n1 n2;have he:=iJ I (p7 I 60) (A:=X.A) (by lia) (by lia) n1 n2 k1 W v1 N;have a1:=RcAt.tuples G q B he;have a2:=RcNeAt.tuples G q B he;rw[U,e2,p4]at a1 a2;have z:decide (Dx.tup l=Dx.tup m)=decide (l=m):=by simp
   rw[z];exact⟨a1,a2⟩
  | lst m=>
   rw[Rep]at M;obtain⟨b,ys,rfl,h2,W⟩:=M;cases rv;obtain⟨F,N,q,_⟩:=I.list h2;have z:decide (Dx.tup l=Dx.lst m)=false:=by simp
   rw[z];exact⟨RcAt.tuple_list G q.isList B,RcNeAt.tuple_list G q.isList B⟩
 | lst l=>
  rw[Rep]at r1;obtain⟨a,xs,rfl,h1,k1⟩:=r1;cases ru;obtain⟨Y,v1,G,_⟩:=I.list h1;have U:Y.toArray.size=l.length:=by rw[T6,<- v1.length,k1.length]
  cases e with
  | bl b=>cases J
  | non=>cases J
  | int b=>cases J
  | str b=>cases J
  | tup m=>
   rw[Rep]at M;obtain⟨b,ys,rfl,h2,W⟩:=M;cases rv;obtain⟨F,N,q,_⟩:=I.tuple h2;have z:decide (Dx.lst l=Dx.tup m)=false:=by simp
   rw[z];exact⟨RcAt.list_tuple G.isList q B,RcNeAt.list_tuple G.isList q B⟩
  | lst m=>
   rw[Rep]at M;obtain⟨b,ys,rfl,h2,W⟩:=M;cases rv;obtain⟨F,N,q,_⟩:=I.list h2;have e2:F.toArray.size=m.length:=by rw[T6,<- N.length,W.length]
   rw[Dx.dep]at hd;rw[Dx.nb]at n1 n2;have z:decide (Dx.lst l=Dx.lst m)=decide (l=m):=by simp
   rw[z];by_cases hl:l.length=m.length
   ·have he:=iJ I (p7 I 60) (A:=X.A) (by lia) (by lia) n1 n2 k1 W v1 N
    have a1:=RcAt.lists G.isList q.isList (by rw[U,e2,hl]) B he;have a2:=RcNeAt.lists G.isList q.isList (by rw[U,e2,hl]) B he;rw[U,sP _ _ hl]at a1 a2;exact⟨a1,a2⟩
   ·have z2:decide (l=m)=false:=decide_eq_false λz=>hl (by rw[z])
    rw[z2];exact⟨RcAt.lists_lengths G.isList q.isList (by rw[U,e2];simpa using hl) B,RcNeAt.lists_lengths G.isList q.isList (by rw[U,e2];simpa using hl) B⟩
end
section
variable {X:Cx}
theorem LK(F:X.A.units+64<cLine):OpR X (TY .Eq) (O5 X.K false):=by
 intro pins s σ H x y v u Q I W M h;obtain⟨d,e,G,r2,Y,N,U,J,B,q⟩:=h;exact(IC I F G r2 Y N U J B W M).1 X.prog X.w X.xe _ ⟨.bl _,H,I,rfl,q⟩
theorem LB(F:X.A.units+64<cLine):OpR X (TY .NotEq) (O5 X.K true):=by
 intro pins s σ H x y v u Q I W M h;obtain⟨d,e,G,r2,Y,N,U,J,B,q⟩:=h;exact(IC I F G r2 Y N U J B W M).2 X.prog X.w X.xe _ ⟨.bl _,H,I,rfl,q⟩
end
def TSame(H H':Hp):Prop:=∀b xs,Rd H b (.tup xs)->Rd H' b (.tup xs)
theorem Same.t(e:Same H H'):TSame H H':=λb xs h=>by
 rcases h with h|⟨o,h⟩
 ·exact .inl (e _ _ h)
 ·exact .inr ⟨o,e _ _ h⟩
theorem TSame.trans(a:TSame H H1)(b:TSame H1 H2):TSame H H2:=λc o h=>b c o (a c o h)
theorem TSame.put(h:H l=some (.lst us)):TSame H (upd H l o):=λb xs q=>by
 have ne:b≠l:=λz=>by
  subst z;rcases q with q|⟨B,q⟩ <;> (rw[h]at q;cases q)
 rcases q with q|⟨B,q⟩
 ·exact .inl (by rw[aC ne];exact q)
 ·exact .inr ⟨B,by rw[aC ne];exact q⟩
theorem TSame.sq{K:TK}{H H':Hp}{a:Addr}{xs:List V}(e:TSame H H')(h:SqT K H a xs):SqT K H' a xs:=by
 rcases h with h|h
 ·exact .inl (e _ _ h)
 ·exact .inr h
mutual
def Dx.nl:Dx->Bool
 | .lst _=>false
 | .tup l=>P4 l
 | .non=>true
 | .bl _=>true
 | .int _=>true
 | .str _=>true
def P4:List Dx->Bool
 | []=>true
 | d::ds=>d.nl && P4 ds
end
section
variable {K:TK}{H H':Hp}
mutual
theorem Rep.tsame(e:TSame H H'):∀(d:Dx) (v:V),d.nl=true->Rep K H d v->Rep K H' d v
 | .non,v,_,h=>by rw[Rep]at h ⊢;exact h
 | .bl b,v,_,h=>by rw[Rep]at h ⊢;exact h
 | .int i,v,_,h=>by rw[Rep]at h ⊢;exact h
 | .str x,v,_,h=>by rw[Rep]at h ⊢;exact h
 | .tup l,v,n,h=>by
  rw[Rep]at h ⊢;rw[Dx.nl]at n;obtain⟨a,xs,q,h1,h2⟩:=h;exact⟨a,xs,q,e.sq h1,RepL.tsame e l xs n h2⟩
 | .lst l,v,n,h=>by rw[Dx.nl]at n;cases n
theorem RepL.tsame(e:TSame H H'):∀(ds:List Dx) (vs:List V),P4 ds=true->RepL K H ds vs->RepL K H' ds vs
 | [],vs,_,h=>by rw[RepL]at h ⊢;exact h
 | d::ds,vs,n,h=>by
  rw[RepL]at h ⊢;rw[P4,UR]at n;obtain⟨x,xs,q,h1,h2⟩:=h;exact⟨x,xs,q,Rep.tsame e d x n.1 h1,RepL.tsame e ds xs n.2 h2⟩
end
end
theorem Same.put(e:Same H H')(h:H l=none):Same H (upd H' l o):=λb u q=>by
 rw[aC (a6 q h)];exact e b u q
def aR(X:Cx)(N:List Str)(scope:Scope)(q:List (Str×Addr))(C:Addr)(s:TH)(H:Hp)(fp:List Addr):Cx where
 prog:=X.prog
 w:=X.w
 K:=X.K
 mg:=X.mg
 base:=X.base
 A:=X.A
 N:=N
 s₀:=s
 H₀:=H
 env:=compEnvC scope q C X.env
 outer:=X.stack
 stack:=X.stack
 ex:=fp
 fn:=λ_=>false
 calm:=X.calm
 pn:=[]
 xe:=λ_ _=>False
def AE(X:Cx)(q:List Expr)(t:TT):Prop:=
 ∀(pins:List (Addr×Obj)) (s:TH) (σ:L2.St) (H:Hp) (Q:Bool->Hp->Prop),Inv X pins σ H s->t σ H Q->
  wpAny (model X.prog X.w) X.A (forIn q true λc r=>if r=true then do let ok <- isTrue c X.env (eval c X.env);pure (XJ ok)else pure (XJ r)) (TP X pins σ Q) X.xe s
def Q1:TT:=λ_ H Q=>Q true H
theorem G5:AE X [] Q1:=λpins s σ H Q I h=>wpAny_tests_nil ⟨H,I,h⟩
theorem GO(h:PT X c t):AE X [c] t:=λpins s σ H Q I hw=>wpAny_tests_one (h pins s σ H Q I hw)
structure Clo(X:Cx)(N:List Str)(scope:Scope)(cl:List (Str×Addr)):Prop where
 clos:closureFor scope X.env=pure cl
 kind:scope.kind=.function
 nocell:∀y∈scope.names,y.2≠.cell
 names:∀y∈scope.names,y.2=.local->scope.names.lookup y.1=some .local
 sub:∀x c,cl.lookup x=some c->X.env.cells.lookup x=some c
 has:∀x,((VW scope X.env).names.lookup x=some .cell\/(VW scope X.env).names.lookup x=some .free)->∃c,cl.lookup x=some c
def Start(X:Cx)(N:List Str)(scope:Scope)(σ q:L2.St):Prop:=
 q.length=N.length/\∀(j:Nat) (x:Str) (v:V),N[j]?=some x->q[j]?=some (some v)->M5 (VW scope X.env) x->¬ (VW scope X.env).names.lookup x=some .local/\∃i:Nat,X.N[i]?=some x/\σ[i]?=some (some v)/\(X.env.kindOf x=some .cell\/X.env.kindOf x=some .free)
def DJ(wi:TI)(g:TG)(tt:TT)(te:TE)(S:L2.St->L2.St->Prop):TE:=λσ H Q=>∃M,S σ M/\wi σ H λJ H1=>∀D,H1 D=none->∃W:Nat->Nat->L2.St->List V->Hp->Prop,(∃m,W 0 m M [] (upd H1 D (.lst []))) /\
 ∀i m G B H2,W i m G B H2->(J.stop i H2/\Q (.ref D) H2)\/(J.go i H2/\B.length<TQ/\∀x Y,J.yld i H2 x Y->g x G Y λq H4=>tt q H4 λok N=>
  if ok=true then te q N λv U=>U D=some (.lst B)/\∃F,F<m/\W (i+1) F q (B++[v]) (upd U D (.lst (B++[v])))else N D=some (.lst B)/\∃F,F<m/\W (i+1) F q B N)
section
variable {X:Cx}
theorem FB(B:Inv X pins σ H3 s3)(G:Clo X N scope cl)(J:∀b∈fp,fM X pins H3 b)(M:∀b∈fp,∃o,s3.heap.get? b=some o) :
  (aR X N scope cl s3.heap.objs.size s3 H3 fp).Ok where
 mod:=B.ok.mod
 kind:=G.kind
 glob:=B.ok.glob
 blt:=B.ok.blt
 above:=T5 _
 inj:=λx y c h1 h2=>B.ok.inj x y c (G.sub x c h1) (G.sub y c h2)
 has:=λx h=>G.has x h
 cab:=λx c h _=>nomatch h
 hd:=B.ok.hd
 frames:=B.ok.frames
 stk:=.inl rfl
 exf:=λb F=>by
  obtain⟨o,e⟩:=M b F;exact⟨UE (TX e),λx c h=>(J b F).2.2.2.2.1 x c (G.sub x c h)⟩
 bs:=B.bs
 bsz:=UV B.ok.bsz B.sz
 noex:=λb o e F=>by
  rcases(J b F).2.2.2.1 with z|z
  ·exact B.ok.noex b o e z
  ·exact absurd (U9 (TX e) B.ok.bsz) (Nat.not_lt.mpr z)
 exfs:=λb F z=>by
  rcases List.mem_cons.mp (B.stkSub b z)with q|q
  ·exact(J b F).2.1 q
  ·exact(J b F).2.2.1 q
 funs:=B.stack
 frf:=B.stkFree
theorem A9(F:Inv X pins σ H3 s3)(J:Clo X N scope cl)(ff:∀b∈fp,fM X pins H3 b)(fe:∀b∈fp,∃o,s3.heap.get? b=some o)
  (st:Start X N scope σ σ') (ho:s4.os=s3.os) (hg:s4.gens=s3.gens) (U:∀b o,s3.heap.get? b=some o->s4.heap.get? b=some o) (hn:s4.heap.Ns s3.heap.objs.size m) :
  Inv (aR X N scope cl s3.heap.objs.size s3 H3 fp) [] σ' H3 s4 where
 ok:=FB F J ff fe
 os:=ho
 bare:=by rw[hg];exact F.bare
 base:=Un.kept U
 loc:=by
  refine⟨m,hn,λj x v h1 h2 B=>?_⟩;obtain⟨nl,i,W,e2,q⟩:=st.2 j x v h1 h2 B;obtain⟨m0,ag,Y⟩:=F.loc;have ac:M5 X.env.scope x:=by
   rcases q with q|q
   ·exact .inr (.inl q)
   ·exact .inr (.inr q)
  obtain⟨u,ru,l⟩:=Y i x v W e2 ac;refine⟨u,ru,?_⟩;rcases l with⟨lk,_⟩|⟨_,c,hc,G⟩
  ·rcases q with q|q <;> (rw[lk]at q;cases q)
  ·have kk:(VW scope X.env).names.lookup x=some .cell\/(VW scope X.env).names.lookup x=some .free:=by
    rcases B with B|B|B
    ·exact absurd B nl
    ·exact .inl B
    ·exact .inr B
   obtain⟨c',M⟩:=J.has x kk;have ec:=J.sub x c' M;rw[hc]at ec;cases ec;obtain⟨o,ab,aa⟩:=G;exact .inr ⟨kk,c,M,o,U c o ab,aa⟩
 cell:=λx c e=>by
  obtain⟨v,o,W,d1⟩:=F.cell x c (J.sub x c e);exact⟨v,o,U c o W,d1⟩
 free:=F.hok.fresh (T5 _)
 freeC:=λx c e=>F.freeC x c (J.sub x c e)
 pin:=λp hp=>nomatch hp
 hok:=F.hok.kept U
 len:=st.1
theorem comp_back(I3:Inv X pins σ H3 s3)(ff:∀b∈fp,fM X pins H3 b)
  (F:Inv (aR X N scope cl s3.heap.objs.size s3 H3 fp) [] σ5 H5 s5) (hs:UI s3.heap.objs.size s5.heap h'):Inv X pins σ H5 {s5 with heap:=h'}:=by
 have ne:∀b o,s3.heap.get? b=some o->b≠s3.heap.objs.size:=λb o e=>UE (TX e)
 have u:=F.base;refine I3.call' (s':={s5 with heap:=h'}) (ch:=fp) F.os ⟨λb o e n B G=>?_,λb o e n B G=>?_,u.free,λb o e G=>?_,u.tups,u.frzs,u.tbls⟩ ?_ F.bare λb B=>?_
 ·exact(hs.2 b (ne b o e)).trans (u.keep b o e n B G)
 ·obtain⟨sl,q⟩:=u.slot b o e n B G
  exact⟨sl,(hs.2 b (ne b o e)).trans q⟩
 ·obtain⟨o',q⟩:=u.there b o e G
  exact⟨o',(hs.2 b (ne b o e)).trans q⟩
 ·intro b Y e
  have J:H5 s3.heap.objs.size=none:=F.free;refine(F.hok b Y e).stay (λc w' W q=>(hs.2 c ?_).trans q) (λ_ q=>q) λ_ _ q=>q
  rintro rfl;rcases W with z|z
  ·subst z;rw[J]at e;cases e
  ·rw[J]at z;cases z
 ·obtain⟨_,f1,_,M,U,f5⟩:=ff b B
  exact⟨M,f1,U,f5⟩
theorem yS(I:Nat->TH->Prop)
  (turn:∀n s, I n s -> wpAny (model prog w) A (U3 it) (λr F => match r with
   | none=>R (.ok .next) F
   | some v=>wpAny (model prog w) A (YX target it v) (λ_ q=>wpAny (model prog w) A (VA target env v) (λ_ M=>
     wpAny (model prog w) A (forIn ifs true λc r=>if r=true then do let ok <- isTrue c env (eval c env);pure (XJ ok)else pure (XJ r)) (λok B=>
      if ok=true then wpAny (model prog w) A (eval elt env) (λx J=>
       wpAny (model prog w) A (call (.builtin "list.append") [acc,x]) (λ_ U=>∃m,m<n/\I m U) (λ_ _=>False) J) (λ_ _=>False) B
      else ∃m,m<n/\I m B) (λ_ _=>False) M) (λ_ _=>False) q) (λ_ _=>False) F) (λ_ _=>False) s)
  (n:Nat) (h:I n s) :
  VU (model prog w) A (.compLoop (.ListComp elt [⟨target,iter,ifs,0⟩] scope pos) 0 it acc env) R s:=by
 refine codeAny_loop rfl I (λn s hI=>?_) n h;show wpAny _ A ((compTurn (.ListComp elt [⟨target,iter,ifs,0⟩] scope pos) 0 it acc env).onRaise (λx=>do noteFrame x env;theTreesLotGoes x)) _ _ s;refine wpAny_noted ?_;rw[compTurn_list];have Y:∀(e:Value) (s':TH),False->notedBy (model prog w) A env (λe s'=>R (.error e) s') e s':=λ_ _ h=>h.elim
 refine TF (YW (TF (U7 (turn n s hI) (λr F G=>?_) Y)));cases r with
 | none=>exact TJ G
 | some v=>
  refine TF (U7 G (λ_ q W=>?_) Y);refine TF (U7 W (λ_ M ab=>TF (U7 ab (λok B N=>?_) Y)) Y);cases ok with
  | false=>exact TJ ⟨rfl,N⟩
  | true=>
   exact TF (TF (U7 N (λx J ac=>TF (U7 ac (λ_ U aa=>TJ (TJ ⟨rfl,aa⟩)) Y)) Y))
theorem nY{aq tg am:Expr}{as:List Expr}{scope:Scope}{pos:Pos}{N:List Str}{Y:List (Str×Addr)}{wi:TI}{g:TG}{tt:TT}{te:TE}{RR:Value->Addr->Result->TH->Prop}{pins:List (Addr×Obj)}{σ aj:L2.St}{Q:VK}{J:It}{H2:Hp}{B:TH}{it:Addr}{fp:List Addr}{tn:Nat->Heap->Prop}{E:Value->TH->Prop}
  (hc:X.calm=true) (cc:Clo X N scope Y) (hg:∀C s H fp,PG (aR X N scope Y C s H fp) tg g) (ht:∀C s H fp,AE (aR X N scope Y C s H fp) as tt) (he:∀C s H fp,PE (aR X N scope Y C s H fp) aq te)
  (I2:Inv X pins σ H2 B) (T:Turn X.prog X.w X.K tg J fp it tn) (au:tn 0 B.heap) (f2:∀b∈fp,fM X pins H2 b) (sS:Start X N scope σ aj)
  (q2:∀D, H2 D = none -> ∃W:Nat -> Nat -> L2.St -> List V -> Hp -> Prop, (∃m, W 0 m aj [] (upd H2 D (.lst []))) /\
   ∀i m M F H2,W i m M F H2->(J.stop i H2/\Q (.ref D) H2)\/(J.go i H2/\F.length<TQ/\∀x G,J.yld i H2 x G->g x M G λai H4=>tt ai H4 λok H5=>
    if ok=true then te ai H5 λv H6=>H6 D=some (.lst F)/\∃m',m'<m/\W (i+1) m' ai (F++[v]) (upd H6 D (.lst (F++[v])))else H5 D=some (.lst F)/\∃m',m'<m/\W (i+1) m' ai F H5))
  (bt:∀(s3 s5:TH) (G H5:Hp) (ab:L2.St) (D:Addr),Inv X pins σ G s3->(∀b∈fp,fM X pins G b)->Inv (aR X N scope Y s3.heap.objs.size s3 G fp) [] ab H5 s5->Q (.ref D) H5->RR (.ref D) s3.heap.objs.size (.ok .next) s5) :
  wpAny (model X.prog X.w) X.A (newList []) (λa0 az=>wpAny (model X.prog X.w) X.A (newFunctionEnv scope X.env.globals Y [] X.env.qual none .none (some X.env)) (λal ay=>
   VU (model X.prog X.w) X.A (.compStart (.ListComp aq [⟨tg,am,as,0⟩] scope pos) 0 (.ref it) a0 {al with scope:=VW scope X.env}) (RR a0 al.locals) ay) E az) E B:=by
 refine VE (wpAny_newFunctionEnv cc.nocell (by intro y hy;simp at hy) (λh1 af ah=>?_) cc.kind);dsimp only at af ah ⊢;have I3:Inv X pins σ (upd H2 B.heap.objs.size (.lst [])) {B with heap:=B.heap.push {cls:=.type "list",dict:=none,data:=.seq ([]:List Value).toArray} }:=I2.lnew (t':=B.toks) .nil (UZ _);have hD:H2 B.heap.objs.size=none:=I2.fresh;have bq:∀b∈fp,b≠B.heap.objs.size:=λb q=>by
  obtain⟨o,e,_⟩:=T.obj 0 _ au b q;exact UE (TX e)
 have fe:∀b∈fp,∃o,(B.heap.push {cls:=.type "list",dict:=none,data:=.seq ([]:List Value).toArray}).get? b=some o:=λb q=>by
  obtain⟨o,e,_⟩:=T.obj 0 _ au b q;exact⟨o,T4 _ e⟩
 have f3:∀b∈fp,fM X pins (upd H2 B.heap.objs.size (.lst [])) b:=λb q=>⟨by rw[aC (bq b q)];exact(f2 b q).1,(f2 b q).2⟩
 obtain⟨W,⟨m0,w0⟩,turn⟩:=q2 B.heap.objs.size hD;have bo:(upd H2 B.heap.objs.size (.lst [])) B.heap.objs.size=some (.lst []):=aJ;generalize hs3:({B with heap:=B.heap.push {cls:=.type "list",dict:=none,data:=.seq ([]:List Value).toArray} }:TH)=s3 at I3;have e3:B.heap.push {cls:=.type "list",dict:=none,data:=.seq ([]:List Value).toArray}=s3.heap:=by rw[<- hs3]
 rw[e3]at af ah fe ⊢;generalize B.heap.objs.size=D at *;generalize upd H2 D (.lst [])=G at *;have an:∀b o,s3.heap.get? b=some o->h1.get? b=some o:=λb o e=>(ah.2 b (UE (TX e))).trans (T4 _ e)
 have bc:tn 0 s3.heap:=by
  refine T.keep 0 _ _ au λb q o e=>?_
  rw[<- e3];exact T4 _ e
 have ak:∀s4:TH,s4={B with heap:=h1,toks:=B.toks+([]:List (Str×Value)).length}->
   VU (model X.prog X.w) X.A (.compLoop (.ListComp aq [⟨tg,am,as,0⟩] scope pos) 0 (.ref it) (.ref D) (compEnvC scope Y s3.heap.objs.size X.env)) (RR (.ref D) s3.heap.objs.size) s4:=by
  rintro s4 rfl;have I4:Inv (aR X N scope Y s3.heap.objs.size s3 G fp) [] aj G {B with heap:=h1,toks:=B.toks+([]:List (Str×Value)).length}:=
   A9 (m:=λx=>([]:List (Str×Value)).reverse.lookup x) I3 cc f3 fe sS (by rw[<- hs3]) (by rw[<- hs3]) an af
  have ao:∀ {H':Hp},(∀b∈fp,H' b=none)->∀b∈fp,fM (aR X N scope Y s3.heap.objs.size s3 G fp) [] H' b:=λhn b q=>by
   have ok:=I4.ok;exact⟨hn b q,(ok.exf b q).1,ok.exfs b q,.inl q,(ok.exf b q).2,λp hp=>nomatch hp⟩
  refine yS (λn s'=>∃i M F H',Inv (aR X N scope Y s3.heap.objs.size s3 G fp) [] M H' s'/\tn i s'.heap/\(∀b∈fp,H' b=none)/\H' D=some (.lst F)/\W i n M F H') ?_ m0 ⟨0,aj,[],G,I4,T.keep 0 _ _ bc λb q o e=>an b o e,λb q=>(f3 b q).1,bo,w0⟩;rintro n s5 ⟨i,ab,F,H5,I5,aw,ax,dd,w5⟩;rcases turn i n ab F H5 w5 with⟨a4,qn⟩|⟨go,bb,step⟩
  ·refine bE (T.done (aR X N scope Y s3.heap.objs.size s3 G fp) rfl rfl rfl hc i [] s5 ab H5 _ I5 (ao ax) aw a4) λr s6 ⟨hr,I6⟩=>?_
   subst hr;exact bt s3 s6 G H5 ab D I3 f3 I6 qn
  ·refine bE (T.item (aR X N scope Y s3.heap.objs.size s3 G fp) rfl rfl rfl hc i [] s5 ab H5 _ I5 (ao ax) aw go) λr s6 ⟨u,hr,h6⟩=>?_
   subst hr;refine bE h6 λ_ s7 ⟨x,H7,I7,r7,y7,ap,be⟩=>?_
   have bm:=I7.pinned (ao be) (T.obj _ _ ap);refine bE (hg _ _ _ _ _ s7 ab H7 x u _ bm r7 (step x H7 y7)) λ_ s8 ⟨aa,H8,I8,q8⟩=>?_
   refine bE (ht _ _ _ _ _ s8 aa H8 _ I8 q8) λok s9 ⟨H9,I9,q9⟩=>?_
   have fin:∀ {ac:TH} {U:Hp} {vs:List V},Inv (aR X N scope Y s3.heap.objs.size s3 G fp) ([]++mJ fp s7.heap) aa U ac->U D=some (.lst vs)->(∃m',m'<n/\W (i+1) m' aa vs U)->
     ∃m,m<n/\∃i M F H',Inv (aR X N scope Y s3.heap.objs.size s3 G fp) [] M H' ac/\tn i ac.heap/\(∀b∈fp,H' b=none)/\H' D=some (.lst F)/\W i m M F H':=λ{ac U vs} ag hd ⟨m',hm,bl⟩=>by
    refine⟨m',hm,i+1,aa,vs,U,ag.unpinned,T.keep _ _ _ ap λb q o e=>(ag.pin (b,o) (VZ _ (VZ _ (dW q e)))).1,λb q=>?_,hd,bl⟩;obtain⟨o,e,d⟩:=T.obj _ _ ap b q;exact(ag.pin (b,o) (VZ _ (VZ _ (dW q e)))).2.1
   cases ok with
   | false=>
    rw[if_neg T3]at q9 ⊢;exact fin I9 q9.1 q9.2
   | true=>
    rw[if_pos rfl]at q9 ⊢;refine bE (he _ _ _ _ _ s9 aa H9 _ I9 q9) λy ac ⟨v,U,ag,bh,a2,bd⟩=>?_
    refine bE (oC (X:=aR X N scope Y s3.heap.objs.size s3 G fp) _ ac aa U (.ref D) [v] (.ref D) [y] (λ_ ar=>ar D=some (.lst (F++[v]))/\∃m',m'<n/\W (i+1) m' aa (F++[v]) ar) ag rfl (.cons bh .nil) ⟨D,F,v,rfl,rfl,a2,bb,aJ,bd⟩) λ_ db ⟨z,ar,bj,_,a1,br⟩=>?_
    exact fin bj a1 br
 exact codeAny_compStart_list (ak _ rfl) (T.self X.A 0 _ _ _ (T.keep 0 _ _ bc λb q o e=>an b o e) (ak _ rfl))
theorem GK{G tg B:Expr}{F:List Expr}{scope:Scope}{pos:Pos}{N:List Str}{U:List (Str×Addr)}{wi:TI}{g:TG}{tt:TT}{te:TE}
  (hc:X.calm=true) (M:Clo X N scope U) (hi:PI X tg B wi) (hg:∀C s H fp,PG (aR X N scope U C s H fp) tg g) (ht:∀C s H fp,AE (aR X N scope U C s H fp) F tt) (he:∀C s H fp,PE (aR X N scope U C s H fp) G te)
  (hs:∀x,WK B X.env x=pure x:=by intro _;rfl) :
  PE X (.ListComp G [⟨tg,B,F,0⟩] scope pos) (DJ wi g tt te (Start X N scope)):=by
 intro pins s σ H Q I h;obtain⟨an,sS,hw⟩:=h;rw[eval_ListComp];refine wpAny_comprehension_free (use:=none) rfl hs M.clos M.kind M.names (bE (hi pins s σ H _ I hw) λv s1 h1=>bE h1 λar s2 h2=>?_);obtain⟨it,fp,tn,J,H2,e,I2,T,W,f2,q2⟩:=h2;subst e;refine nY (wi:=wi) (Q:=Q) (RR:=λaa C=>compPost (model X.prog X.w) X.A X.xe none (EP X pins σ Q) aa C) hc M hg ht he I2 T W f2 sS q2 ?_;intro s3 s5 H3 H5 aj D I3 f3 I5 q;obtain⟨m,hn,_⟩:=id I5.loc;exact⟨m,hn,λh' Y=>⟨.ref D,H5,comp_back I3 f3 I5 Y,rfl,q⟩⟩
end
end My
namespace My
open PySem PySem.W PyProof.Rows
structure Ord(n:Nat)(lt:Nat->Nat->Bool):Prop where
 irr:∀i,i<n->lt i i=false
 tr:∀i j k,i<n->j<n->k<n->lt i j=true->lt j k=true->lt i k=true
 tot:∀i j,i<n->j<n->i≠j->lt i j=true\/lt j i=true
noncomputable def dQ(n:Nat)(lt:Nat->Nat->Bool):Nat->Nat->(Bool->TH->Prop)->TH->Prop:=λi j C s=>i<n/\j<n/\i≠j/\C (lt i j) s
def PermR(n:Nat)(p:Array Nat):Prop:=p.Perm (YG (UU n))
theorem PermR.size(h:PermR n p):p.size=n:=by
 have:=Array.Perm.size_eq h;simpa using this
theorem PermR.lt(h:PermR n p)(hi:i<n):p.getD i 0<n:=by
 have hs:=h.size;have q:i<p.size:=by lia
 have e:p.getD i 0=p[i]:=by simp[XM,q]
 rw[e];have B:p[i]∈p.toList:=by simp
 have:=(Array.perm_iff_toList_perm.mp h).mem_iff.mp B;simpa using this
theorem PermR.nodup(h:PermR n p):p.toList.Nodup:=by
 have:=Array.perm_iff_toList_perm.mp h;exact this.symm.nodup (by simpa using List.nodup_range)
theorem PermR.ne(h:PermR n p)(hi:i<n)(M:j<n)(q:i≠j):p.getD i 0≠p.getD j 0:=by
 have hs:=h.size;have F:i<p.toList.length:=by rw[VF];lia
 have B:j<p.toList.length:=by rw[VF];lia
 have J:p.getD i 0=p.toList[i]:=by simp[XM,show i<p.size by lia]
 have G:p.getD j 0=p.toList[j]:=by simp[XM,show j<p.size by lia]
 rw[J,G];intro z;exact q ((X3 h.nodup).mp z)
def dD(lt:Nat->Nat->Bool)(p:Array Nat)(k:Nat):Prop:=∀i j,i<j->j<k->lt (p.getD i 0) (p.getD j 0)=true
section
variable {n:Nat}{lt:Nat->Nat->Bool}(O:Ord n lt)
include O
theorem gL(q:PermR n p)(G:r<=n)(h:∀i,i+1<r->lt (p.getD i 0) (p.getD (i+1) 0)=true):dD lt p r:=by
 intro i j B F;obtain⟨d,rfl⟩:∃d,j=i+1+d:=⟨j-i-1,by lia⟩;clear B;induction d with
 | zero=>exact h i (by lia)
 | succ d ih=>exact O.tr _ _ _ (q.lt (by lia)) (q.lt (by lia)) (q.lt (by lia)) (ih (by lia)) (h (i+1+d) (by lia))
theorem MR(B:PermR n p)(hi:i<n)(F:j<n)(q:i≠j)(h:lt (p.getD i 0) (p.getD j 0)=false):lt (p.getD j 0) (p.getD i 0)=true:=by
 rcases O.tot _ _ (B.lt hi) (B.lt F) (B.ne hi F q)with z|z
 ·rw[h]at z;cases z
 ·exact z
theorem vO(q:PermR n p):∀(f m:Nat),1<=m->m+f<=n->(∀i,i+1<m->lt (p.getD i 0) (p.getD (i+1) 0)=true)->
  (∀r,m<=r->r<=m+f->(∀i,i+1<r->lt (p.getD i 0) (p.getD (i+1) 0)=true)->(r<m+f->lt (p.getD r 0) (p.getD (r-1) 0)=true)->G r s)->(kas_asc p f m).kasWp (dQ n lt) G s
 | 0,m,h1,h2,ha,hG=>hG m (T5 _) (T5 _) ha λz=>absurd z (by lia)
 | f+1,m,h1,h2,ha,hG=>by
  show dQ n lt _ _ _ s;refine⟨q.lt (by lia),q.lt (by lia),q.ne (by lia) (by lia) (by lia),?_⟩;cases hc:lt (p.getD m 0) (p.getD (m-1) 0)with
  | true=>
   show(KasT.ret m).kasWp (dQ n lt) G s;exact hG m (T5 _) (by lia) ha λ_=>hc
  | false=>
   show(kas_asc p f (m+1)).kasWp (dQ n lt) G s;refine vO q f (m+1) (by lia) (by lia) (λi hi=>?_) (λr M N F B=>hG r (by lia) (by lia) F λz=>B (by lia));by_cases e:i+1<m
   ·exact ha i e
   ·have:i=m-1:=by lia
    subst this;have J:m-1+1=m:=by lia
    rw[J];exact MR O q (by lia) (by lia) (by lia) hc
theorem wL(q:PermR n p):∀(f m:Nat),1<=m->m+f<=n->(∀i,i+1<m->lt (p.getD (i+1) 0) (p.getD i 0)=true)->
  (∀r,m<=r->r<=m+f->(∀i,i+1<r->lt (p.getD (i+1) 0) (p.getD i 0)=true)->G (p,r,0) s)->(kas_desc f p m 0).kasWp (dQ n lt) G s
 | 0,m,h1,h2,ha,hG=>hG m (T5 _) (T5 _) ha
 | f+1,m,h1,h2,ha,hG=>by
  show dQ n lt _ _ _ s;refine⟨q.lt (by lia),q.lt (by lia),q.ne (by lia) (by lia) (by lia),?_⟩;cases hc:lt (p.getD m 0) (p.getD (m-1) 0)with
  | true=>
   show(kas_desc f p (m+1) 0).kasWp (dQ n lt) G s;refine wL q f (m+1) (by lia) (by lia) (λi hi=>?_) (λr J M B=>hG r (by lia) (by lia) B);by_cases e:i+1<m
   ·exact ha i e
   ·have:i=m-1:=by lia
    subst this;have F:m-1+1=m:=by lia
    rw[F];exact hc
  | false=>
   show dQ n lt _ _ _ s;refine⟨q.lt (by lia),q.lt (by lia),q.ne (by lia) (by lia) (by lia),?_⟩;rw[MR O q (by lia) (by lia) (by lia) hc];exact hG m (T5 _) (by lia) ha
theorem C2(B:PermR n p)(F:r<=n)(k:Nat):(kas_rev p 0 r).getD k 0=if k<r then p.getD (r-1-k) 0 else p.getD k 0:=by
 have hs:=B.size;have e:=getElem?_mirror_all (xs:=p) (i:=0) (j:=r) (by lia) k;have g:∀(q:Array Nat) (k:Nat),q.getD k 0=(q[k]?).getD 0:=λq k=>by
  by_cases h:k<q.size <;> simp[XM,h]
 unfold kas_rev;rw[g,e];by_cases h:k<r
 ·rw[if_pos ⟨UZ _,h⟩,if_pos h,g]
  congr 2
  lia
 ·rw[if_neg (λz=>h z.2),if_neg h,g]
omit O in
theorem BV(q:PermR n p)(r:Nat):PermR n (kas_rev p 0 r):=(mirror_perm p 0 r _).trans q
theorem AQ(q:PermR n p)(hn:1<=n)(N:∀m W,1<=m->m<=n->PermR n W->dD lt W m->G (m,W) s):(kas_count n p).kasWp (dQ n lt) G s:=by
 unfold kas_count;rw[KasT.kasWp_bind];refine vO O q (n-1) 1 (T5 _) (by lia) (λi hi=>absurd hi (by lia)) λr h1 h2 Y h4=>?_
 by_cases e:r=n
 ·have:(r == n)=true:=by simp[e]
  rw[if_pos this];exact N r p h1 (by lia) q (gL O q (by lia) Y)
 ·have:¬ (r == n)=true:=by simp[e]
  rw[if_neg this];have hs:=gL O q (r:=r) (by lia) Y;by_cases h5:r>1
  ·rw[if_pos h5]
   show dQ n lt _ _ _ s;refine⟨q.lt (by lia),q.lt (by lia),q.ne (by lia) (by lia) (by lia),?_⟩;rw[hs 0 (r-1) (by lia) (by lia)];exact N r p h1 (by lia) q hs
  ·rw[if_neg h5]
   have r1:r=1:=by lia
   subst r1;unfold kas_descPart;rw[KasT.kasWp_bind];have M:=h4 (by lia);refine wL O q (n-(1+1)) (1+1) (by lia) (by lia) (λi hi=>?_) λB h6 h7 h8=>?_
   ·have:i=0:=by lia
    subst this;exact M
   ·show(kas_tail3 B n p).kasWp (dQ n lt) G s
    unfold kas_tail3;rw[KasT.kasWp_bind];have J:B<=n:=by lia
    have F:PermR n (kas_rev p 0 B):=BV q B;refine vO O F (n-B) B (by lia) (by lia) (λi hi=>?_) λm h9 af U _=>?_
    ·rw[C2 O q J,C2 O q J,if_pos (by lia),if_pos hi]
     have:=h8 (B-1-(i+1)) (by lia);have e2:B-1-(i+1)+1=B-1-i:=by lia
     rw[e2]at this;exact this
    ·exact N m _ (by lia) (by lia) F (gL O F (by lia) U)
theorem lQ(q:PermR n p)(M:k<n)(hs:dD lt p k):∀(f l r:Nat),l<=r->r<=k->r-l<=f->(∀i,i<l->lt (p.getD i 0) (p.getD k 0)=true)->(∀i,r<=i->i<k->lt (p.getD k 0) (p.getD i 0)=true)->
  (∀l,l<=k->(∀i,i<l->lt (p.getD i 0) (p.getD k 0)=true)->(∀i,l<=i->i<k->lt (p.getD k 0) (p.getD i 0)=true)->G l s)->(kas_place p k f l r).kasWp (dQ n lt) G s
 | 0,l,r,h1,h2,h3,h4,h5,hG=>by
  have:l=r:=by lia
  subst this;exact hG l h2 h4 h5
 | f+1,l,r,h1,h2,h3,h4,h5,hG=>by
  unfold kas_place;by_cases e:l ≥ r
  ·rw[if_pos e]
   have:l=r:=by lia
   subst this;exact hG l h2 h4 h5
  ·rw[if_neg e]
   show dQ n lt _ _ _ s;refine⟨q.lt (by lia),q.lt (by lia),q.ne (by lia) (by lia) (by lia),?_⟩;have U:(l+r)/2<k:=by lia
   have J:l<=(l+r)/2:=by lia
   have N:(l+r)/2<r:=by lia
   generalize (l+r)/2=mid at *;cases hc:lt (p.getD k 0) (p.getD mid 0)with
   | true=>
    show(kas_place p k f l mid).kasWp (dQ n lt) G s;refine lQ q M hs f l mid J (by lia) (by lia) h4 (λi hi F=>?_) hG;by_cases z:i=mid
    ·rw[z];exact hc
    ·exact O.tr _ _ _ (q.lt (by lia)) (q.lt (by lia)) (q.lt (by lia)) hc (hs mid i (by lia) F)
   | false=>
    show(kas_place p k f (mid+1) r).kasWp (dQ n lt) G s;have B:=MR O q (by lia) (by lia) (by lia) hc;refine lQ q M hs f (mid+1) r (by lia) h2 (by lia) (λi hi=>?_) h5 hG;by_cases z:i=mid
    ·rw[z];exact B
    ·exact O.tr _ _ _ (q.lt (by lia)) (q.lt (by lia)) (q.lt (by lia)) (hs i mid (by lia) U) B
theorem CH(B:PermR n p)(G:k<n)(J:l<=k)(j:Nat):(bubble p k (k-l)).getD j 0=if j=l then p.getD k 0 else if l<j/\j<=k then p.getD (j-1) 0 else p.getD j 0:=by
 have hs:=B.size;have e:=getElem?_bubble (xs:=p) (src:=k) (by lia) (k-l) (by lia) j;have g:∀(q:Array Nat) (k:Nat),q.getD k 0=(q[k]?).getD 0:=λq k=>by
  by_cases h:k<q.size <;> simp[XM,h]
 have F:k-(k-l)=l:=by lia
 rw[F]at e;rw[g,e];by_cases h:j=l
 ·rw[if_pos h,if_pos h,g]
 ·rw[if_neg h,if_neg h]
  by_cases h2:l<j/\j<=k
  ·rw[if_pos h2,if_pos h2,g]
  ·rw[if_neg h2,if_neg h2,g]
theorem CB(N:∀p,PermR n p->dD lt p n->G p s):∀(f:Nat) (p:Array Nat) (k:Nat),k+f=n->PermR n p->dD lt p k->(kas_bin f p k).kasWp (dQ n lt) G s
 | 0,p,k,h1,hp,hs=>by
  have:k=n:=by lia
  subst this;exact N p hp hs
 | f+1,p,k,h1,hp,hs=>by
  unfold kas_bin;rw[KasT.kasWp_bind];have q:k<n:=by lia
  refine lQ O hp q hs k 0 k (UZ _) (T5 _) (by lia) (λi hi=>absurd hi (by lia)) (λi h2 Y=>absurd Y (by lia)) λl F h4 h5=>?_
  refine CB N f _ (k+1) (by lia) ((bubble_perm p k _).trans hp) λi j B hj=>?_
  rw[CH O hp q F,CH O hp q F];by_cases J:i=l
  ·rw[if_pos J,if_neg (by lia),if_pos (by lia)]
   exact h5 (j-1) (by lia) (by lia)
  ·rw[if_neg J]
   by_cases U:j=l
   ·rw[if_pos U,if_neg (by lia)]
    exact h4 i (by lia)
   ·rw[if_neg U]
    by_cases M:l<i/\i<=k
    ·rw[if_pos M,if_pos (by lia)]
     exact hs (i-1) (j-1) (by lia) (by lia)
    ·rw[if_neg M]
     by_cases W:l<j/\j<=k
     ·rw[if_pos W]
      by_cases c:i=j-1
      ·lia
      ·exact hs i (j-1) (by lia) (by lia)
     ·rw[if_neg W]
      exact hs i j B (by lia)
theorem EO(J:1<=n)(F:∀p,PermR n p->dD lt p n->G p s):(kas_sort n).kasWp (dQ n lt) G s:=by
 unfold kas_sort;rw[KasT.kasWp_bind];refine AQ O (Array.Perm.refl _) J λm q h1 h2 B hs=>?_
 show(if m<n then kas_bin (n-max m 1) q (max m 1)else KasT.ret q).kasWp (dQ n lt) G s;have e:max m 1=m:=by lia
 rw[e];by_cases h:m<n
 ·rw[if_pos h]
  exact CB O F (n-m) q m (by lia) B hs
 ·rw[if_neg h]
  have:m=n:=by lia
  subst this;exact F q B hs
end
theorem w8{q:Type}{n:Nat}{lt:Nat->Nat->Bool}{c:Nat->Nat->(Bool->TH->Prop)->TH->Prop}(B:∀i j C,i<n->j<n->i≠j->C (lt i j) s->c i j C s){Q:q->TH->Prop}:∀(t:KasT q),t.kasWp (dQ n lt) Q s->t.kasWp c Q s
 | .ret a,h=>h
 | .ask i j k,h=>by
  obtain⟨h1,h2,F,G⟩:=(show i<n/\j<n/\i≠j/\(k (lt i j)).kasWp (dQ n lt) Q s from h);exact B i j _ h1 h2 F (w8 B (k (lt i j)) G)
end My
namespace My
open PySem PySem.Spec PyProof.Rows PySem.W
section
variable {prog:TN}{w:World}{A:TZ}{E:Value->TH->Prop}{s:TH}{it d:Addr}{i ep:Nat}{od:Obj}{es:Array WN}
def RawD(h:Heap)(d:Addr)(es:Array WN)(ep:Nat):Prop:=∃o,h.get? d=some o/\o.ExactDict/\o.data=.dict es ep
theorem RawD.at'(x:RawD h d es ep)(k:∀o,h.get? d=some o->h'.get? d=some o):RawD h' d es ep:=let ⟨o,a,b⟩:=x;⟨o,k o a,b⟩
theorem RawD.typ(x:RawD s.heap d es ep):s.TypeIs (.ref d) "dict" := let ⟨o,a,b,_⟩:=x;⟨o,a,b.1⟩
theorem AX(M:(d == VC)=false)(G:RawD s.heap d es ep)
  (N:Q (.ref s.heap.objs.size) {s with heap:=s.heap.push {cls:=.type "dict_keyiterator",data:=.fields #[.ref d,.int 0 0,.int es.size 0,.int ep 0]} }):wpAny (model prog w) A (pyIter (.ref d)) Q E s:=by
 have q:=G.typ;obtain⟨o,B,U,J⟩:=G;refine wpAny_pyIter_slot q PySem.F.slot_dict_iter (VL PySem.F.slot_dict_iter q PySem.F.entry_dict_iter ?_ (PySem.F.args_dict_iter_1 _));unfold VP.«dict.__iter__»;refine TF ?_;unfold Builtin.Dict.dictSlotNone;refine TF (zaz q ?_);show wpAny _ _ (pure (TV d)) _ _ s;refine TJ ?_;show wpAny _ _ (ZF d >>= _) _ _ s;unfold ZF;rw[if_neg (by rw[M];exact T3)];refine TF (TJ (TF (W6 B J (TF (XN B J ?_)))));refine TF (VE (TJ ⟨_,rfl, "dict_keyiterator",_,⟨_,UC _ rfl,rfl⟩,PySem.F.slot_dict_keyiterator_next.lookup,?_⟩));simpa[UY]using N
theorem BI(B:s.heap.IsKeyIter it d i es.size ep)(U:RawD s.heap d es ep)(Y:i<es.size)
  (N:∀h',h'.IsKeyIter it d (i+1) es.size ep->UI it s.heap h'->Q (some es[i].key) {s with heap:=h'}):wpAny (model prog w) A (U3 (.ref it)) Q E s:=by
 have q:=B.typeIs;obtain⟨o,G,W,F⟩:=id B;obtain⟨od,J,g2,M⟩:=U;unfold U3;refine TF (XO (WC (name:=WD "__next__") q ZG (VL ZG q zaH ?_ (zaI _))));refine TF (TJ (TF (TF ?_)))
 first|refine TF (ZH q (TJ ?_))|refine TF (ZI q (TJ ?_))
 refine TF (ZJ G F ?_);simp only[show YH "dict_keyiterator" = false by decide,WO,if_false];show wpAny _ _ (if(TV d == UG)=true then _ else _) _ _ s;rw[if_neg (show ¬ ((TV d == UG)=true)from T3)];refine TF (TJ (TF (W6 J M ?_)));rw[if_neg (by simp)];refine TF (TJ (TF (XN J M ?_)));rw[if_neg (by simp)];refine TJ ?_;simp only[show ¬ ((i:Int)<0)from by lia,if_false,V4,zaA Y];refine TF ?_;first|refine TF (ZH q (TJ ?_))|refine TF (ZI q (TJ ?_))
 refine TF (wpAny_isOneOf_keyiter q ?_);show wpAny _ _ (XQ (.ref it) 1 (UY ((i:Int)+1)) >>= _) _ _ s;refine TF (YI G F (by simp) ?_);have nx:(s.heap.update it (Obj.mapFields (·.setIfInBounds 1 (UY ((i:Int)+1))))).IsKeyIter it d (i+1) es.size ep:=⟨_,WM _ G (Obj.isFreed_of_fields (ZK F _)),(Obj.cls_mapFields ..).trans W,by rw[ZK F];simp[UY]⟩;refine TF (VG (TF (wpAny_isOneOf_keyiter (s:={s with heap:=s.heap.update it (Obj.mapFields (·.setIfInBounds 1 (UY ((i:Int)+1))))}) nx.typeIs ?_)));show wpAny _ _ (pure es[i].key) _ _ _;exact TJ (TJ ⟨_,rfl,TJ (N _ nx (WH ..))⟩)
theorem FG(U:A.handled=none)(B:s.heap.IsKeyIter it d i es.size ep)(W:RawD s.heap d es ep)(Y:es.size<=i)
  (N:∀h',YJ it s.heap h'->Q none {s with heap:=h'}):wpAny (model prog w) A (U3 (.ref it)) Q E s:=by
 have q:=B.typeIs;obtain⟨o,G,hc,F⟩:=id B;obtain⟨od,J,g2,M⟩:=W;unfold U3;refine TF (XO (WC (name:=WD "__next__") q ZG (VL ZG q zaH ?_ (zaI _))));refine TF (TJ (TF (TF ?_)))
 first|refine TF (ZH q (TJ ?_))|refine TF (ZI q (TJ ?_))
 refine TF (ZJ G F ?_);simp only[show YH "dict_keyiterator" = false by decide,WO,if_false];show wpAny _ _ (if(TV d == UG)=true then _ else _) _ _ s;rw[if_neg (show ¬ ((TV d == UG)=true)from T3)];refine TF (TJ (TF (W6 J M ?_)));rw[if_neg (by simp)];refine TF (TJ (TF (XN J M ?_)));rw[if_neg (by simp)];refine TJ ?_;simp only[show ¬ ((i:Int)<0)from by lia,if_false,V4,Array.getElem?_eq_none Y];refine TF ?_;first|refine TF (ZH q (TJ ?_))|refine TF (ZI q (TJ ?_))
 show wpAny _ _ (XQ (.ref it) 0 .none >>= _) _ _ s;refine TF (YI G F (by simp) ?_);show wpAny _ _ (newExc (.type "StopIteration") [] >>= _) _ _ _;refine TF ?_;simp only[newExc,newTuple];refine TF (VE ?_ (by size_fits));refine TF (m:=XR _ _) (ZL (a:=UG) (by first|rfl|(simp only[XR];rfl)) ?_)
 refine VE ?_ (by size_fits);simp only[raiseNew];refine TF (wpAny_handled ?_);rw[show A.in1.handled=none from U];refine TF (TJ (wpAny_throw ?_));refine TF (zaB (T := "StopIteration") (b:=true) ⟨_,UC _ rfl,rfl⟩ isSubtype_stop ?_);exact TJ (N _ (((WH ..).extBut.push _).push _))
def xX(h:Heap)(it d:Addr)(i n ep:Nat)(q fl:Value)(ok B:Value):Prop:=
 h.get? it=some {cls:=.type "dict_itemiterator",dict:=none,data:=.fields #[q,fl,.ref d,.int i 0,.int n 0,.int ep 0,ok,B],slots:=#[]}
def ItSt(h:Heap)(it d S:Addr)(i n ep:Nat):Prop:=
 (i=0/\∃ok q,xX h it d i n ep .none (.bool false) ok q)\/∃ok q a f B,xX h it d i n ep (UY (a:Nat)) (.bool f) ok q/\h.get? a=some B/\a≠it/\a≠S
theorem nV(F:xX s.heap it d i es.size ep own fl ok ov)(Y:RawD s.heap d es ep)(hx:i<es.size)
  (W:∀h1:Heap, xX h1 it d (i+1) es.size ep own fl ok ov -> UI it s.heap h1 ->
   wpAny (model prog w) A.in1 (ZM (.ref it) 6 es[i].key es[i].val) (λv s'=>Q (some v) s') (λ_ _=>False) {s with heap:=h1}):wpAny (model prog w) A (U3 (.ref it)) Q E s:=by
 obtain⟨od,J,g2,M⟩:=Y;have B:s.TypeIs (.ref it) "dict_itemiterator" := ⟨_,F,rfl⟩;unfold U3;refine TF (XO (WC (name:=WD "__next__") B ZN (VL ZN B zaJ ?_ (zaK _))));refine TF (TJ (TF (TF ?_)))
 first|refine TF (ZO B (TJ ?_))|refine TF (ZP B (TJ ?_))
 refine TF (ZJ F rfl ?_);simp only[show YH "dict_itemiterator" = true by decide,if_true];show wpAny _ _ (if(TV d == UG)=true then _ else _) _ _ s;rw[if_neg (show ¬ ((TV d == UG)=true)from T3)];refine TF (TJ (TF (W6 J M ?_)));rw[if_neg (by simp)];refine TF (TJ (TF (XN J M ?_)));rw[if_neg (by simp)];refine TJ ?_;simp only[show ¬ ((i:Int)<0)from by lia,if_false,V4,zaA hx];refine TF ?_;first|refine TF (ZO B (TJ ?_))|refine TF (ZP B (TJ ?_))
 refine TF (zaC B ?_);show wpAny _ _ (XQ (.ref it) 3 (UY ((i:Int)+1)) >>= _) _ _ s;refine TF (V5 F (by simp) λh1 k1 U=>?_);have N:xX h1 it d (i+1) es.size ep own fl ok ov:=by
  have e:((i+1:Nat):Int)=(i:Int)+1:=by lia
  unfold xX;rw[e];simpa[UY]using k1
 have G:Shared.TypeIs {s with heap:=h1} (.ref it) "dict_itemiterator" := ⟨_,N,rfl⟩;refine TF (VG (TF (zaC G ?_)));refine TF (zaC G ?_);show wpAny _ _ (ZM (.ref it) 6 es[i].key es[i].val) _ _ {s with heap:=h1};exact U7 (W h1 N U) (λv s' q=>TJ ⟨_,rfl,TJ q⟩) λ_ _ z=>z.elim
theorem zB(af:ItSt s.heap it d S i es.size ep)(hS:S<s.heap.objs.size)(hm:RawD s.heap d es ep)(hx:i<es.size)
  (hQ:∀h', ItSt h' it d S (i+1) es.size ep -> h'.get? s.heap.objs.size = some {cls := .type "tuple", data := .seq #[es[i].key, es[i].val]} -> h'.objs.size = s.heap.objs.size+1 ->
   (∀b o,b≠it->s.heap.get? b=some o->h'.get? b=some o)->Q (some (.ref s.heap.objs.size)) {s with heap:=h'}):wpAny (model prog w) A (U3 (.ref it)) Q E s:=by
 have J:it<s.heap.objs.size:=by
  rcases af with⟨_,ok,U,F⟩|⟨ok,U,a,f,oa,F,_⟩ <;> exact TX F
 rcases af with⟨_,ok,U,F⟩|⟨ok,U,a,f,oa,F,ha,G,an⟩
 ·refine nV F hm hx λh1 k1 k2=>?_
  have W:h1.objs.size=s.heap.objs.size:=k2.1;unfold ZM;refine TF (ZQ ?_);have N:xX (h1.push {cls:=.type "tuple",data:=.seq #[es[i].key,es[i].val]}) it d (i+1) es.size ep .none (.bool false) ok U:=T4 _ k1;have m2:(h1.push {cls:=.type "tuple",data:=.seq #[es[i].key,es[i].val]}).get? s.heap.objs.size=some {cls:=.type "tuple",data:=.seq #[es[i].key,es[i].val]}:=by rw[<- W];exact UC _ rfl
  have m3:(h1.push {cls:=.type "tuple",data:=.seq #[es[i].key,es[i].val]}).objs.size=s.heap.objs.size+1:=by rw[YK,W]
  have m4:∀b o,b≠it->s.heap.get? b=some o->(h1.push {cls:=.type "tuple",data:=.seq #[es[i].key,es[i].val]}).get? b=some o:=λb o q e=>T4 _ (k2.extBut b o q e)
  show wpAny _ _ (ZR (.ref it) >>= _) _ _ {s with heap:=h1.push {cls:=.type "tuple",data:=.seq #[es[i].key,es[i].val]} };dsimp only;rw[W];generalize h1.push {cls:=.type "tuple",data:=.seq #[es[i].key,es[i].val]}=h2 at *;refine TF ?_;unfold ZR;refine TF (U6 N rfl (x:=.none) rfl (TJ ?_));simp only[if_true];refine TF (U6 N rfl (x:=ok) rfl (TF (U6 N rfl (x:=U) rfl ?_)));refine TF (V5 N (by simp) λB e3 M=>?_);have ak:xX B it d (i+1) es.size ep .none (.bool false) es[i].key U:=e3;refine TF (V5 ak (by simp) λh4 e4 s4=>?_);have ai:xX h4 it d (i+1) es.size ep .none (.bool false) es[i].key es[i].val:=e4;refine TF (V5 ai (by simp) λh5 e5 s5=>?_);have am:xX h5 it d (i+1) es.size ep (UY (s.heap.objs.size:Nat)) (.bool false) es[i].key es[i].val:=e5;refine TF (V5 am (by simp) λY e6 s6=>?_);have aj:xX Y it d (i+1) es.size ep (UY (s.heap.objs.size:Nat)) (.bool false) es[i].key es[i].val:=e6;have ex:∀b o,b≠it->h2.get? b=some o->Y.get? b=some o:=λb o q e=>(show UI it h5 Y from s6).extBut b o q ((show UI it h4 h5 from s5).extBut b o q ((show UI it B h4 from s4).extBut b o q ((show UI it h2 B from M).extBut b o q e)))
  have sz:Y.objs.size=s.heap.objs.size+1:=by
   rw[(show UI it h5 Y from s6).1,(show UI it h4 h5 from s5).1,(show UI it B h4 from s4).1,(show UI it h2 B from M).1,m3]
  exact TF (XS (TJ (hQ Y (.inr ⟨_,_,_,false,_,aj,ex _ _ (UX J) m2,UX J,UX hS⟩) (ex _ _ (UX J) m2) sz λb o q e=>ex b o q (m4 b o q e))))
 ·refine nV F hm hx λh1 k1 k2=>?_
  have W:h1.objs.size=s.heap.objs.size:=k2.1;unfold ZM;refine TF (ZQ ?_);have N:xX (h1.push {cls:=.type "tuple",data:=.seq #[es[i].key,es[i].val]}) it d (i+1) es.size ep (UY (a:Nat)) (.bool f) ok U:=T4 _ k1;have m2:(h1.push {cls:=.type "tuple",data:=.seq #[es[i].key,es[i].val]}).get? s.heap.objs.size=some {cls:=.type "tuple",data:=.seq #[es[i].key,es[i].val]}:=by rw[<- W];exact UC _ rfl
  have m3:(h1.push {cls:=.type "tuple",data:=.seq #[es[i].key,es[i].val]}).objs.size=s.heap.objs.size+1:=by rw[YK,W]
  have m4:∀b o,b≠it->s.heap.get? b=some o->(h1.push {cls:=.type "tuple",data:=.seq #[es[i].key,es[i].val]}).get? b=some o:=λb o q e=>T4 _ (k2.extBut b o q e)
  show wpAny _ _ (ZR (.ref it) >>= _) _ _ {s with heap:=h1.push {cls:=.type "tuple",data:=.seq #[es[i].key,es[i].val]} };dsimp only;rw[W];generalize h1.push {cls:=.type "tuple",data:=.seq #[es[i].key,es[i].val]}=h2 at *;refine TF ?_;unfold ZR;refine TF (U6 N rfl (x:=UY (a:Nat)) rfl ?_);show wpAny _ _ (loadIfAlive ((a:Int).toNat) >>= _) _ _ _;rw[V4];refine TF (kdx_alive (m4 a oa G ha) ?_);simp only[Option.isNone_some,WO,if_false];refine TF (U6 N rfl (x:=.bool f) rfl ?_);have fin:∀B:Heap,xX B it d (i+1) es.size ep (UY (a:Nat)) (.bool true) ok U->UI it h2 B->Q (some (.ref s.heap.objs.size)) {s with heap:=B}:=λB e3 M=>
   hQ B (.inr ⟨_,_,a,true,oa,e3,M.extBut a oa G (m4 a oa G ha),G,an⟩) (M.extBut _ _ (UX J) m2) (by rw[M.1,m3]) λb o q e=>M.extBut b o q (m4 b o q e)
  cases f with
  | true=>
   rw[if_neg (show ¬ ((V8 true != V8 true)=true)from T3)];refine TJ ?_;simp only[WO,if_false];exact TJ (fin h2 N (Heap.SameBut.refl _ _))
  | false=>
   rw[if_pos (show(V8 false != V8 true)=true from rfl)];refine TF (V5 N (by simp) λB e3 M=>?_);refine TJ ?_;simp only[WO,if_false];exact TJ (fin B e3 M)
theorem sU(J:A.handled=none)(q:xX s.heap it d i es.size ep own fl ok ov)(N:RawD s.heap d es ep)(U:es.size<=i)
  (M:∀h',YJ it s.heap h'->Q none {s with heap:=h'}):wpAny (model prog w) A (U3 (.ref it)) Q E s:=by
 obtain⟨od,F,W,G⟩:=N;have B:s.TypeIs (.ref it) "dict_itemiterator" := ⟨_,q,rfl⟩;unfold U3;refine TF (XO (WC (name:=WD "__next__") B ZN (VL ZN B zaJ ?_ (zaK _))));refine TF (TJ (TF (TF ?_)))
 first|refine TF (ZO B (TJ ?_))|refine TF (ZP B (TJ ?_))
 refine TF (ZJ q rfl ?_);simp only[show YH "dict_itemiterator" = true by decide,if_true];show wpAny _ _ (if(TV d == UG)=true then _ else _) _ _ s;rw[if_neg (show ¬ ((TV d == UG)=true)from T3)];refine TF (TJ (TF (W6 F G ?_)));rw[if_neg (by simp)];refine TF (TJ (TF (XN F G ?_)));rw[if_neg (by simp)];refine TJ ?_;simp only[show ¬ ((i:Int)<0)from by lia,if_false,V4,Array.getElem?_eq_none U];refine TF ?_;first|refine TF (ZO B (TJ ?_))|refine TF (ZP B (TJ ?_))
 show wpAny _ _ (XQ (.ref it) 2 .none >>= _) _ _ s;refine TF (YI q rfl (by simp) ?_);show wpAny _ _ (newExc (.type "StopIteration") [] >>= _) _ _ _;refine TF ?_;simp only[newExc,newTuple];refine TF (VE ?_ (by size_fits));refine TF (m:=XR _ _) (ZL (a:=UG) (by first|rfl|(simp only[XR];rfl)) ?_)
 refine VE ?_ (by size_fits);simp only[raiseNew];refine TF (wpAny_handled ?_);rw[show A.in1.handled=none from J];refine TF (TJ (wpAny_throw ?_));refine TF (zaB (T := "StopIteration") (b:=true) ⟨_,UC _ rfl,rfl⟩ isSubtype_stop ?_);exact TJ (M _ (((WH ..).extBut.push _).push _))
theorem ItSt.keep(x:ItSt h it d S i n ep)(G:∀b o,b≠S->h.get? b=some o->h'.get? b=some o)(M:it≠S):ItSt h' it d S i n ep:=by
 rcases x with⟨e,ok,J,q⟩|⟨ok,J,a,f,U,q,N,F,B⟩
 ·exact .inl ⟨e,ok,J,G _ _ M q⟩
 ·exact .inr ⟨ok,J,a,f,U,G _ _ M q,G _ _ B N,F,B⟩
structure Made(es:Array WN)(lo:Addr)(h:Heap)(as:List Addr):Prop where
 above:∀a∈as,lo<a
 pair:∀(j:Nat) (a:Addr),as[j]?=some a->∃e,es[j]?=some e/\h.get? a=some {cls:=.type "tuple",data:=.seq #[e.key,e.val]}
end
section
variable {prog:TN}{w:World}{A:TZ}{s:TH}{R:Result->TH->Prop}{es:Array WN}{ep:Nat}
theorem yZ{S I d:Addr}(hh:A.handled=none)(al:S<I)(ao:d≠S)(aq:d≠I)(hn:es.size<=TQ)(res:Value){h0:Heap}
  (hR:∀h' tk q c as,(∀b o,b≠S->b≠I->h0.get? b=some o->h'.get? b=some o)->h'.get? S=some {cls:=.type "list",dict:=none,data:=.seq q c,slots:=#[]}->as.length=es.size->Made es I h' as->q.toList=as.map TV->R (.ok (.ret res)) {s with heap:=h',toks:=tk}) :
  ∀(k i:Nat) (h:Heap) (tk c:Nat) (q:Array Value) (as:List Addr),es.size-i=k->i<=es.size->ItSt h I d S i es.size ep->RawD h d es ep->(∀b o,b≠S->b≠I->h0.get? b=some o->h.get? b=some o)->
   h.get? S=some {cls:=.type "list",dict:=none,data:=.seq q c,slots:=#[]}->q.toList=as.map TV->as.length=i->Made es I h as->I<h.objs.size->
   VU (model prog w) A (.builtin "list.extend.loop" ⟨[.ref S,.ref I,res],[]⟩) R {s with heap:=h,toks:=tk}:=by
 have Y:S≠I:=UE al;intro k;induction k with
 | zero=>
  intro i h tk c q as hk hi aa hD B hS G W hG ac;have am:es.size<=i:=by lia
  refine XT PySem.F.entry_extend_loop ?_;rw[XU YL _];show wpAny _ A.in1 (U3 (.ref I) >>= _) _ _ _;have fin:∀h',YJ I h h'->R (.ok (.ret res)) {s with heap:=h',toks:=tk}:=λh' U=>by
   refine hR h' tk q c as (λb o h1 h2 e=>U b o h2 (B b o h1 h2 e)) (U S _ Y hS) (by lia) ⟨hG.above,λj a J=>?_⟩ G;obtain⟨e,e1,e2⟩:=hG.pair j a J;exact⟨e,e1,U a _ (UX (hG.above a (UJ J))) e2⟩
  rcases aa with⟨_,ok,ov,N⟩|⟨ok,ov,a,f,oa,N,_⟩
  ·exact TF (sU (s:={s with heap:=h,toks:=tk}) (A:=A.in1) hh N hD am λh' U=>TJ (fin h' U))
  ·exact TF (sU (s:={s with heap:=h,toks:=tk}) (A:=A.in1) hh N hD am λh' U=>TJ (fin h' U))
 | succ k ih=>
  intro i h tk c q as hk hi aa hD B hS G W hG ac;have ab:i<es.size:=by lia
  have hsz:q.size=i:=by rw[<- VF,G,T2,W]
  refine XT PySem.F.entry_extend_loop ?_;rw[XU YL _];show wpAny _ A.in1 (U3 (.ref I) >>= _) _ _ _;refine TF (zB (s:={s with heap:=h,toks:=tk}) (S:=S) aa (TX hS) hD ab λh' ai ht hz M=>?_);dsimp only at ht hz M ⊢;have af:=M S _ Y hS;have aj:S<h.objs.size:=TX hS;have up:∀b o,b≠S->h'.get? b=some o->(h'.update S (VD (·.push (TV h.objs.size)))).get? b=some o:=λb o hb e=>(WE _ _ (UH hb)).trans e
  show wpAny _ A.in1 (YM S (·.push (TV h.objs.size)) >>= _) _ _ _;refine TF (XW af rfl ?_ (by rw[hsz];lia) (by show(q.push (TV h.objs.size)).size<=TQ+1;rw[Array.size_push,hsz];lia));refine TJ ⟨WW YL _,ih (i+1) _ tk _ (q.push (TV h.objs.size)) (as++[h.objs.size]) (by lia) ab (ai.keep up (UH Y)) (hD.at' λo e=>up d o ao (M d o aq e)) (λb o h1 h2 e=>up b o h1 (M b o h2 (B b o h1 h2 e))) (WM _ af rfl) (by rw[Array.toList_push,G,VX];rfl) (by rw[VB,W];rfl) ⟨λa ha=>?_,λj b J=>?_⟩ ?_⟩
  ·rcases List.mem_append.mp ha with ha|ha
   ·exact hG.above a ha
   ·rw[List.mem_singleton.mp ha];exact ac
  ·by_cases h1:j<as.length
   ·rw[XC h1]at J
    obtain⟨e,e1,e2⟩:=hG.pair j b J;have hb:=hG.above b (UJ J);exact⟨e,e1,up b _ (UX (XH al hb)) (M b _ (UX hb) e2)⟩
   ·rw[Y1 (by lia)]at J
    have:j-as.length=0:=by
     by_cases z:j-as.length=0
     ·exact z
     ·rw[List.getElem?_eq_none (by simp only[zat];lia)]at J;cases J
    rw[this]at J;cases J;have e:j=i:=by lia
    subst e;exact⟨es[j],by simp[ab],up _ _ (UX aj) ht⟩
  ·have e:=up _ _ (UX aj) ht
   exact XH ac (TX e)
end
section
variable {prog:TN}{w:World}{A:TZ}{E:Value->TH->Prop}{s:TH}{r d:Addr}{es:Array WN}{ep:Nat}
theorem zM(B:s.heap.IsItemsView r d)(N:RawD s.heap d es ep)
  (M:Q (.ref s.heap.objs.size) {s with heap:=s.heap.push {cls:=.type "dict_itemiterator",data:=.fields #[.none,.bool false,.ref d,.int 0 0,.int es.size 0,.int ep 0,.none,.none]} }):wpAny (model prog w) A (pyIter (.ref r)) Q E s:=by
 have J:=B.typeIs;obtain⟨ov,U,Y,W⟩:=id B;obtain⟨o,q,g2,G⟩:=N;refine wpAny_pyIter_slot J zaL (VL zaL J PySem.F.entry_dict_items_iter ?_ (PySem.F.args_dict_items_iter_1 _));unfold VP.«dict_items.__iter__»;refine TF (TJ (TF ?_));unfold Builtin.Dict_items.dictOf;refine TF (U6 U W (x:=.ref d) rfl (TJ ?_));refine TF ?_;unfold Builtin.Dict_items.newIterator;refine TF (W6 q G (TF (XN q G ?_)));simp only[show YH "dict_itemiterator" = true by decide,if_true];refine VE (TJ ⟨_,rfl, "dict_itemiterator",_,⟨_,UC _ rfl,rfl⟩,PySem.F.slot_dict_itemiterator_next.lookup,?_⟩) (by simp only[sizeOk,zaM,T6,VB,UK,V1,WT];lia);simpa[UY,zaM]using M
theorem qW{R:Result->TH->Prop}(hh:A.handled=none)(hv:s.heap.IsItemsView r d)(hm:RawD s.heap d es ep)(S:Addr)(W:S≠r)(N:d≠S)(res:Value)(F:Nat)(hS:s.heap.get? S=some {cls:=.type "list",data:=.seq #[] F})
  (hR:∀h' tk B c as,(∀b o,b≠S->s.heap.get? b=some o->h'.get? b=some o)->h'.get? S=some {cls:=.type "list",dict:=none,data:=.seq B c,slots:=#[]}->as.length=es.size->Made es s.heap.objs.size h' as->B.toList=as.map TV->R (.ok (.ret res)) {s with heap:=h',toks:=tk}) (hn:es.size<=TQ) :
  wpAny (model prog w) A.in1 (zaD (.ref S) (.ref r) res)
   (λfin s'=>match fin with | .done f=>R (.ok f) s' | .again c'=>c'.quiet=true/\VU (model prog w) A c' R s') (λe s'=>R (.error e) s') s:=by
 have U:S<s.heap.objs.size:=TX hS;have af:d<s.heap.objs.size:=by
  obtain⟨o,e,_⟩:=hm;exact TX e
 have M:∀(h:Heap) (q tk:Nat),(∀b o,b≠S->(s.heap.push {cls:=.type "dict_itemiterator",data:=.fields #[.none,.bool false,.ref d,.int 0 0,.int es.size 0,.int ep 0,.none,.none]}).get? b=some o->h.get? b=some o)->
   h.get? S=some {cls:=.type "list",data:=.seq #[] q}->VU (model prog w) A (.builtin "list.extend.loop" ⟨[.ref S,.ref s.heap.objs.size,res],[]⟩) R {s with heap:=h,toks:=tk}:=by
  intro h q tk hk Y;have hI:=hk s.heap.objs.size _ (UX U) (UC _ rfl);exact yZ (es:=es) (ep:=ep) (s:=s) (h0:=s.heap) hh U N (UE af) hn res (λh' aa B c as ag ah hl hG J=>hR h' aa B c as (λb o G e=>ag b o G (UE (TX e)) e) ah hl hG J)
   es.size 0 h tk q #[] [] (Nat.sub_zero _) (UZ _) (.inl ⟨rfl,.none,.none,hI⟩) (hm.at' λo e=>hk d o N (T4 _ e)) (λb o G _ e=>hk b o G (T4 _ e)) Y rfl rfl ⟨(λ_ ha=>nomatch ha),(λj a hj=>by simp at hj)⟩ (TX hI)
 unfold zaD;refine TF (Y5 (T := "dict_items") hv.typeIs ?_);simp only[show Builtin.List.listSameRef (.ref S) (.ref r)=false by simp[Builtin.List.listSameRef,W],show(WQ "dict_items" == WQ "list")=false by decide,show(WQ "dict_items" == WQ "tuple")=false by decide,Bool.or_false,WO,if_false];refine TF (zM hv hm ?_);have p1:=T4 {cls:=.type "dict_itemiterator",data:=.fields #[.none,.bool false,.ref d,.int 0 0,.int es.size 0,.int ep 0,.none,.none]} hS;refine TF (VG (kdx_hint (let ⟨o,ho,hc,_⟩:=hv;⟨o,T4 _ ho,hc⟩) ?_));refine wpAny_ite_split (λ_=>?_) (λ_=>TJ ⟨WW YL _,M _ F _ (λb o _ e=>e) p1⟩);refine TF (XX (TF ?_));show wpAny _ _ (YM S (·.push .none) >>= λ_=>YM S (·.pop)) _ _ _;refine TF (XW p1 rfl ?_);have p2:=WM (VD (·.push UG)) p1 rfl;refine XW (hz:=by seq_fits) p2 rfl ?_;have p3:=WM (VD (·.pop)) p2 rfl;exact TJ ⟨WW YL _,M _ _ _ (λb o G e=>(WE _ _ (UH G)).trans ((WE _ _ (UH G)).trans e)) p3⟩
theorem pM(hh:A.handled=none)(hv:s.heap.IsItemsView r d)(hm:RawD s.heap d es ep)(hn:es.size<=TQ)
  (h:∀(h':Heap) (tk:Nat) (as:List Addr),(∀b o,s.heap.get? b=some o->h'.get? b=some o)->as.length=es.size->Made es s.heap.objs.size h' as->R (as.map TV) {s with heap:=h',toks:=tk}) :
  wpAny (model prog w) A (collect (.ref r)) R E s:=by
 have hr:r<s.heap.objs.size:=let ⟨_,ho,_⟩:=hv;TX ho;have hd:d<s.heap.objs.size:=let ⟨_,ho,_⟩:=hm;TX ho;unfold collect;refine TF (wpAny_runValue (XT entry_proto_collect' ?_));rw[XU PySem.F.plain_proto_collect _];show wpAny _ A.in1 (newList [] >>= λl=>again (.builtin "list.__iadd__" ⟨[l,.ref r],[]⟩)) _ _ s;refine TF (VE ?_);refine TJ ⟨WW PySem.F.plain_list_iadd _,XT entry_list_iadd' ?_⟩;rw[XU PySem.F.plain_list_iadd _];have p1:(s.heap.push {cls:=.type "list",data:=.seq ([]:List Value).toArray}).get? s.heap.objs.size=some {cls:=.type "list",data:=.seq #[]}:=UC _ rfl;show wpAny _ A.in1 (zaD (.ref s.heap.objs.size) (.ref r) (.ref s.heap.objs.size)) _ _ _;have Y:=qW (prog:=prog) (w:=w) (A:=A) (s:={s with heap:=s.heap.push {cls:=.type "list",data:=.seq ([]:List Value).toArray} }) (es:=es) (ep:=ep)
  (R:=λ(q:Result) (s':TH) => ∃(h':Heap) (tk:Nat) (B:Array Value) (W:Nat) (as:List Addr), q = .ok (.ret (.ref s.heap.objs.size)) /\ s' = {s with heap:=h', toks:=tk} /\
   (∀b o,s.heap.get? b=some o->h'.get? b=some o)/\h'.get? s.heap.objs.size=some {cls:=.type "list",dict:=none,data:=.seq B W,slots:=#[]}/\as.length=es.size/\Made es s.heap.objs.size h' as/\B.toList=as.map TV)
  hh (let ⟨o,ho,x⟩:=hv;⟨o,T4 _ ho,x⟩) (hm.at' λo e=>T4 _ e) s.heap.objs.size (UX hr) (UE hd) (.ref s.heap.objs.size) 0 p1
  (λh' tk B W as N J U M G=>⟨h',tk,B,W,as,rfl,rfl,λb o e=>N b o (UE (TX e)) (T4 _ e),J,U,⟨λa ha=>ZD (by show s.heap.objs.size<=(s.heap.push _).objs.size;rw[YK];exact Nat.le_succ _) (M.above a ha),M.pair⟩,G⟩) hn
 refine U7 Y (λfin s' x=>?_) λe s' x=>?_
 ·cases fin with
  | done f=>
   obtain⟨h',tk,B,W,as,e,rfl,N,J,U,M,G⟩:=x;cases e;show wpAny _ A (load s.heap.objs.size >>= _) _ _ _;refine TF (wpAny_load J (TJ ?_));rw[G];exact h h' tk as N U M
  | again c₁=>
   refine⟨x.1,Y0 x.2 λq ab y=>?_⟩;obtain⟨h',tk,B,W,as,e,rfl,N,J,U,M,G⟩:=y;cases e;show wpAny _ A (load s.heap.objs.size >>= _) _ _ _;refine TF (wpAny_load J (TJ ?_));rw[G];exact h h' tk as N U M
 ·obtain⟨_,_,_,_,_,z,_⟩:=x
  cases z
end
section
variable {prog:TN}{w:World}{A:TZ}{E:Value->TH->Prop}{s:TH}{a L:Addr}{vs:List Value}{m:Str->Option Value}
theorem AN(O:Ord vs.length lt)(M:s.heap.Ns L m)(Y:s.heap.get? a=some (US "list" vs.toArray n))(U:a≠L)(ad:vs.length<64)
  (aa:2 <= vs.length -> ∀h':Heap, (∀b o, b≠a -> b≠L -> s.heap.get? b = some o -> h'.get? b = some o) -> ∃κ, (∀Q':SortKind -> TH -> Prop, Q' κ {s with heap:=h'} -> wpAny (model prog w) A (keyKind' vs.toArray) Q' (λ_ _ => False) {s with heap:=h'}) /\
   ∀i j C,i<vs.length->j<vs.length->i≠j->C (lt i j) {s with heap:=h'}->kas_ask prog w A κ vs i j C {s with heap:=h'})
  (hP:∀(p:Array Nat) (h':Heap) (c:Nat), PermR vs.length p -> dD lt p vs.length -> h'.get? a = some (US "list" (YG (p.toList.map λi => vs.getD i UG)) c) ->
   (∀b o,b≠a->b≠L->s.heap.get? b=some o->h'.get? b=some o)->h'.Ns L m->P (.done (.ret .none)) {s with heap:=h'}) :
  wpAny (model prog w) A (VP.«list.sort» ⟨[.ref a],[]⟩) P E s:=by
 by_cases h2:2<=vs.length
 ·have N:News (Att.qI s.heap) L s.heap (Att.ledger s.heap L a):=λ⟨b,o⟩ B=>⟨(Att.cC.mp B).2.2,(Att.cC.mp B).1,Att.gI _ _⟩
  refine kat_list_sort (Att.K5 M) N Y U (Att.gI _ _) (λ⟨b,o⟩ B=>(Att.cC.mp B).2.1) h2 ad λW h' F' N'=>?_
  have keep:∀b o,b≠a->b≠L->s.heap.get? b=some o->h'.get? b=some o:=λb o q hL e=>(N' (b,o) (UN _ (Att.cC.mpr ⟨hL,q,e⟩))).1
  obtain⟨κ,k1,k2⟩:=aa h2 h' keep;refine k1 _ (w8 k2 _ (EO O (by lia) λp B hs=>?_));refine KasFin.intro F' N' (.head λ⟨b,o⟩ q=>(Att.cC.mp q).2.1) λaf c ac F=>?_
  exact hP p af c B hs (F _ (UW ..)).1 (λb o q hL e=>(F (b,o) (UN _ (Att.cC.mpr ⟨hL,q,e⟩))).1) ac.ns
 ·have G:vs.toArray.size<2:=by rw[T6];lia
  rw[list_sort_plain];obtain⟨W,J⟩:∃W,(s.heap.update a (VD λ_=>(#[]:Array Value))).get? a=some (US "list" #[] W):=⟨_,get?_update_seq Y λ_=>#[]⟩;refine TF (listItems_at Y rfl (TF (listUpdate_at Y rfl ?_ (by rw[T6,WT];lia) (UZ _))));refine TF (seqEpoch_at J rfl (TF (ZQ ?_ (by show vs.length<=_;rw[WT];lia))));refine TF (wpAny_newList ?_ (UZ _));refine VG ?_;show wpAny (model prog w) A _ P E {s with heap:=((s.heap.update a (VD λ_=>(#[]:Array Value))).push (US "tuple" vs.toArray 0)).push (US "list" #[] 0)};dsimp only;rw[if_pos G,if_pos G];have g1:(((s.heap.update a (VD λ_=>(#[]:Array Value))).push (US "tuple" vs.toArray 0)).push (US "list" #[] 0)).get? a=some (US "list" #[] W):=T4 _ (T4 _ J);refine TF (TJ ?_);rw[StateT.run_pure];refine TF (TJ ?_);dsimp only;refine TF (seqEpoch_at g1 rfl (TF (listUpdate_at g1 rfl ?_ (UZ _) ?_)))
  ·simp only[bne_self_eq_false,WO,if_false]
   have s1:=WH s.heap a (VD λ_=>(#[]:Array Value));have s2:=WH (((s.heap.update a (VD λ_=>(#[]:Array Value))).push (US "tuple" vs.toArray 0)).push (US "list" #[] 0)) a (VD λ_=>(arrOf (SortSt.mk' general' (vs.toArray.zip vs.toArray) #[] 7 none)).map (·.2));have keep:∀b o,b≠a->s.heap.get? b=some o->_:=λb o q e=>s2.extBut b o q (T4 (US "list" #[] 0) (T4 (US "tuple" vs.toArray 0) (s1.extBut b o q e)))
   have eo:(arrOf (SortSt.mk' general' (vs.toArray.zip vs.toArray) #[] 7 none)).map (·.2)=YG ((YG (UU vs.length)).toList.map λi=>vs.getD i UG):=by
    show((vs.toArray.zip vs.toArray).map (·.2))=_;apply Array.toList_inj.mp;rw[Array.toList_map,Array.toList_zip];show(vs.zip vs).map (·.2)=(UU vs.length).map λi=>vs.getD i UG
    apply ZE
    ·simp
    ·intro i h5 h6
     have:i<vs.length:=by simpa using h6
     simp[this]
   obtain⟨c,hc⟩:∃c,((((s.heap.update a (VD λ_=>(#[]:Array Value))).push (US "tuple" vs.toArray 0)).push (US "list" #[] 0)).update a (VD λ_=>(arrOf (SortSt.mk' general' (vs.toArray.zip vs.toArray) #[] 7 none)).map (·.2))).get? a=some (US "list" ((arrOf (SortSt.mk' general' (vs.toArray.zip vs.toArray) #[] 7 none)).map (·.2)) c):=⟨_,get?_update_seq g1 _⟩;exact TJ (hP (YG (UU vs.length)) _ c (Array.Perm.refl _) (λi j h1 h3=>absurd h3 (by lia)) (by rw[<- eo];exact hc) (λb o q _ e=>keep b o q e) (M.at' λo e=>keep L o (UH U) e))
  ·rw[Array.size_map]
   show(vs.toArray.zip vs.toArray).size<=_;rw[WT];simp
   lia
end
end My
namespace My
open PySem PySem.Spec PyProof.Rows PySem.W PySem.SeqAt
theorem pX:∀ns:List Int,HT.lexLt ns ns=false
 | []=>rfl
 | x::xs=>by rw[HT.bW,if_pos rfl];exact pX xs
theorem qN:∀a b c:List Int,HT.lexLt a b=true->HT.lexLt b c=true->HT.lexLt a c=true
 | [],[],c,h,_=>by cases h
 | [],_::_,[],_,h=>by cases h
 | [],_::_,_::_,_,_=>rfl
 | _::_,[],_,h,_=>by cases h
 | _::_,_::_,[],_,h=>by cases h
 | x::xs,y::ys,z::zs,h1,h2=>by
  rw[HT.bW]at h1 h2 ⊢;by_cases F:x=y
  ·by_cases B:y=z
   ·rw[if_pos F]at h1;rw[if_pos B]at h2;rw[if_pos (F.trans B)];exact qN xs ys zs h1 h2
   ·rw[if_neg B]at h2;rw[if_neg (λq=>B (F.symm.trans q)),F];exact h2
  ·rw[if_neg F]at h1
   have h1:=of_decide_eq_true h1;by_cases B:y=z
   ·rw[if_neg (λq=>F (q.trans B.symm))];exact decide_eq_true (by lia)
   ·rw[if_neg B]at h2
    have h2:=of_decide_eq_true h2;rw[if_neg (by lia)];exact decide_eq_true (by lia)
theorem fL:∀a b:List Int,a≠b->HT.lexLt a b=true\/HT.lexLt b a=true
 | [],[],h=>absurd rfl h
 | [],_::_,_=>.inl rfl
 | _::_,[],_=>.inr rfl
 | x::xs,y::ys,h=>by
  rw[HT.bW,HT.bW];by_cases e:x=y
  ·rw[if_pos e,if_pos e.symm]
   exact fL xs ys λq=>h (by rw[e,q])
  ·rw[if_neg e,if_neg (λq=>e q.symm)]
   rcases Int.lt_or_gt_of_ne e with q|q
   ·exact .inl (decide_eq_true q)
   ·exact .inr (decide_eq_true q)
def M4(ks:List (List Int))(i j:Nat):Bool:=HT.lexLt (ks.getD i []) (ks.getD j [])
theorem BE(F:ks.Nodup):Ord ks.length (M4 ks) where
 irr:=λi _=>pX _
 tr:=λi j k _ _ _ h1 h2=>qN _ _ _ h1 h2
 tot:=λi j hi B q=>fL _ _ λe=>q (by
  have J:ks.getD i []=ks[i]:=by simp[hi]
  have G:ks.getD j []=ks[j]:=by simp[B]
  rw[J,G]at e;exact(X3 F).mp e)
section
variable {prog:TN}{w:World}{A:TZ}{E:Value->TH->Prop}{s:TH}
def TupI(h:Heap)(a:Addr)(ns:List Int):Prop:=∃q:List Value,IsTup h a q.toArray/\UB q ns
theorem TupI.at'(x:TupI h a ns)(k:∀o,h.get? a=some o->h'.get? a=some o):TupI h' a ns:=by
 obtain⟨q,⟨o,e,c⟩,i⟩:=x;exact⟨q,⟨o,k o e,c⟩,i⟩
theorem E8(hx:TupI s.heap x ns)(hy:TupI s.heap y ms)(B:ns≠ms)(hu:A.units<cLine):EqAt A s (.ref x) (.ref y) false:=by
 obtain⟨q,tx,N⟩:=hx;obtain⟨vs,ty,U⟩:=hy;have ne:x≠y:=λe=>by
  subst e;obtain⟨o,J,c1,n,d1⟩:=tx;obtain⟨o',F,c2,n',Y⟩:=ty;rw[J]at F;cases F;rw[d1]at Y;injection Y with d3 _
  have:q=vs:=by simpa using congrArg Array.toList d3
  subst this;have:∀ {q:List Value} {a b:List Int},UB q a->UB q b->a=b:=by
   intro q a b h1;induction h1 generalizing b with
   | nil=>intro h2;cases h2;rfl
   | cons n t _ ih=>intro h2;cases h2 with|cons _ _ r=>rw[ih r]
  exact B (this N U)
 have he:∀j (h1:j<q.toArray.size) (h2:j<vs.toArray.size),EqAt A.in1 s q.toArray[j] vs.toArray[j] (decide (ns.getD j 0=ms.getD j 0)):=by
  intro j h1 h2;have g:∀ {q:List Value} {ns:List Int} {j:Nat} (_:UB q ns) (h:j<q.length),∃t,q[j]=.int (ns.getD j 0) t:=by
   intro q ns j r;induction r generalizing j with
   | nil=>intro h;cases h
   | cons n t r ih=>
    intro h;cases j with
    | zero=>exact⟨t,rfl⟩
    | succ j=>
     obtain⟨t',e⟩:=ih (j:=j) (by simpa using h);exact⟨t',by simpa using e⟩
  obtain⟨t,J⟩:=g N (j:=j) (by simpa using h1);obtain⟨t',F⟩:=g U (j:=j) (by simpa using h2);have M:q.toArray[j]=q[j]'(by simpa using h1):=by simp
  have G:vs.toArray[j]=vs[j]'(by simpa using h2):=by simp
  rw[M,G,J,F];exact EqAt.to (EqAt.int_int _ _ _ _) (by simp[zay])
 refine EqAt.to (EqAt.of_refs ne (RcAt.tuples tx ty hu he)) ?_;have M:q.toArray.size=ns.length:=by rw[T6];exact N.length
 have G:vs.toArray.size=ms.length:=by rw[T6];exact U.length
 rw[M,G,Bool.eq_false_iff];intro z;rw[UR]at z;obtain⟨W,z2⟩:=z;have hl:ns.length=ms.length:=by simpa using z2
 rw[YF]at W;refine B (ZE hl λj h1 h2=>?_);have:=of_decide_eq_true (W j (List.mem_range.mpr (by lia)));simpa[h1,h2]using this
def xO(h:Heap)(p a:Addr)(v:Value)(ns:List Int):Prop:=IsTup h p #[.ref a,v]/\TupI h a ns
theorem y9(N:xO s.heap p a u ns)(hy:xO s.heap q b v ms)(B:ns≠ms)(F:A.units<cLine)(h:Q (HT.lexLt ns ms) s) :
  wpAny (model prog w) A (keyLt' (tuples' false) (.ref p) (.ref q)) Q E s:=by
 obtain⟨⟨ox,W,x2,n,x3⟩,tx⟩:=N;obtain⟨⟨oy,J,y2,m,y3⟩,ty⟩:=hy;refine kat_lt W x3 J y3 ?_;refine kat_cons (E8 tx ty B F prog w _ _ (kat_no ?_));obtain⟨us,G,M⟩:=tx;obtain⟨ws,Y,U⟩:=ty;exact kat_one _ _ (HT.k7 G Y M U F h)
end
end My
namespace My
open PySem PySem.Spec PyProof.Rows L2 PySem.SeqAt
theorem obj_some(x:ObjOk P w H h a o):∃q,h.get? a=some q:=by
 cases o with
 | lst xs=>obtain⟨_,_,_,_,e⟩:=x;exact⟨_,e⟩
 | tup xs=>obtain⟨_,_,_,q,e,_⟩:=x;exact⟨q,e⟩
 | dK kvs=>obtain⟨_,_,_,_,q,_,_,e,_⟩:=x;exact⟨q,e⟩
 | dT kvs=>obtain⟨_,_,_,_,q,_,_,e,_⟩:=x;exact⟨q,e⟩
 | set S n=>obtain⟨q,_,_,_,e,_⟩:=x;exact⟨q,e⟩
 | ins C dx fs=>obtain⟨_,_,_,e,_⟩:=x;exact⟨_,e⟩
 | own y=>exact x
 | xd fs=>obtain⟨_,⟨q,_,_,e,_⟩,_⟩:=x;exact⟨q,e⟩
 | rng lo hi=>obtain⟨_,_,_,e⟩:=x;exact⟨_,e⟩
 | frz q u=>obtain⟨e,_⟩:=x;exact⟨_,e⟩
 | tbl ps=>exact⟨_,(show h.get? a=some _ from x)⟩
 | met f y=>exact⟨_,(show h.get? a=some _ from x)⟩
 | ext φ=>exact x.2.1
theorem B4(I:Inv X pins σ H s)(keep:∀b o,b≠X.env.locals->s.heap.get? b=some o->h'.get? b=some o)(ns:∀m,s.heap.Ns X.env.locals m->h'.Ns X.env.locals m)
  (same:∀b o,s.heap.get? b=some o->H' b=H b) (new:∀b o,H b=none->H' b=some o->ObjOk X.prog X.w H' h' b o):Inv X pins σ H' {s with heap:=h',toks:=t'}:=by
 have nl:∀b o,H b=some o->b≠X.env.locals:=λb o e z=>by rw[z,I.free]at e;cases e
 have B:∀b o,H b=some o->H' b=some o:=λb o e=>by
  obtain⟨M,q⟩:=obj_some (I.hok b o e);rw[same b M q];exact e
 refine I.step (g':=s.gens) (d':=s.drawn) (ch:=[]) (λ_ z=>nomatch z) (λb o F _ _ e _=>keep b o F e) (λb o F _ _ e _=>⟨o.slots,keep b o F e⟩) (λb o _ e n=>by rw[same b o e];exact n) (λb o _ e=>?_)
  (λb xs e=>B b _ e) (λb o u e=>B b _ e) (λb ps e=>⟨#[],by rw[B b _ e];simp⟩) ns (λb u e=>?_) I.bare
 ·by_cases G:b=X.env.locals
  ·obtain⟨m,N,_⟩:=I.loc
   obtain⟨o',_,_,U,_⟩:=ns m N;exact⟨o',by rw[G];exact U⟩
  ·exact⟨o,keep b o G e⟩
 ·cases e0:H b with
  | some v=>
   have:v=u:=by
    have:=B b v e0;rw[e]at this;exact(UL this).symm
   subst this;refine(I.hok b v e0).stay (λc v J q=>keep c v ?_ q) (λc q=>B c _ q) λc xs q=>B c _ q
   rcases J with z|z
   ·rw[z];exact nl b _ e0
   ·exact nl c _ z
  | none=>exact new b u e0 e
def kI(p:List Int×V):List Key×V:=(p.1.map T9,p.2)
theorem FO(ns:List Int):(ns.map (T9:Int->Key)).map kV=ns.map V.int:=by
 rw[VM];rfl
def qJ(q:List (List Int×V)):Prop:=q.Pairwise λa b=>HT.lexLt a.1 b.1=true
theorem rJ:∀ {ns:List Int} {us:List Value},Vals (ns.map V.int) us->UB us ns:=λr=>L2.intsAre_of r
theorem DC{X:Cx}{pins:List (Addr×Obj)}{σ:L2.St}{H:Hp}{s:TH}{d:Addr}{ps:List (List Int×V)}(I:Inv X pins σ H s)(N:Rd H d (.dT (ps.map kI))) :
  ps.length<=TQ/\(d == VC)=false/\(ps.map (·.1)).Nodup/\∃es ep,RawD s.heap d es ep/\es.size=ps.length/\∀(j:Nat) (p:List Int×V),ps[j]?=some p->∃(e:WN) (b:Addr),es[j]?=some e/\e.key=.ref b/\H b=some (.tup (p.1.map V.int))/\RelV p.2 e.val:=by
 obtain⟨z,y,xs,r,o,es,ep,h1,h2,M,J,F⟩:=(show ObjOk X.prog X.w H s.heap d (.dT (ps.map kI))from N.ok I.hok);have hl:xs.length=ps.length:=by rw[<- W0 r,T2]
 have G:es.size=ps.length:=by
  have:=congrArg V0 J;rw[VF,T2]at this
  lia
 have get:∀ {ps:List (List Int×V)} {xs:List (List Key×Addr×Value)},U2 (λ(p:List Key×V) (q:List Key×Addr×Value)=>p.1=q.1/\H q.2.1=some (.tup (p.1.map kV))/\RelV p.2 q.2.2) (ps.map kI) xs->
   ∀(j:Nat) (p:List Int×V),ps[j]?=some p->∃q,xs[j]?=some q/\(kI p).1=q.1/\H q.2.1=some (.tup ((kI p).1.map kV))/\RelV p.2 q.2.2:=by
  intro ps;induction ps with
  | nil=>intro xs r j p e;simp at e
  | cons p0 ps ih=>
   intro xs r j p e;rw[T1]at r;cases r with
   | cons h t=>
    cases j with
    | zero=>simp at e;subst e;exact⟨_,rfl,h⟩
    | succ j=>exact ih t j p (by simpa using e)
 have B:∀ {ps:List (List Int×V)} {xs:List (List Key×Addr×Value)},U2 (λ(p:List Key×V) (q:List Key×Addr×Value)=>p.1=q.1/\H q.2.1=some (.tup (p.1.map kV))/\RelV p.2 q.2.2) (ps.map kI) xs->
   xs.map (·.1)=ps.map λp=>p.1.map T9:=by
  intro ps;induction ps with
  | nil=>intro xs r;rw[W2]at r;cases r;rfl
  | cons p0 ps ih=>
   intro xs r;rw[T1]at r;cases r with
   | cons h t=>rw[T1,T1,ih t,<- h.1];rfl
 refine⟨by rw[T2]at z;exact z,y,?_,es,ep,⟨o,h1,h2,M⟩,G,λj p e=>?_⟩
 ·rw[B r]at F
  have:(ps.map λp=>p.1.map (T9:Int->Key))=(ps.map (·.1)).map λns=>ns.map T9:=by rw[VM];rfl
  rw[this]at F;exact List.Pairwise.of_map _ (λa b h e=>h (by rw[e])) F
 ·obtain⟨q,e1,e2,W,Y⟩:=get r j p e
  have U:es[j]?=some (entryOfKey (VY (a8 X.prog X.w)) q):=by
   rw[<- YN,J,UA,e1];rfl
  exact⟨_,q.2.1,U,rfl,by rw[W];show some (HO.tup (((p.1.map T9):List Key).map kV))=_;rw[FO],Y⟩
theorem E5(I:Inv X pins σ H s)(h:H b=some (.tup (ns.map V.int))):TupI s.heap b ns:=by
 obtain⟨q,r,t,_⟩:=I.tuple (SqT.of h);exact⟨q,t,rJ r⟩
theorem rH(F:PermR ps.length p)(hs:dD (M4 (ps.map (·.1))) p ps.length) :
  (p.toList.map λi=>ps.getD i ([],.non)).Perm ps/\qJ (p.toList.map λi=>ps.getD i ([],.non)):=by
 have M:(UU ps.length).map (λi=>ps.getD i ([],.non))=ps:=by
  apply ZE
  ·simp
  ·intro i h1 h2
   simp[h2]
 constructor
 ·have:=(Array.perm_iff_toList_perm.mp F).map λi=>ps.getD i (([],.non):List Int×V)
  rw[M]at this;exact this
 ·unfold qJ
  rw[List.pairwise_map];rw[List.pairwise_iff_getElem];intro i j hi G B;have hsz:=F.size;rw[VF]at hi G;have h1:=hs i j B (by lia);have g:∀k (q:k<p.size),p.getD k 0=p.toList[k]'(by rw[VF];exact q):=λk q=>by simp[XM,q]
  rw[g i hi,g j G]at h1;have J:∀k,(ps.map (·.1)).getD k []=(ps.getD k ([],.non)).1:=λk=>by
   by_cases h:k<ps.length
   ·simp[h]
   ·simp[Nat.le_of_not_lt h]
  unfold M4 at h1;rw[J,J]at h1;exact h1
end My
namespace My
open PySem PySem.Spec PyProof.Rows L2 PySem.SeqAt PySem.W
theorem dU{q B F:Type}{R:B->F->Prop}{f:q->B}{g:q->F}:∀(l:List q),(∀i∈l,R (f i) (g i))->U2 R (l.map f) (l.map g)
 | [],_=>.nil
 | i::l,h=>.cons (h i (UW ..)) (dU l λj G=>h j (UN _ G))
theorem jU{F B:Type}{f:B->Value}{R:B->F->Prop}:∀(ps:List F) (vs:List Value),vs.length=ps.length->(∀(j:Nat) (p:F),ps[j]?=some p->∃b,vs[j]?=some (f b)/\R b p)->∃bs:List B,vs=bs.map f/\U2 R bs ps
 | [],[],_,_=>⟨[],rfl,.nil⟩
 | [],_::_,h,_=>by cases h
 | _::_,[],h,_=>by cases h
 | p::ps,v::vs,hl,h=>by
  obtain⟨b,e,r⟩:=h 0 p rfl;obtain⟨bs,G,M⟩:=jU ps vs (by simpa using hl) λj q J=>h (j+1) q (by simpa using J)
  have:v=f b:=by simpa using e
  exact⟨b::bs,by rw[T1,<- G,this],.cons r M⟩
theorem kN{B q:Type}{R:B->q->Prop}:∀ {as:List B} {bs:List q},U2 R as bs->∀(j:Nat) (b:q),bs[j]?=some b->∃a,as[j]?=some a/\R a b
 | _,_,.nil,j,b,e=>by simp at e
 | _,_,.cons h t,0,b,e=>by simp at e;subst e;exact⟨_,rfl,h⟩
 | _,_,.cons h t,j+1,b,e=>kN t j b (by simpa using e)
section
variable {X:Cx}
def wA(el:Hp->V->List Int×V->Prop)(H:Hp)(ps:List (List Int×V))(Q:VK):Prop:=
 ∀(l:Addr) (us:List V) (qs:List (List Int×V)) (H2:Hp),Same H H2->H l=none->H2 l=some (.lst us)->U2 (el H2) us qs->qs.Perm ps->qJ qs->Q (.ref l) H2
def R0:Hp->V->List Int×V->Prop:=λH u q=>∃a b,u=.ref a/\H a=some (.tup [.ref b,q.2])/\H b=some (.tup (q.1.map V.int))
theorem yE{pins:List (Addr×Obj)}{σ:L2.St}{H H1:Hp}{s:TH}{h1:Heap}{tk:Nat}{A:TZ}{E:Value->TH->Prop}{Q:VK}{ps:List (List Int×V)}{as:List Addr}{el:Hp->V->List Int×V->Prop}{P:PySem.Fin->TH->Prop}
  (I:Inv X pins σ H s) (B:∀b o,s.heap.get? b=some o->h1.get? b=some o) (an:ps.length<64) (hn:(ps.map (·.1)).Nodup) (hl:as.length=ps.length)
  (G:∀b o,s.heap.get? b=some o->H1 b=H b) (M:∀b o,H1 b=some o->b<h1.objs.size)
  (W:∀(b:Addr) (o:HO),H b=none->H1 b=some o->∀(h':Heap) (H':Hp),(∀c u,c≠h1.objs.size->c≠X.env.locals->h1.get? c=some u->h'.get? c=some u)->ObjOk X.prog X.w H' h' b o)
  (ap:∀(j:Nat) (p:List Int×V) (a:Addr),ps[j]?=some p->as[j]?=some a->∀H',Same H1 H'->el H' (.ref a) p)
  (ad:2 <= ps.length -> ∀h':Heap, (∀b o, b≠h1.objs.size -> b≠X.env.locals -> h1.get? b = some o -> h'.get? b = some o) -> ∃κ, (∀Q':SortKind -> TH -> Prop, Q' κ {s with heap:=h', toks:=tk} -> wpAny (model X.prog X.w) A (keyKind' (as.map TV).toArray) Q' (λ_ _ => False) {s with heap:=h', toks:=tk}) /\
   ∀i j C,i<ps.length->j<ps.length->i≠j->C (M4 (ps.map (·.1)) i j) {s with heap:=h',toks:=tk}->kas_ask X.prog X.w A κ (as.map TV) i j C {s with heap:=h',toks:=tk})
  (q:wA el H ps Q) (hP:∀s',EP X pins σ Q (.ref h1.objs.size) s'->P (.done (.ret .none)) s') :
  wpAny (model X.prog X.w) A (VP.«list.sort» ⟨[.ref h1.objs.size],[]⟩) P E {s with heap:=h1.push (US "list" (as.map TV).toArray 0),toks:=tk}:=by
 obtain⟨m,N,_⟩:=id I.loc;have F:(as.map TV).length=ps.length:=by rw[T2,hl]
 have al:X.env.locals<h1.objs.size:=by
  obtain⟨o,_,_,e,_⟩:=id N;exact TX (B _ o e)
 have aq:(h1.push (US "list" (as.map TV).toArray 0)).Ns X.env.locals m:=N.at' λo e=>T4 _ (B _ o e)
 have O:Ord (as.map TV).length (M4 (ps.map (·.1))):=by
  rw[F,<- T2 (f:=(·.1)) (as:=ps)];exact BE hn
 have Y:H h1.objs.size=none:=by
  cases e:H h1.objs.size with
  | none=>rfl
  | some o=>
   obtain⟨ob,z⟩:=obj_some (I.hok _ o e);exact absurd (TX (B _ ob z)) (VN _)
 have aa:H1 h1.objs.size=none:=by
  cases e:H1 h1.objs.size with
  | none=>rfl
  | some o=>exact absurd (M _ o e) (VN _)
 refine AN (lt:=M4 (ps.map (·.1))) (n:=0) (L:=X.env.locals) (m:=m) (s:={s with heap:=h1.push (US "list" (as.map TV).toArray 0),toks:=tk}) O aq (UC _ rfl) (UX al) (by rw[F];exact an) (λh2 h' k=>?_) λp h' c hp hs af U aj=>?_
 ·rw[F]at h2
  obtain⟨κ,k1,k2⟩:=ad h2 h' λb o hb hL e=>k b o hb hL (T4 _ e)
  exact⟨κ,k1,λi j C hi hj=>k2 i j C (by rw[F]at hi;exact hi) (by rw[F]at hj;exact hj)⟩
 ·rw[F]at hp hs
  obtain⟨g1,g2⟩:=rH hp hs;have J:∀c u,c≠h1.objs.size->c≠X.env.locals->h1.get? c=some u->h'.get? c=some u:=λc u ak ag e=>U c u ak ag (T4 _ e)
  have lt:∀i∈p.toList,i<ps.length:=λi hi=>by
   have:=(Array.perm_iff_toList_perm.mp hp).mem_iff.mp hi;simpa using this
  have ga:∀i,i<ps.length->as[i]?=some (as.getD i 0)/\ps[i]?=some (ps.getD i ([],.non))/\(as.map TV).getD i UG=.ref (as.getD i 0):=λi hi=>by
   have h1:i<as.length:=by lia
   refine⟨by simp[h1],by simp[hi],by simp[h1]⟩
  have am:Same H (upd H1 h1.objs.size (.lst (p.toList.map λi=>V.ref (as.getD i 0)))):=λb o e=>by
   obtain⟨ob,z⟩:=obj_some (I.hok b o e);rw[aC (a6 e Y),G b ob z];exact e
  have ae:Same H1 (upd H1 h1.objs.size (.lst (p.toList.map λi=>V.ref (as.getD i 0)))):=sN aa;have I2:Inv X pins σ (upd H1 h1.objs.size (.lst (p.toList.map λi=>V.ref (as.getD i 0)))) {s with heap:=h',toks:=tk}:=by
   refine B4 I (λb o hL e=>J b o (λz=>absurd (TX (B b o e)) (by rw[z];exact VN _)) hL (B b o e)) (λm' ai=>?_) (λb o e=>?_) (λb o n e=>?_)
   ·obtain⟨o1,bc,a5,e1,d1,r1⟩:=N
    obtain⟨o2,bj,bm,e2,d2,r2⟩:=ai;rw[e1]at e2;cases e2;rw[d1]at d2;injection d2 with d3 d4
    subst d3 d4;have:m=m':=funext λx=>by rw[<- r1.2 x,<- r2.2 x]
    rw[<- this];exact aj
   ·rw[aC (λz=>absurd (TX (B b o e)) (by rw[z];exact VN _))]
    exact G b o e
   ·by_cases hb:b=h1.objs.size
    ·subst hb
     rw[aJ]at e;cases e;refine⟨?_,_,c,?_,af⟩
     ·rw[T2,VF,hp.size,WT]
      lia
     ·show Vals _ (p.toList.map λi=>(as.map TV).getD i UG)
      exact dU p.toList λi hi=>by
       show(as.map TV).getD i UG=TV (as.getD i 0);exact(ga i (lt i hi)).2.2
    ·rw[aC hb]at e
     exact W b o n e h' _ J
  refine hP _ ⟨.ref h1.objs.size,_,I2,rfl,q _ _ _ _ am Y aJ (dU p.toList λi hi=>?_) g1 g2⟩;obtain⟨a1,a2,_⟩:=ga i (lt i hi);exact ap i _ _ a2 a1 _ ae
theorem JA{A:TZ}{κ:SortKind}{as:List Addr}{i j:Nat}{C:Bool->TH->Prop}{s:TH}(hi:i<as.length)(q:j<as.length)(h:wpAny (model X.prog X.w) A (keyLt' κ (.ref (as.getD i 0)) (.ref (as.getD j 0))) C (λ_ _=>False) s):kas_ask X.prog X.w A κ (as.map TV) i j C s:=by
 unfold kas_ask;have F:(as.map TV).getD i UG=.ref (as.getD i 0):=by simp[hi]
 have B:(as.map TV).getD j UG=.ref (as.getD j 0):=by simp[q]
 rw[F,B];exact h
theorem kM:∀ {as:List Addr} {fs:List Value},U2 (λa f=>∃q:List Value,IsTup h a q.toArray/\q[0]?=some f) as fs->KatTups h (as.map TV) fs
 | _,_,.nil=>.nil
 | _,_,.cons ⟨q,⟨o,e,c,n,d⟩,z⟩ t=>KatTups.cons e c d (by simpa using z) (kM t)
def CC:V->List V->Hp->VK->Prop:=λx vs H Q=>∃d kvs,x=.ref d/\vs=[]/\Rd H d (.dT kvs)/\∀r,H r=none->Q (.ref r) (upd H r (.ext λh=>h.IsItemsView r d))
theorem B5:QC X "dict.items" CC:=by
 intro pins s σ H x vs v us Q I N M h;obtain⟨d,kvs,rfl,rfl,J,q⟩:=h;cases N;have B:=M.zero;subst B;obtain⟨z,y,xs,r,o,es,ep,h1,h2,h3,_⟩:=(show ObjOk X.prog X.w H s.heap d (.dT kvs)from J.ok I.hok);have G:s.TypeIs (.ref d) "dict" := ⟨o,h1,h2.1⟩;refine VL PySem.F.slot_dict_items G PySem.F.entry_dict_items ?_ (PySem.F.args_dict_items_1 _);unfold VP.«dict.items»;refine TF ?_;unfold Builtin.Dict.noArgs;refine TF (zaz G ?_);show wpAny _ _ (pure d) _ _ s;refine TJ ?_;show wpAny _ _ (ZF d >>= _) _ _ s;unfold ZF;rw[if_neg (by rw[y];exact T3)];refine TF (TJ (TF (VE (TJ ⟨_,rfl,?_⟩))));have U:H s.heap.objs.size=none:=I.fresh;refine⟨.ref s.heap.objs.size,_,I.laid (t':=s.toks) (o:=.ext λh=>h.IsItemsView s.heap.objs.size d) (λ_ _ q=>T4 _ q) (T5 _) ⟨⟨_,UC _ rfl,rfl,rfl⟩,⟨_,UC _ rfl⟩,λa b ⟨o,Y,W⟩ k=>⟨o,k o Y,W⟩⟩,rfl,q _ U⟩
def zZ(H:Hp)(as:List Addr)(ds:List (List V)):Hp:=λb=>match as.findIdx? (λa=>decide (a=b))with
 | some j=>some (.tup (ds.getD j []))
 | none=>H b
theorem iK(h:¬ b∈as):zZ H as ds b=H b:=by
 unfold zZ;have:as.findIdx? (λa=>decide (a=b))=none:=by
  rw[List.findIdx?_eq_none_iff];intro a q;exact decide_eq_false λe=>h (e ▸ q)
 rw[this]
theorem wO(h:b∈as):∃j,as[j]?=some b/\zZ H as ds b=some (.tup (ds.getD j [])):=by
 unfold zZ;cases e:as.findIdx? (λa=>decide (a=b))with
 | none=>
  rw[List.findIdx?_eq_none_iff]at e;have:=e b h;simp at this
 | some j=>
  rw[List.findIdx?_eq_some_iff_getElem]at e;obtain⟨h1,h2,_⟩:=e;exact⟨j,by rw[U8 h1,of_decide_eq_true h2],rfl⟩
theorem pO(hc:X.calm=true)(hu:X.A.units+64<cLine):CallR X (.builtin "sorted") (λxs H Q=>∃r d ps,xs=[.ref r]/\H r=some (.ext λh=>h.IsItemsView r d)/\Rd H d (.dT (ps.map kI))/\ps.length<64/\wA R0 H ps Q):=by
 intro pins s σ H xs us Q I rr h;obtain⟨r,d,ps,rfl,hr,hd,a0,q⟩:=h;obtain⟨u,rfl,ru⟩:=vals1 rr;cases ru;obtain⟨hz,bx,an,es,ep,bi,am,aj⟩:=DC I hd;have hv:s.heap.IsItemsView r d:=(I.hok r _ hr).1;have nL:∀ {b:Addr} {o:HO},H b=some o->b≠X.env.locals:=λe z=>by rw[z,I.free]at e;cases e
 refine Calls.call_function_entry kind_sorted plain_sorted entry_sorted (args_sorted1 _) ?_;unfold VP.«sorted»;refine TF (m:=checkCount "sorted" 1 1 _) (TJ (TF (pM (I.ok.hd hc) hv bi (by rw[am];exact hz) λh1 tk as G a4 ad=>?_)));have B:as.length=ps.length:=by rw[a4,am]
 obtain⟨bs,ba,aw⟩:=jU (f:=TV) (R:=λb (p:List Int×V)=>H b=some (.tup (p.1.map V.int))) ps (es.toList.map (·.key)) (by rw[T2,VF,am]) λj p hp=>by
  obtain⟨e,b,e1,U,e3,_⟩:=aj j p hp;exact⟨b,by rw[UA,YN,e1];exact congrArg some U,e3⟩
 have al:bs.length=ps.length:=W0 aw
 -- the j-th pair
 have F:∀(j:Nat) (p:List Int×V),ps[j]?=some p->∃a b v,as[j]?=some a/\bs[j]?=some b/\H b=some (.tup (p.1.map V.int))/\RelV p.2 v/\s.heap.objs.size<a/\h1.get? a=some {cls:=.type "tuple",data:=.seq #[.ref b,v]}:=λj p hp=>by
  obtain⟨e,b,e1,U,e3,e4⟩:=aj j p hp;have J:j<ps.length:=(List.getElem?_eq_some_iff.mp hp).1;obtain⟨b',f1,f2⟩:=kN aw j p hp;have ar:as[j]?=some (as[j]'(by lia)):=U8 (by lia);obtain⟨e',g1,g2⟩:=ad.pair j _ ar;rw[e1]at g1;cases g1;have Y:b=b':=by
   have z:(es.toList.map (·.key))[j]?=some (.ref b):=by rw[UA,YN,e1];exact congrArg some U
   rw[ba,UA,f1]at z;have:=UL z;injection this with this
   exact this.symm
  subst Y;exact⟨_,b,e.val,ar,f1,e3,e4,ad.above _ (zaE _),by rw[g2,U]⟩
 have ac:∀(i j:Nat) (a:Addr),as[i]?=some a->as[j]?=some a->i=j:=λi j a hi J=>by
  have li:i<ps.length:=by rw[<- B];exact(List.getElem?_eq_some_iff.mp hi).1
  have lj:j<ps.length:=by rw[<- B];exact(List.getElem?_eq_some_iff.mp J).1
  obtain⟨a1,b1,v1,M,_,x2,_,_,x3⟩:=F i _ (U8 li);obtain⟨a2,b2,v2,y1,_,W,_,_,y3⟩:=F j _ (U8 lj);rw[hi]at M;cases M;rw[J]at y1;cases y1;rw[x3]at y3;injection y3 with y3
  injection y3 with _ _ y3 _
  injection y3 with y3 _
  have Y:b1=b2:=by
   have:=congrArg (λz:Array Value=>z[0]?) y3;simpa using this
  subst Y;rw[x2]at W;injection W with W
  injection W with W
  have:ps[i].1=ps[j].1:=by
   have inj:∀ {a b:List Int},a.map V.int=b.map V.int->a=b:=by
    intro a;induction a with
    | nil=>intro b h;cases b with
     | nil=>rfl
     | cons _ _=>cases h
    | cons x xs ih=>intro b h;cases b with
     | nil=>cases h
     | cons y ys=>
      rw[T1,T1]at h;injection h with h1 h2
      injection h1 with h1
      rw[h1,ih h2]
   exact inj W
  have e1:(ps.map (·.1))[i]'(by rw[T2];exact li)=(ps.map (·.1))[j]'(by rw[T2];exact lj):=by simpa using this
  exact(X3 an).mp e1
 have aq:∀(j:Nat) (p:List Int×V) (b:Addr),ps[j]?=some p->bs[j]?=some b->((bs.zip ps).map λx=>[V.ref x.1,x.2.2]).getD j []=[V.ref b,p.2]:=λj p b h1 h2=>by
  have:((bs.zip ps).map λx=>[V.ref x.1,x.2.2])[j]?=some [V.ref b,p.2]:=by
   rw[UA,(List.getElem?_zip_eq_some (z:=(b,p))).mpr ⟨h2,h1⟩];rfl
  simp[XI,this]
 have ak:∀b o,s.heap.get? b=some o->¬ b∈as:=λb o e Y=>absurd (TX e) (Nat.not_lt.mpr (YS (ad.above b Y)))
 have ap:Same H (zZ H as ((bs.zip ps).map λx=>[V.ref x.1,x.2.2])):=λb o e=>by
  obtain⟨ob,z⟩:=obj_some (I.hok b o e);rw[iK (ak b ob z)];exact e
 refine TF (wpAny_newList ?_ (by rw[T2,B];exact hz));have ay:(h1.push (US "list" (as.map TV).toArray 0)).get? h1.objs.size=some (US "list" (as.map TV).toArray 0):=UC _ rfl;show wpAny _ _ _ _ _ {s with heap:=h1.push (US "list" (as.map TV).toArray 0),toks:=tk};refine TF (VG (VL slot_list_sort ⟨_,ay,rfl⟩ entry_list_sort ?body (args_list_sort _)))
 case body=>
  refine yE (H1:=zZ H as ((bs.zip ps).map λx=>[V.ref x.1,x.2.2])) (el:=R0) (Q:=Q) I G a0 an B (λb o e=>iK (ak b o e)) (λb o e=>?_) (λb o n e h' H' k=>?_) (λj p a hp ha H' sm=>?_) (λh2 h' k=>?_) q λs' hE=>⟨_,rfl,TJ ⟨_,rfl,hE⟩⟩
  ·by_cases Y:b∈as
   ·obtain⟨j,J⟩:=List.mem_iff_getElem?.mp Y
    have lj:j<ps.length:=by rw[<- B];exact(List.getElem?_eq_some_iff.mp J).1
    obtain⟨a,b',v,M,_,_,_,_,x3⟩:=F j _ (U8 lj);rw[J]at M;cases M;exact TX x3
   ·rw[iK Y]at e
    obtain⟨ob,z⟩:=obj_some (I.hok b o e);exact TX (G b ob z)
  ·have Y:b∈as:=Classical.byContradiction λz=>by rw[iK z,n]at e;cases e
   obtain⟨j,J,U⟩:=wO (H:=H) (ds:=(bs.zip ps).map λx=>[V.ref x.1,x.2.2]) Y;rw[U]at e;cases e;have lj:j<ps.length:=by rw[<- B];exact(List.getElem?_eq_some_iff.mp J).1
   obtain⟨a,b',v,M,x2,_,x4,x5,x3⟩:=F j _ (U8 lj);rw[J]at M;cases M;rw[aq j _ b' (U8 lj) x2];have au:b≠X.env.locals:=UX (XH I.lt x5);exact⟨by show 2<=TQ;decide,[.ref b',v],.cons rfl (.cons x4 .nil),_,k b _ (UE (TX x3)) au x3,rfl,0,rfl,rfl⟩
  ·obtain⟨a',b,v,M,x2,x3,x4,_,_⟩:=F j p hp
   rw[ha]at M;cases M;obtain⟨j',bg,U⟩:=wO (H:=H) (as:=as) (ds:=(bs.zip ps).map λx=>[V.ref x.1,x.2.2]) (UJ ha);have:=ac j' j a bg ha;subst this;rw[aq j' p b hp x2]at U;exact⟨a,b,rfl,sm _ _ U,sm _ _ (ap _ _ x3)⟩
  ·have pI:∀(j:Nat) (p:List Int×V),ps[j]?=some p->∃a b v,as[j]?=some a/\bs[j]?=some b/\xO h' a b v p.1:=λj p hp=>by
    obtain⟨a,b,v,M,x2,x3,x4,x5,x6⟩:=F j p hp;refine⟨a,b,v,M,x2,⟨_,k a _ (UE (TX x6)) (UX (XH I.lt x5)) x6,rfl,0,rfl⟩,(E5 I x3).at' λo e=>k b o ?_ (nL x3) (G b o e)⟩;exact λz=>absurd (TX (G b o e)) (by rw[z];exact VN _)
   refine⟨tuples' (WQ "tuple" != WQ "tuple"),λQ' q'=>?_,λi j C hi J bb hC=>?_⟩
   ·have pr:U2 (λa (f:Value)=>∃N:List Value,IsTup h' a N.toArray/\N[0]?=some f) as (bs.map TV):=by
     have:∀ {as bs:List Addr} {ps:List (List Int×V)},as.length=ps.length->bs.length=ps.length->(∀(j:Nat) (p:List Int×V),ps[j]?=some p->∃a b v,as[j]?=some a/\bs[j]?=some b/\xO h' a b v p.1)->U2 (λa (f:Value)=>∃N:List Value,IsTup h' a N.toArray/\N[0]?=some f) as (bs.map TV):=by
      intro as;induction as with
      | nil=>intro bs ps h1 h2 _;cases ps with
       | nil=>cases bs with
        | nil=>exact .nil
        | cons _ _=>cases h2
       | cons _ _=>cases h1
      | cons a as ih=>intro bs ps h1 h2 h3;cases ps with
       | nil=>cases h1
       | cons p ps=>cases bs with
        | nil=>cases h2
        | cons b bs=>
         obtain⟨a',b',v,y1,W,y3,_⟩:=h3 0 p rfl;have e1:a'=a:=by simpa using y1.symm
         have U:b'=b:=by simpa using W.symm
         subst e1 U;exact .cons ⟨[.ref b',v],y3,rfl⟩ (ih (by simpa using h1) (by simpa using h2) λj q hq=>h3 (j+1) q (by simpa using hq))
     exact this B al pI
    refine kat_kind (s:={s with heap:=h',toks:=tk}) (kM pr) (by rw[T2,al];lia) (λv hv=>?_) (by decide) q';obtain⟨b,Y,rfl⟩:=List.mem_map.mp hv;obtain⟨j,J⟩:=List.mem_iff_getElem?.mp Y;have lj:j<ps.length:=by rw[<- al];exact(List.getElem?_eq_some_iff.mp J).1
    obtain⟨a,b',v,_,W,_,N,⟨o,e1,U,_⟩,_⟩:=pI j _ (U8 lj);rw[J]at W;cases W;rw[<- U];exact(show Looks _ h' (typeOf (.ref b)) o.cls from(Looks.ld e1).andThen .now)
   ·refine JA (by lia) (by lia) ?_
    obtain⟨x,b1,v1,M,_,x2⟩:=pI i _ (U8 hi);obtain⟨y,b2,v2,y1,_,W⟩:=pI j _ (U8 J);have ex:as.getD i 0=x:=by simp[XI,M]
    have ey:as.getD j 0=y:=by simp[XI,y1]
    rw[ex,ey];have a5:ps[i].1≠ps[j].1:=λz=>bb (by
     have e1:(ps.map (·.1))[i]'(by rw[T2];exact hi)=(ps.map (·.1))[j]'(by rw[T2];exact J):=by simpa using z
     exact(X3 an).mp e1)
    refine y9 (s:={s with heap:=h',toks:=tk}) x2 W a5 (by show X.A.units+1+1<cLine;lia) ?_;unfold M4 at hC;have k1:(ps.map (·.1)).getD i []=ps[i].1:=by simp[hi]
    have k2:(ps.map (·.1)).getD j []=ps[j].1:=by simp[J]
    rw[k1,k2]at hC;exact hC
end
theorem yD{prog:TN}{w:World}{A:TZ}{E:Value->TH->Prop}{s:TH}{t J:Addr}{items:Array Value}{M N:Value}{lo hi:Option Int}{Q:Value->TH->Prop}(q:IsTup s.heap t items)(hs:s.heap.IsSliceOf J M N .none)(Y:WA M lo)(W:WA N hi)
  (hw:HT.sIx items.size 0 lo=0/\HT.sIx items.size items.size hi=items.size) (h:Q (.ref t) s):wpAny (model prog w) A (WB (.ref t) (.ref J)) Q E s:=by
 obtain⟨os,B,G,U⟩:=id hs;have tt:s.TypeIs (.ref J) "slice" := ⟨os,B,G⟩;unfold WB;try with_reducible refine VG ?_
 first|refine TF (TJ ?_)|skip
 refine TF (wpAny_sequenceKey q.typeIs (by decide) ?_);refine TF (WC (name:=WD "__getitem__") q.typeIs Y4 (VL Y4 q.typeIs entry_tuple_getitem ?_ (args_tuple_getitem _ _)));show wpAny _ _ (Builtin.Tuple.tupleItemsOf (.ref t) >>= _) _ _ s;refine TF (tupleItemsOf_ q (TF (Y5 tt ?_)));rw[if_pos (by decide)];refine TF (HT.dN hs Y W ?_);have F:(((HT.sIx items.size 0 lo:Nat):Int) == 0 && (1:Int) == 1 && (HT.sIx items.size items.size hi-HT.sIx items.size 0 lo) == items.size)=true:=by
  rw[hw.1,hw.2];simp
 show wpAny _ _ (if(((HT.sIx items.size 0 lo:Nat):Int) == 0 && (1:Int) == 1 && (HT.sIx items.size items.size hi-HT.sIx items.size 0 lo) == items.size)=true then _ else _) _ _ s;rw[if_pos F];refine TF (m:=Builtin.Tuple.tupleIsExact _) ?_;unfold Builtin.Tuple.tupleIsExact;refine TF (Y5 q.typeIs (TJ ?_));rw[if_pos (by decide)];exact TF (XX (TJ ⟨_,rfl,TJ h⟩))
section
variable {X:Cx}
def OW(K:TK):V->Option Int->Option Int->Hp->VK->Prop:=λx lo hi H Q=>∃a xs,x=.ref a/\SqT K H a xs/\(HT.sIx xs.length 0 lo=0/\HT.sIx xs.length xs.length hi=xs.length)/\Q (.ref a) H
theorem GW:SlR X (OW X.K):=by
 intro pins s σ H x v W Y lo hi sl Q I U hs N M h;obtain⟨a,xs,rfl,J,hw,q⟩:=h;cases U;obtain⟨F,r,G,hz⟩:=I.tuple J;have B:F.toArray.size=xs.length:=by rw[T6];exact r.length.symm
 exact⟨"tuple",_,PyProof.Rows.slot_tuple_getitem.lookup,G.typeIs,yD G hs N M (by rw[B];exact hw) ⟨.ref a,H,I,rfl,q⟩⟩
theorem GA:SlR X (λx lo hi H Q=>PH X.K x lo hi H Q\/OW X.K x lo hi H Q):=KF.or GW
end
theorem mE(x:ObjOk P w H h d (.dT kvs)):(d == VC)=false/\kvs.length<=TQ/\∃es ep,RawD h d es ep/\es.size=kvs.length /\
  ∀(j:Nat) (p:List Key×V),kvs[j]?=some p->∃(e:WN) (b:Addr),es[j]?=some e/\e.key=.ref b/\H b=some (.tup (p.1.map kV))/\RelV p.2 e.val/\e.hash=(VY (a8 P w)).hash p.1:=by
 obtain⟨z,y,xs,r,o,es,ep,h1,h2,G,F,h5⟩:=x;have Y:xs.length=kvs.length:=(W0 r).symm;have B:es.size=kvs.length:=by
  have:=congrArg V0 F;rw[VF,T2]at this
  lia
 have get:∀ {kvs:List (List Key×V)} {xs:List (List Key×Addr×Value)},U2 (λ(p:List Key×V) (q:List Key×Addr×Value)=>p.1=q.1/\H q.2.1=some (.tup (p.1.map kV))/\RelV p.2 q.2.2) kvs xs->
   ∀(j:Nat) (p:List Key×V),kvs[j]?=some p->∃q,xs[j]?=some q/\p.1=q.1/\H q.2.1=some (.tup (p.1.map kV))/\RelV p.2 q.2.2:=by
  intro kvs xs r;induction r with
  | nil=>intro j p e;simp at e
  | cons h t ih=>
   intro j p e;cases j with
   | zero=>simp at e;subst e;exact⟨_,rfl,h⟩
   | succ j=>exact ih j p (by simpa using e)
 refine⟨y,z,es,ep,⟨o,h1,h2,G⟩,B,λj p e=>?_⟩;obtain⟨q,W,U,M,N⟩:=get r j p e;have J:es[j]?=some (entryOfKey (VY (a8 P w)) q):=by
  rw[<- YN,F,UA,W];rfl
 exact⟨_,q.2.1,J,rfl,M,N,by show(VY (a8 P w)).hash q.1=_;rw[U]⟩
def PU(d:Addr)(o:Obj)(kvs:List (List Key×V)):It:=
 ⟨λi H=>H d=some (.frz o (.dT kvs))/\i<kvs.length,λi H x H'=>H'=H/\∃k v b,kvs[i]?=some (k,v)/\x=.ref b/\H b=some (.tup (k.map kV)),λi H=>H d=some (.frz o (.dT kvs))/\kvs.length<=i⟩
theorem x9{P:TN}{w:World}{K:TK}{tg:Expr}(d it:Addr)(o:Obj)(kvs:List (List Key×V))(es:Array WN)(ep:Nat)(hd:o.data=.dict es ep)(as:es.size=kvs.length):Turn P w K tg (PU d o kvs) [it] it (λi h=>h.IsKeyIter it d i es.size ep) where
 mem:=by simp
 obj:=λi h st b B=>by
  have e:b=it:=by simpa using B
  subst e;obtain⟨o,U,e2,Y⟩:=st;exact⟨o,U,λv z=>by rw[Y]at z;cases z⟩
 keep:=λi h h' st k=>st.at λo e=>k it (by simp) o e
 item:=by
  intro X hP hw hK hc i pins s σ H E I N st hg;subst hP hw hK;obtain⟨h1,h2⟩:=hg;obtain⟨F,g2⟩:=(show ObjOk X.prog X.w H s.heap d (.frz o (.dT kvs))from I.hok d _ h1);obtain⟨_,_,ai,ag,⟨o',M,r2,r3⟩,G,q⟩:=mE g2;rw[F]at M;cases M;rw[hd]at r3;injection r3 with r4 r5
  subst r4 r5;obtain⟨f0,f1,f2,f3,W,f5⟩:=N it (by simp);have hi:i<es.size:=by lia
  refine BI st ⟨o,F,r2,hd⟩ hi λh' J sb=>?_
  have I1:Inv X pins σ H {s with heap:=h'}:=I.turned (t':=s.toks) (λb o B e=>(sb.2 b B).trans e) f0 f1 f3 W f5;obtain⟨e,b,U,e2,Y,_⟩:=q i _ (U8 h2);have ee:es[i]=e:=by
   rw[zaA hi]at U;exact UL U
  obtain⟨o2,q1,q2,q3⟩:=id J;refine⟨_,rfl,oR (s:={s with heap:=h'}) (n := "dict_keyiterator") q1 q2 q3 (by decide) ⟨.ref b,H,I1,?_,⟨rfl,kvs[i].1,kvs[i].2,b,U8 h2,rfl,Y⟩,J,λc B=>(N c B).1⟩⟩;rw[ee,e2];rfl
 done:=by
  intro X hP hw hK hc i pins s σ H E I N st hg;subst hP hw hK;obtain⟨h1,h2⟩:=hg;obtain⟨F,g2⟩:=(show ObjOk X.prog X.w H s.heap d (.frz o (.dT kvs))from I.hok d _ h1);obtain⟨_,_,ai,ag,⟨o',M,r2,r3⟩,G,q⟩:=mE g2;rw[F]at M;cases M;obtain⟨f0,f1,f2,f3,W,f5⟩:=N it (by simp);exact FG (I.ok.hd hc) st ⟨o,F,r2,hd⟩ (by lia) λh' eb=>⟨rfl,I.turned (t':=s.toks) (λb o B e=>eb b o B e) f0 f1 f3 W f5⟩
 self:=λ_ _ _ _ _ st h=>wpAny_pyIter_keyiter st h
theorem uB(I:Inv X pins σ H s)(B:H d=some (.dT kvs))(G:s.heap.get? d=some o):Inv X pins σ (upd H d (.frz o (.dT kvs))) s:=by
 have ne:∀b u,H b=some u->(∀z,u≠.dT z)->b≠d:=λb u e n z=>by
  subst z;rw[B]at e;exact n kvs (UL e).symm
 have J:=I.un (h':=s.heap) (t':=s.toks) (H':=upd H d (.frz o (.dT kvs))) ⟨λb u q _ _ _=>q,λb u q _ _ _=>⟨u.slots,q⟩,λb u q n _=>by rw[aC (λz=>by rw[z,B]at n;cases n)];exact n,λb u q _=>⟨u,q⟩,
  λb xs q=>by rw[aC (ne b _ q (λz h=>by cases h))];exact q,λb u xs q=>by rw[aC (ne b _ q (λz h=>by cases h))];exact q,λb ps q=>⟨#[],by rw[aC (ne b _ q (λz h=>by cases h)),q];simp⟩⟩ (λb u e=>?_)
 ·exact J
 ·have st:∀ {b:Addr} {u:HO},ObjOk X.prog X.w H s.heap b u->ObjOk X.prog X.w (upd H d (.frz o (.dT kvs))) s.heap b u:=λx=>x.stay (λ_ _ _ q=>q) (λc q=>by rw[aC (ne c _ q (λz h=>by cases h))];exact q) λc xs q=>by rw[aC (ne c _ q (λz h=>by cases h))];exact q
  by_cases F:b=d
  ·subst F
   rw[aJ]at e;cases e;exact⟨G,st (I.hok b _ B)⟩
  ·rw[aC F]at e
   exact st (I.hok b u e)
section
variable {X:Cx}{tg:Expr}
end
section
variable {X:Cx}
end
end My
namespace My
open PySem PySem.Spec PyProof.Rows L2 PySem.SeqAt
abbrev Tm:=List Int×Int
def look(cs:List Tm)(k:List Int):Option Int:=(cs.find? λt=>decide (t.1=k)).map (·.2)
def put(cs:List Tm)(k:List Int)(c:Int):List Tm:=if(cs.any λt=>decide (t.1=k))=true then cs.map (λt=>if t.1=k then(t.1,c)else t)else cs++[(k,c)]
theorem iN{a b:List Int}:(a.map (T9:Int->Key)=b.map T9)↔a=b:=by
 constructor
 ·intro h
  induction a generalizing b with
  | nil=>cases b with
   | nil=>rfl
   | cons _ _=>cases h
  | cons x xs ih=>cases b with
   | nil=>cases h
   | cons y ys=>
    rw[T1,T1]at h;injection h with h1 h2
    injection h1 with h1
    rw[h1,ih h2]
 ·intro h;rw[h]
theorem p5(cs:List Tm)(k:List Int)(c:Int):(put cs k c).length<=cs.length+1:=by
 unfold put;split
 ·rw[T2];lia
 ·rw[VB];simp
theorem BU:∀t∈put cs k c,t.1=k\/∃u∈cs,u.1=t.1:=by
 intro t q;unfold put at q;split at q
 ·obtain⟨u,B,e⟩:=List.mem_map.mp q
  split at e
  ·rename_i z;subst e;exact .inl z
  ·subst e;exact .inr ⟨u,B,rfl⟩
 ·rcases List.mem_append.mp q with h|h
  ·exact .inr ⟨t,h,rfl⟩
  ·rw[List.mem_singleton.mp h];exact .inl rfl
theorem yY(h:(cs.map (·.1)).Nodup):((put cs k c).map (·.1)).Nodup:=by
 unfold put;split
 ·rw[VM]
  have:((·.1) ∘ λt:Tm=>if t.1=k then(t.1,c)else t)=(·.1):=by
   funext t;show(if t.1=k then(t.1,c)else t).1=t.1;split <;> rfl
  rw[this];exact h
 ·rename_i z
  rw[VX];refine L2.xD h λB=>z ?_
  obtain⟨t,q,e⟩:=List.mem_map.mp B;exact List.any_eq_true.mpr ⟨t,q,decide_eq_true e⟩
def mP(cs:List Tm)(t:Tm):List Tm:=put cs t.1 ((look cs t.1).getD 0+t.2)
def bI(ts:List Tm):List Tm:=ts.foldl mP []
theorem zS(ts:List Tm)(t:Tm):bI (ts++[t])=mP (bI ts) t:=by
 unfold bI;rw[ZS];rfl
theorem k4:∀(ts:List Tm),(bI ts).length<=ts.length/\((bI ts).map (·.1)).Nodup/\∀t∈bI ts,∃u∈ts,u.1=t.1:=by
 intro ts;have F:∀(ts:List Tm) (cs:List Tm),(cs.map (·.1)).Nodup->(ts.foldl mP cs).length<=cs.length+ts.length/\((ts.foldl mP cs).map (·.1)).Nodup/\∀t∈ts.foldl mP cs,(∃u∈ts,u.1=t.1)\/∃u∈cs,u.1=t.1:=by
  intro ts;induction ts with
  | nil=>intro cs h;exact⟨by simp,h,λt B=>.inr ⟨t,B,rfl⟩⟩
  | cons x ts ih=>
   intro cs h;obtain⟨a,b,c⟩:=ih (mP cs x) (yY h);refine⟨?_,b,λt B=>?_⟩
   ·have:=p5 cs x.1 ((look cs x.1).getD 0+x.2)
    rw[ZA,UK];unfold mP at *
    lia
   ·rcases c t B with⟨u,q,e⟩|⟨u,q,e⟩
    ·exact .inl ⟨u,UN _ q,e⟩
    ·rcases BU u q with z|⟨v,G,z⟩
     ·exact .inl ⟨x,UW ..,z.symm.trans e⟩
     ·exact .inr ⟨v,G,z.trans e⟩
 obtain⟨a,b,c⟩:=F ts [] List.nodup_nil;refine⟨by have:=a;simpa[bI]using this,b,λt B=>?_⟩;rcases c t B with h|⟨u,q,_⟩
 ·exact h
 ·cases q
def j8(M:Int)(q:List Tm):List Tm:=(q.filter λt=>decide (t.2%M≠0)).map λt=>(t.1,t.2%M)
def TS(H H':Hp):Prop:=∀b xs,H b=some (.tup xs)->H' b=some (.tup xs)
theorem Same.ts(e:Same H H'):TS H H':=λb xs h=>e b _ h
theorem TS.trans(a:TS H H1)(b:TS H1 H2):TS H H2:=λc xs h=>b c xs (a c xs h)
theorem TS.put(h:H l=some u)(n:∀xs,u≠.tup xs):TS H (upd H l o):=λb xs q=>by
 rw[aC (λz=>by subst z;rw[h]at q;exact n xs (UL q))];exact q
noncomputable def hT(ns:List Int):Int:=reduceHash (Builtin.Tuple.tupleHashOf (ns.map hashInt))
end My
namespace My
open PySem PySem.Spec PyProof.Rows L2
noncomputable def SI(t:Bool):String:=if t=true then "tuple_iterator" else "list_iterator"
noncomputable def SC(t:Bool):String:=if t=true then "tuple" else "list"
def SIt(t:Bool)(h:Heap)(i l:Addr)(k:Nat):Prop:=∃o,h.get? i=some o/\o.cls=.type (SI t)/\o.data=.fields #[.ref l,.int k 0]
def SSq(t:Bool)(h:Heap)(l:Addr)(xs:Array Value):Prop:=∃o,h.get? l=some o/\o.cls=.type (SC t)/\∃n,o.data=.seq xs n
theorem SIt.to(x:SIt t h i l k)(e:∀o,h.get? i=some o->h'.get? i=some o):SIt t h' i l k:=let ⟨o,ho,r⟩:=x;⟨o,e o ho,r⟩
theorem SSq.to(x:SSq t h l xs)(e:∀o,h.get? l=some o->h'.get? l=some o):SSq t h' l xs:=let ⟨o,ho,r⟩:=x;⟨o,e o ho,r⟩
section
variable {prog:TN}{w:World}{A:TZ}{E:Value->TH->Prop}{s:TH}
theorem next_item(B:SIt t s.heap it l i)(U:SSq t s.heap l xs)(W:xs[i]?=some x)
  (N:∀h',SIt t h' it l (i+1)->UI it s.heap h'->Q x {s with heap:=h'}):wpAny (model prog w) A (ZT (.ref it)) Q E s:=by
 cases t with
 | false=>exact wpAny_nextOf_list_item (it:=it) (l:=l) (items:=xs) B U W N
 | true=>
  have q:s.heap.IsTupleIter it l i:=B;obtain⟨o,G,Y,F⟩:=B;obtain⟨ol,J,_,nl,M⟩:=U;unfold ZT;refine TF (WC (name:=WD "__next__") q.typeIs ZU (VL ZU q.typeIs zaN ?_ (zaO _)));show wpAny _ _ (field (.ref it) 0 >>= _) _ _ _;refine TF (U6 G F (x:=.ref l) rfl ?_);show wpAny _ _ (if(TV l == UG)=true then _ else _) _ _ _;rw[if_neg (show ¬ ((TV l == UG)=true)from T3)];show wpAny _ _ (field (.ref it) 1 >>= _) _ _ _;refine TF (U6 G F (x:=.int i 0) rfl ?_);show wpAny _ _ (seqItems? (.ref l) >>= _) _ _ _;refine TF (ZV J M ?_);simp only[V4,W];refine TF (YI G F (by simp) (TJ ⟨x,rfl,TJ (N _ ⟨_,WM _ G (Obj.isFreed_of_fields (ZK F _)),(Obj.cls_mapFields ..).trans Y,by rw[ZK F];simp[UY]⟩ (WH ..))⟩))
theorem next_end(G:A.handled=none)(B:SIt t s.heap it l i)(U:SSq t s.heap l xs)(Y:xs[i]?=none)
  (W:∀h' e,YJ it s.heap h'->(∃o,h'.get? e=some o/\o.cls=.type "StopIteration")->E (.ref e) {s with heap:=h'}):wpAny (model prog w) A (ZT (.ref it)) Q E s:=by
 cases t with
 | false=>exact wpAny_nextOf_list_end (it:=it) (l:=l) (items:=xs) G B U Y W
 | true=>
  have q:s.heap.IsTupleIter it l i:=B;obtain⟨o,M,hc,F⟩:=B;obtain⟨ol,J,_,nl,N⟩:=U;unfold ZT;refine TF (WC (name:=WD "__next__") q.typeIs ZU (VL ZU q.typeIs zaN ?_ (zaO _)));show wpAny _ _ (field (.ref it) 0 >>= _) _ _ _;refine TF (U6 M F (x:=.ref l) rfl ?_);show wpAny _ _ (if(TV l == UG)=true then _ else _) _ _ _;rw[if_neg (show ¬ ((TV l == UG)=true)from T3)];show wpAny _ _ (field (.ref it) 1 >>= _) _ _ _;refine TF (U6 M F (x:=.int i 0) rfl ?_);show wpAny _ _ (seqItems? (.ref l) >>= _) _ _ _;refine TF (ZV J N ?_);simp only[V4,Y];refine TF (XX (TF (YI M F (by simp) ?_)));show wpAny _ _ (newExc (.type "StopIteration") [] >>= _) _ _ _;refine TF ?_;simp only[newExc,newTuple];refine TF (VE ?_ (by size_fits));refine TF (m:=XR _ _) (ZL (a:=UG) (by first|rfl|(simp only[XR];rfl)) ?_);refine VE ?_ (by size_fits);simp only[raiseNew]
  refine TF (wpAny_handled ?_);first|rw[show A.in1.handled=none from G]|rw[G]
  refine TF (TJ (wpAny_throw ?_));exact W _ _ (((WH ..).extBut.push _).push _) ⟨_,UC _ rfl,rfl⟩
abbrev RY(t:Bool)(l:Addr):Obj:={cls:=.type (SI t),data:=.fields #[.ref l,.int 0 0]}
end
def HP(K:TK)(t:Bool)(H:Hp)(a:Addr)(xs:List V):Prop:=if t=true then SqT K H a xs else SqL K H a xs
theorem vC(I:Inv X pins σ H s)(h:HP X.K t H a xs):∃q:List Value,Vals xs q/\SSq t s.heap a q.toArray:=by
 cases t with
 | true=>
  obtain⟨q,r,p,_⟩:=I.tuple (show SqT X.K H a xs from h);exact⟨q,r,p⟩
 | false=>
  obtain⟨q,r,p,_⟩:=I.list (show SqL X.K H a xs from h);exact⟨q,r,PlainL.isList p⟩
theorem GG(I:Inv X pins σ H s)(h:HP X.K t H a xs)(h':HP X.K t H a ys):xs=ys:=by
 cases t with
 | true=>exact I.tuple_inj (show SqT X.K H a xs from h) h'
 | false=>exact I.list_inj (show SqL X.K H a xs from h) h'
theorem k5{pins:List (Addr×Obj)}{t':Nat}{fp:List Addr}(I:Inv X pins σ H s)(G:∀b∈fp,fM X pins H b)(k:∀b o,b∉fp->s.heap.get? b=some o->h'.get? b=some o):Inv X pins σ H {s with heap:=h',toks:=t'}:=by
 have B:∀b u,H b=some u->b∉fp:=λb u e z=>by rw[(G b z).1]at e;cases e
 refine I.call' (s':={s with heap:=h',toks:=t'}) (ch:=fp) rfl ⟨λb o e _ _ F=>k b o F e,λb o e _ _ F=>⟨o.slots,k b o F e⟩,λ_ _ _ n _=>n,λb o e F=>⟨o,k b o F e⟩,λ_ _ q=>q,λ_ _ _ q=>q,λb ps q=>⟨#[],by rw[q];simp⟩⟩ (λb u e=>?_) I.bare λb Y=>?_
 ·refine(I.hok b u e).stay (λc v M q=>k c v ?_ q) (λ_ q=>q) λ_ _ q=>q
  rcases M with z|z
  ·rw[z];exact B b u e
  ·exact B c _ z
 ·obtain⟨_,W,_,N,J,U⟩:=G b Y
  exact⟨N,W,J,U⟩
end My
namespace P
open PySem PySem.Spec PyProof.Rows L2
inductive D where
 | non|bl (b:Bool)|int (i:Int)|str (x:Str)|tup (l:List D)|lst (l:List D)
 | dK (l:List (Key×D))|dT (l:List (List Key×D))
abbrev Av:=Addr->Prop
section
variable (A:Av)(H:Hp)
mutual
/-- a heap bears a value that stays (the things that may still be written are in A) -/
inductive Rep:D->V->Prop where
 | non:Rep .non .non
 | bl (b:Bool):Rep (.bl b) (.bl b)
 | int (i:Int):Rep (.int i) (.int i)
 | str (x:Str):Rep (.str x) (.str x)
 | tup {l:List D} {a:Addr} {xs:List V} (h:H a=some (.tup xs)) (r:RepL l xs):Rep (.tup l) (.ref a)
 | lst {l:List D} {a:Addr} {xs:List V} (n:¬ A a) (h:Rd H a (.lst xs)) (r:RepL l xs):Rep (.lst l) (.ref a)
 | dK {l:List (Key×D)} {a:Addr} {xs:List (Key×V)} (n:¬ A a) (h:Rd H a (.dK xs)) (e:xs.map (·.1)=l.map (·.1)) (r:RepL (l.map (·.2)) (xs.map (·.2))):Rep (.dK l) (.ref a)
 | dT {l:List (List Key×D)} {a:Addr} {xs:List (List Key×V)} (n:¬ A a) (h:Rd H a (.dT xs)) (e:xs.map (·.1)=l.map (·.1)) (r:RepL (l.map (·.2)) (xs.map (·.2))):Rep (.dT l) (.ref a)
inductive RepL:List D->List V->Prop where
 | nil:RepL [] []
 | cons {d:D} {v:V} {ds:List D} {vs:List V} (h:Rep d v) (t:RepL ds vs):RepL (d::ds) (v::vs)
end
inductive RepB:D->V->Prop where
 | of {d:D} {v:V} (h:Rep A H d v):RepB d v
 | lst {l:List D} {a:Addr} {xs:List V} (h:Rd H a (.lst xs)) (r:RepL A H l xs):RepB (.lst l) (.ref a)
 | dK {l:List (Key×D)} {a:Addr} {xs:List (Key×V)} (h:Rd H a (.dK xs)) (e:xs.map (·.1)=l.map (·.1)) (r:RepL A H (l.map (·.2)) (xs.map (·.2))):RepB (.dK l) (.ref a)
 | dT {l:List (List Key×D)} {a:Addr} {xs:List (List Key×V)} (h:Rd H a (.dT xs)) (e:xs.map (·.1)=l.map (·.1)) (r:RepL A H (l.map (·.2)) (xs.map (·.2))):RepB (.dT l) (.ref a)
inductive Own:D->Addr->Prop where
 | lst {l:List D} {a:Addr} {xs:List V} (h:H a=some (.lst xs)) (r:RepL A H l xs):Own (.lst l) a
 | dK {l:List (Key×D)} {a:Addr} {xs:List (Key×V)} (h:H a=some (.dK xs)) (e:xs.map (·.1)=l.map (·.1)) (r:RepL A H (l.map (·.2)) (xs.map (·.2))):Own (.dK l) a
 | dT {l:List (List Key×D)} {a:Addr} {xs:List (List Key×V)} (h:H a=some (.dT xs)) (e:xs.map (·.1)=l.map (·.1)) (r:RepL A H (l.map (·.2)) (xs.map (·.2))):Own (.dT l) a
end
noncomputable def Kp:HO->Prop
 | .tup _=>True | .lst _=>True|_=>False
structure Ext(A:Av)(H H':Hp):Prop where
 rd:∀b u,Rd H b u->Rd H' b u
 kp:∀b u,Kp u->H b=some u->H' b=some u
 ow:∀b u,A b->H b=some u->H' b=some u
 fz:∀b o u,H b=some (.frz o u)->H' b=some (.frz o u)
theorem Ext.refl(A:Av)(H:Hp):Ext A H H:=⟨λ_ _ h=>h,λ_ _ _ h=>h,λ_ _ _ h=>h,λ_ _ _ h=>h⟩
theorem Ext.trans(a:Ext A H H1)(b:Ext A H1 H2):Ext A H H2:=
 ⟨λc u h=>b.rd c u (a.rd c u h),λc u k h=>b.kp c u k (a.kp c u k h),λc u n h=>b.ow c u n (a.ow c u n h),λc o u h=>b.fz c o u (a.fz c o u h)⟩
theorem Ext.mono(h:Ext A H H')(s:∀a,A' a->A a):Ext A' H H':=⟨h.rd,h.kp,λb u n e=>h.ow b u (s b n) e,h.fz⟩
theorem Ext.same(h:Same H H'):Ext A H H':=
 ⟨λb u r=>by rcases r with r|⟨o,r⟩;exact .inl (h _ _ r);exact .inr ⟨o,h _ _ r⟩,λb u _ r=>h _ _ r,λb u _ r=>h _ _ r,λb o u r=>h _ _ r⟩
theorem Ext.tp(x:Ext A H H')(b:Addr)(xs:List V)(h:H b=some (.tup xs)):H' b=some (.tup xs):=x.kp b _ trivial h
theorem Ext.new(h:H p=none):Ext A H (upd H p o):=Ext.same (My.sN h)
mutual
theorem Rep.ext(x:Ext A H H'):Rep A H d v->Rep A H' d v
 | .non=>.non
 | .bl b=>.bl b
 | .int i=>.int i
 | .str s=>.str s
 | .tup h r=>.tup (x.tp _ _ h) (RepL.ext x r)
 | .lst n h r=>.lst n (x.rd _ _ h) (RepL.ext x r)
 | .dK n h e r=>.dK n (x.rd _ _ h) e (RepL.ext x r)
 | .dT n h e r=>.dT n (x.rd _ _ h) e (RepL.ext x r)
theorem RepL.ext(x:Ext A H H'):RepL A H ds vs->RepL A H' ds vs
 | .nil=>.nil
 | .cons h t=>.cons (Rep.ext x h) (RepL.ext x t)
end
theorem RepB.ext(x:Ext A H H'):RepB A H d v->RepB A H' d v
 | .of h=>.of (h.ext x)
 | .lst h r=>.lst (x.rd _ _ h) (r.ext x)
 | .dK h e r=>.dK (x.rd _ _ h) e (r.ext x)
 | .dT h e r=>.dT (x.rd _ _ h) e (r.ext x)
theorem Own.ext(x:Ext A H H')(q:A a):Own A H d a->Own A H' d a
 | .lst h r=>.lst (x.ow _ _ q h) (r.ext x)
 | .dK h e r=>.dK (x.ow _ _ q h) e (r.ext x)
 | .dT h e r=>.dT (x.ow _ _ q h) e (r.ext x)
theorem Own.b:Own A H d a->RepB A H d (.ref a)
 | .lst h r=>.lst (.inl h) r
 | .dK h e r=>.dK (.inl h) e r
 | .dT h e r=>.dT (.inl h) e r
mutual
/-- avoid other things: those that were not there, or fewer -/
theorem Rep.av(x:∀a,A' a->A a\/H a=none):Rep A H d v->Rep A' H d v
 | .non=>.non
 | .bl b=>.bl b
 | .int i=>.int i
 | .str s=>.str s
 | .tup h r=>.tup h (RepL.av x r)
 | .lst n h r=>.lst (λz=>(x _ z).elim n λz=>by rcases h with h|⟨o,h⟩ <;> (rw[z]at h;cases h)) h (RepL.av x r)
 | .dK n h e r=>.dK (λz=>(x _ z).elim n λz=>by rcases h with h|⟨o,h⟩ <;> (rw[z]at h;cases h)) h e (RepL.av x r)
 | .dT n h e r=>.dT (λz=>(x _ z).elim n λz=>by rcases h with h|⟨o,h⟩ <;> (rw[z]at h;cases h)) h e (RepL.av x r)
theorem RepL.av(x:∀a,A' a->A a\/H a=none):RepL A H ds vs->RepL A' H ds vs
 | .nil=>.nil
 | .cons h t=>.cons (Rep.av x h) (RepL.av x t)
end
noncomputable def M8:HO->Prop
 | .lst _=>True | .dK _=>True | .dT _=>True|_=>False
theorem eZ(n:b≠a)(h:Rd H b u):Rd (upd H a o) b u:=by
 rcases h with h|⟨x,h⟩
 ·exact .inl (by rw[aC n];exact h)
 ·exact .inr ⟨x,by rw[aC n];exact h⟩
mutual
theorem Rep.put(q:A a)(B:H a=some u)(F:M8 u):Rep A H d v->Rep A (upd H a o) d v
 | .non=>.non
 | .bl b=>.bl b
 | .int i=>.int i
 | .str s=>.str s
 | .tup (a:=b) h r=>.tup (by rw[aC (λz=>by subst z;rw[B]at h;cases h;exact F)];exact h) (RepL.put q B F r)
 | .lst (a:=b) n h r=>.lst n (eZ (λz=>n (by rw[z];exact q)) h) (RepL.put q B F r)
 | .dK (a:=b) n h e r=>.dK n (eZ (λz=>n (by rw[z];exact q)) h) e (RepL.put q B F r)
 | .dT (a:=b) n h e r=>.dT n (eZ (λz=>n (by rw[z];exact q)) h) e (RepL.put q B F r)
theorem RepL.put(q:A a)(B:H a=some u)(F:M8 u):RepL A H ds vs->RepL A (upd H a o) ds vs
 | .nil=>.nil
 | .cons h t=>.cons (Rep.put q B F h) (RepL.put q B F t)
end
theorem Own.put{A:Av}{H:Hp}{a b:Addr}{o u:HO}(q:A a)(B:H a=some u)(F:M8 u)(G:b≠a){d:D}:Own A H d b->Own A (upd H a o) d b
 | .lst h r=>.lst (by rw[aC G];exact h) (r.put q B F)
 | .dK h e r=>.dK (by rw[aC G];exact h) e (r.put q B F)
 | .dT h e r=>.dT (by rw[aC G];exact h) e (r.put q B F)
theorem Own.av(x:∀a,A' a->A a\/H a=none):Own A H d a->Own A' H d a
 | .lst h r=>.lst h (r.av x)
 | .dK h e r=>.dK h e (r.av x)
 | .dT h e r=>.dT h e (r.av x)
theorem Own.rep(n:¬ A a):Own A H d a->Rep A H d (.ref a)
 | .lst h r=>.lst n (.inl h) r
 | .dK h e r=>.dK n (.inl h) e r
 | .dT h e r=>.dT n (.inl h) e r
section
variable {A:Av}{H:Hp}
theorem RepL.length:∀ {ds:List D} {vs:List V},RepL A H ds vs->vs.length=ds.length
 | _,_,.nil=>rfl
 | _,_,.cons _ t=>by rw[UK,UK,RepL.length t]
theorem RepL.get:∀ {ds:List D} {vs:List V} {i:Nat} {v:V},RepL A H ds vs->vs[i]?=some v->∃d,ds[i]?=some d/\Rep A H d v
 | _,_,i,v,.nil,e=>by simp at e
 | _,_,0,v,.cons h t,e=>by simp at e;subst e;exact⟨_,rfl,h⟩
 | _,_,i+1,v,.cons h t,e=>RepL.get (i:=i) t (by simpa using e)
theorem RepL.get':∀ {ds:List D} {vs:List V} {i:Nat} {d:D},RepL A H ds vs->ds[i]?=some d->∃v,vs[i]?=some v/\Rep A H d v
 | _,_,i,v,.nil,e=>by simp at e
 | _,_,0,v,.cons h t,e=>by simp at e;subst e;exact⟨_,rfl,h⟩
 | _,_,i+1,v,.cons h t,e=>RepL.get' (i:=i) t (by simpa using e)
theorem RepL.append:∀ {ds es:List D} {vs us:List V},RepL A H ds vs->RepL A H es us->RepL A H (ds++es) (vs++us)
 | _,_,_,_,.nil,s=>s
 | _,_,_,_,.cons h t,s=>.cons h (RepL.append t s)
theorem RepL.take:∀ {ds:List D} {vs:List V} (n:Nat),RepL A H ds vs->RepL A H (ds.take n) (vs.take n)
 | _,_,0,_=>by simp;exact .nil
 | _,_,n+1,.nil=>.nil
 | _,_,n+1,.cons h t=>.cons h (RepL.take n t)
theorem RepL.drop:∀ {ds:List D} {vs:List V} (n:Nat),RepL A H ds vs->RepL A H (ds.drop n) (vs.drop n)
 | _,_,0,r=>r
 | _,_,n+1,.nil=>.nil
 | _,_,n+1,.cons h t=>RepL.drop n t
theorem RepL.set:∀ {ds:List D} {vs:List V} {d:D} {v:V} (n:Nat),Rep A H d v->RepL A H ds vs->RepL A H (ds.set n d) (vs.set n v)
 | _,_,_,_,_,_,.nil=>.nil
 | _,_,_,_,0,r,.cons h t=>.cons r t
 | _,_,_,_,n+1,r,.cons h t=>.cons h (RepL.set n r t)
theorem Rep.b(h:Rep A H d v):RepB A H d v:=.of h
theorem RepB.int_inv(h:RepB A H (.int i) v):v=.int i:=by cases h with|of h=>cases h;rfl
theorem RepB.bl_inv(h:RepB A H (.bl i) v):v=.bl i:=by cases h with|of h=>cases h;rfl
theorem RepB.str_inv(h:RepB A H (.str i) v):v=.str i:=by cases h with|of h=>cases h;rfl
theorem RepB.non_inv(h:RepB A H .non v):v=.non:=by cases h with|of h=>cases h;rfl
theorem RepB.tup_inv(h:RepB A H (.tup l) v):∃a xs,v=.ref a/\H a=some (.tup xs)/\RepL A H l xs:=by
 cases h with|of h=>cases h with|tup h r=>exact⟨_,_,rfl,h,r⟩
theorem RepB.lst_inv(h:RepB A H (.lst l) v):∃a xs,v=.ref a/\Rd H a (.lst xs)/\RepL A H l xs:=by
 cases h with
 | of h=>cases h with|lst n h r=>exact⟨_,_,rfl,h,r⟩
 | lst h r=>exact⟨_,_,rfl,h,r⟩
theorem RepB.dK_inv(h:RepB A H (.dK l) v):∃a xs,v=.ref a/\Rd H a (.dK xs)/\xs.map (·.1)=l.map (·.1)/\RepL A H (l.map (·.2)) (xs.map (·.2)):=by
 cases h with
 | of h=>cases h with|dK n h e r=>exact⟨_,_,rfl,h,e,r⟩
 | dK h e r=>exact⟨_,_,rfl,h,e,r⟩
theorem RepB.dT_inv(h:RepB A H (.dT l) v):∃a xs,v=.ref a/\Rd H a (.dT xs)/\xs.map (·.1)=l.map (·.1)/\RepL A H (l.map (·.2)) (xs.map (·.2)):=by
 cases h with
 | of h=>cases h with|dT n h e r=>exact⟨_,_,rfl,h,e,r⟩
 | dT h e r=>exact⟨_,_,rfl,h,e,r⟩
end
abbrev bK:=List (Option D)
inductive Fact where
 | rep (d:D) (v:V)|fz (a:Addr) (o:Obj) (u:HO)
def Fact.Holds(A:Av)(H:Hp):Fact->Prop
 | .rep d v=>Rep A H d v
 | .fz a o u=>H a=some (.frz o u)
theorem Fact.ext(x:Ext A H H'):∀ {p:Fact},p.Holds A H->p.Holds A H'
 | .rep _ _,h=>Rep.ext x h
 | .fz _ _ _,h=>x.fz _ _ _ h
theorem Fact.av(x:∀a,A' a->A a\/H a=none):∀ {p:Fact},p.Holds A H->p.Holds A' H
 | .rep _ _,h=>Rep.av x h
 | .fz _ _ _,h=>h
theorem Fact.put(G:A a)(B:H a=some u)(F:M8 u):∀ {p:Fact},p.Holds A H->p.Holds A (upd H a o)
 | .rep _ _,h=>Rep.put G B F h
 | .fz b q w,h=>by
  have h:H b=some (.frz q w):=h;show upd H a o b=some (.frz q w);rw[aC (λz=>by subst z;rw[B]at h;cases h;exact F)];exact h
structure ST(H0:Hp)(A0 A:Av)(E:List Fact)(O:List Nat)(σ:L2.St)(H:Hp)(ρ:bK):Prop where
 ex:Ext A0 H0 H
 sub:∀a,A0 a->A a
 l0:∀a,A0 a->H0 a≠none
 live:∀a,A a->H a≠none
 len:σ.length=ρ.length
 val:∀i d,ρ[i]?=some (some d)->i∉O->∃v,σ[i]?=some (some v)/\Rep A H d v
 own:∀i d,ρ[i]?=some (some d)->i∈O->∃a,σ[i]?=some (some (.ref a))/\A a/\H0 a=none/\Own A H d a
 inj:∀i j d d' a,i∈O->j∈O->ρ[i]?=some (some d)->ρ[j]?=some (some d')->σ[i]?=some (some (.ref a))->σ[j]?=some (some (.ref a))->i=j
 ext:∀p∈E,p.Holds A H
section
variable {H0:Hp}{A0 A:Av}{E:List Fact}{O:List Nat}{σ:L2.St}{H H':Hp}{ρ:bK}
theorem ST.mono(s:ST H0 A0 A E O σ H ρ)(x:Ext A H H'):ST H0 A0 A E O σ H' ρ where
 ex:=s.ex.trans (x.mono s.sub)
 sub:=s.sub
 l0:=s.l0
 live:=λa q=>by
  have:=s.live a q;cases e:H a with
  | none=>exact absurd e this
  | some u=>rw[x.ow a u q e];exact λz=>nomatch z
 len:=s.len
 val:=λi d h n=>by obtain⟨v,h1,h2⟩:=s.val i d h n;exact⟨v,h1,h2.ext x⟩
 own:=λi d h n=>by obtain⟨a,h1,h2,B,F⟩:=s.own i d h n;exact⟨a,h1,h2,B,F.ext x h2⟩
 inj:=s.inj
 ext:=λp G=>Fact.ext x (s.ext p G)
theorem ST.more(s:ST H0 A0 A E O σ H ρ)(h:Rep A H d v):ST H0 A0 A (.rep d v::E) O σ H ρ:=
 {s with ext:=λp q=>by rcases List.mem_cons.mp q with e|e;rw[e];exact h;exact s.ext p e}
theorem ST.less(s:ST H0 A0 A E O σ H ρ)(h:∀p∈E',p∈E):ST H0 A0 A E' O σ H ρ:=
 {s with ext:=λp q=>s.ext p (h p q)}
theorem bV(h:(ρ.set i o)[j]?=some (some d)):(j=i/\o=some d/\i<ρ.length)\/(j≠i/\ρ[j]?=some (some d)):=by
 rw[List.getElem?_set]at h;by_cases e:i=j
 ·rw[if_pos e]at h
  by_cases l:i<ρ.length
  ·rw[if_pos l]at h
   exact .inl ⟨e.symm,UL h,l⟩
  ·rw[if_neg l]at h;cases h
 ·rw[if_neg e]at h
  exact .inr ⟨λz=>e z.symm,h⟩
theorem sig_set(h:i<σ.length):(σ.set i (some v))[i]?=some (some v):=by simp[h]
theorem d5(h:j≠i):(σ.set i (some v))[j]?=σ[j]?:=by rw[YU (UH h)]
theorem ST.put(s:ST H0 A0 A E O σ H ρ)(h:Rep A H d v)(n:i∉O):ST H0 A0 A E O (σ.set i (some v)) H (ρ.set i (some d)) where
 ex:=s.ex
 sub:=s.sub
 l0:=s.l0
 live:=s.live
 len:=by simp[s.len]
 val:=λj d' h' B=>by
  rcases bV h' with⟨e,q,l⟩|⟨e,q⟩
  ·subst e;cases q;exact⟨v,sig_set (by rw[s.len];exact l),h⟩
  ·obtain⟨w,h1,h2⟩:=s.val j d' q B;exact⟨w,by rw[d5 e];exact h1,h2⟩
 own:=λj d' h' B=>by
  rcases bV h' with⟨e,q,l⟩|⟨e,q⟩
  ·subst e;exact absurd B n
  ·obtain⟨w,h1,h2⟩:=s.own j d' q B;exact⟨w,by rw[d5 e];exact h1,h2⟩
 inj:=λj k W Y a J M h1 h2 F G=>by
  have U:j≠i:=λz=>n (z ▸ J)
  have N:k≠i:=λz=>n (z ▸ M)
  rcases bV h1 with⟨e,_⟩|⟨_,h1⟩
  ·exact absurd e U
  rcases bV h2 with⟨e,_⟩|⟨_,h2⟩
  ·exact absurd e N
  exact s.inj j k W Y a J M h1 h2 (by rw[d5 U]at F;exact F) (by rw[d5 N]at G;exact G)
 ext:=s.ext
theorem ST.shut(s:ST H0 A0 A E O σ H ρ)(h:∀i,i∈O'->i∈O):∃A',ST H0 A0 A' E O' σ H ρ:=by
 let F:Av:=λa=>∃i d,i∈O/\i∉O'/\ρ[i]?=some (some d)/\σ[i]?=some (some (.ref a))
 have cut:∀a,(A a/\¬ F a)->A a\/H a=none:=λa z=>.inl z.1
 refine⟨λa=>A a/\¬ F a,s.ex,λa G=>⟨s.sub a G,?_⟩,s.l0,λa G=>s.live a G.1,s.len,λi d hi n=>?_,λi d hi n=>?_,λi j d d' a hi hj=>s.inj i j d d' a (h i hi) (h j hj),λp Y=>Fact.av cut (s.ext p Y)⟩
 ·rintro⟨i,d,h1,h2,N,U⟩
  obtain⟨b,q,B,J,M⟩:=s.own i d N h1;rw[U]at q;cases q;exact s.l0 a G J
 ·by_cases W:i∈O
  ·obtain⟨a,q,B,J,M⟩:=s.own i d hi W
   exact⟨.ref a,q,(M.av cut).rep λz=>z.2 ⟨i,d,W,n,hi,q⟩⟩
  ·obtain⟨v,q,B⟩:=s.val i d hi W
   exact⟨v,q,B.av cut⟩
 ·obtain⟨a,q,B,J,M⟩:=s.own i d hi (h i n)
  refine⟨a,q,⟨B,?_⟩,J,M.av cut⟩;rintro⟨j,d',h1,h2,N,U⟩;have:=s.inj i j d d' a (h i n) h1 hi N q U;subst this;exact h2 n
end
abbrev Ev:=bK->Option D
abbrev Bv:=bK->Option Bool
abbrev Lv:=bK->Option (List D)
abbrev RR:=Av->Hp->D->V->Prop
inductive tD(R:RR)(O:List Nat)(f:Ev)(σ:L2.St)(H:Hp)(Q:VK):Prop
 | mk (H0:Hp) (A0 A:Av) (E:List Fact) (ρ:bK) (d:D) (st:ST H0 A0 A E O σ H ρ) (e:f ρ=some d) (q:∀v H',Ext A H H'->R A H' d v->Q v H'):tD R O f σ H Q
inductive tDT(O:List Nat)(g:Bv)(σ:L2.St)(H:Hp)(Q:Bool->Hp->Prop):Prop
 | mk (H0:Hp) (A0 A:Av) (E:List Fact) (ρ:bK) (b:Bool) (st:ST H0 A0 A E O σ H ρ) (e:g ρ=some b) (q:∀H',Ext A H H'->Q b H'):tDT O g σ H Q
def PD(X:Cx)(O:List Nat)(e:Expr)(f:Ev):Prop:=PE X e (tD Rep O f)
def PB(X:Cx)(O:List Nat)(e:Expr)(f:Ev):Prop:=PE X e (tD RepB O f)
def kB(X:Cx)(O:List Nat)(e:Expr)(g:Bv):Prop:=PT X e (tDT O g)
def PDW(X:Cx)(O:List Nat)(e:Expr)(g:Bv):Prop:=PW X e (tDT O g)
theorem PDW.pt(h:PDW X O e g):kB X O e g:=PW.pt h
inductive RL(R:RR)(A:Av)(H:Hp):List D->List V->Prop where
 | nil:RL R A H [] []
 | cons {d v ds vs} (h:R A H d v) (t:RL R A H ds vs):RL R A H (d::ds) (v::vs)
inductive tDA(R:RR)(O:List Nat)(f:Lv)(σ:L2.St)(H:Hp)(Q:List V->Hp->Prop):Prop
 | mk (H0:Hp) (A0 A:Av) (E:List Fact) (ρ:bK) (ds:List D) (st:ST H0 A0 A E O σ H ρ) (e:f ρ=some ds) (q:∀vs H',Ext A H H'->RL R A H' ds vs->Q vs H'):tDA R O f σ H Q
def tV(X:Cx)(O:List Nat)(es:List Expr)(f:Lv):Prop:=PA X es (tDA Rep O f)
def mR(X:Cx)(O:List Nat)(es:List Expr)(f:Lv):Prop:=PA X es (tDA RepB O f)
section
variable {X:Cx}{O:List Nat}
theorem PE.mono(h:PE X e t)(x:∀σ H Q,t' σ H Q->t σ H Q):PE X e t':=λpins s σ H Q I w=>h pins s σ H Q I (x σ H Q w)
theorem PT.mono(h:PT X e t)(x:∀σ H Q,t' σ H Q->t σ H Q):PT X e t':=λpins s σ H Q I w=>h pins s σ H Q I (x σ H Q w)
theorem PW.mono(h:PW X e t)(x:∀σ H Q,t' σ H Q->t σ H Q):PW X e t':=λq pins s σ H Q I w=>h q pins s σ H Q I (x σ H Q w)
theorem PA.mono(h:PA X es t)(x:∀σ H Q,t' σ H Q->t σ H Q):PA X es t':=λpos pins s σ H Q I w=>h pos pins s σ H Q I (x σ H Q w)
theorem PD.b{e:Expr}{f:Ev}(h:PD X O e f):PB X O e f:=PE.mono h λσ H Q ⟨H0,A0,A,E,ρ,d,st,e,q⟩=>⟨H0,A0,A,E,ρ,d,st,e,λv H' x r=>q v H' x (.of r)⟩
theorem RL.toL:∀ {ds:List D} {vs:List V},RL Rep A H ds vs->RepL A H ds vs
 | _,_,.nil=>.nil
 | _,_,.cons h t=>.cons h (RL.toL t)
def aL(i:Nat):Ev:=λρ=>(ρ[i]?).join
def eC(d:D):Ev:=λ_=>some d
theorem aX{ρ:bK}{i:Nat}{d:D}(h:(ρ[i]?).join=some d):ρ[i]?=some (some d):=by
 cases e:ρ[i]? with
 | none=>rw[e]at h;cases h
 | some o=>rw[e]at h;cases o with
  | none=>cases h
  | some x=>cases h;rfl
theorem KC{e:Expr}(i:Nat)(h:PE X e (gX i))(n:i∉O):PD X O e (aL i):=PE.mono h <| by
 rintro σ H Q ⟨H0,A0,A,E,ρ,d,st,e,q⟩;obtain⟨v,B,r⟩:=st.val i d (aX e) n;exact⟨v,B,q v H (Ext.refl _ _) r⟩
theorem LU{e:Expr}(i:Nat)(h:PE X e (gX i)):PB X O e (aL i):=PE.mono h <| by
 rintro σ H Q ⟨H0,A0,A,E,ρ,d,st,e,q⟩;by_cases n:i∈O
 ·obtain⟨a,B,_,_,r⟩:=st.own i d (aX e) n
  exact⟨_,B,q _ H (Ext.refl _ _) r.b⟩
 ·obtain⟨v,B,r⟩:=st.val i d (aX e) n
  exact⟨v,B,q v H (Ext.refl _ _) (.of r)⟩
theorem JX{i j pos}:PD X O (.Constant (.int i) j pos) (eC (.int i)):=PE.mono K6 λσ H Q ⟨H0,A0,A,E,ρ,d,st,e,q⟩=>by cases e;exact q _ H (Ext.refl _ _) (.int _)
theorem N3{i j pos}:PD X O (.Constant (.bool i) j pos) (eC (.bl i)):=PE.mono OE λσ H Q ⟨H0,A0,A,E,ρ,d,st,e,q⟩=>by cases e;exact q _ H (Ext.refl _ _) (.bl _)
theorem LC{i j pos}:PD X O (.Constant (.str i) j pos) (eC (.str i)):=PE.mono JY λσ H Q ⟨H0,A0,A,E,ρ,d,st,e,q⟩=>by cases e;exact q _ H (Ext.refl _ _) (.str _)
theorem JI{j pos}:PD X O (.Constant .none j pos) (eC .non):=PE.mono L5 λσ H Q ⟨H0,A0,A,E,ρ,d,st,e,q⟩=>by cases e;exact q _ H (Ext.refl _ _) .non
def Live(A:Av)(H:Hp):Prop:=∀a,A a->H a≠none
theorem Live.ext(l:Live A H)(x:Ext A H H'):Live A H':=λa q=>by
 cases e:H a with
 | none=>exact absurd e (l a q)
 | some u=>rw[x.ow a u q e];exact λz=>nomatch z
inductive rD(g:D->D->Option D)(x y:V)(H:Hp)(Q:VK):Prop
 | mk (A:Av) (dx dy d:D) (lv:Live A H) (rx:RepB A H dx x) (ry:RepB A H dy y) (e:g dx dy=some d) (q:∀v H',Ext A H H'->Rep A H' d v->Q v H'):rD g x y H Q
def dR(X:Cx)(f:Value->Value->Sem Value)(g:D->D->Option D):Prop:=OpR X f (rD g)
theorem OpR.mono(h:OpR X f r)(x:∀a b H Q,r' a b H Q->r a b H Q):OpR X f r':=λpins s σ H a b v u Q I q B w=>h pins s σ H a b v u Q I q B (x a b H Q w)
def bU(g:D->D->Option D)(B q:Ev):Ev:=λρ=>(B ρ).bind λx=>(q ρ).bind λy=>g x y
theorem bind_some{B q:Type}{o:Option B}{f:B->Option q}{b:q}(h:o.bind f=some b):∃a,o=some a/\f a=some b:=by
 cases o with
 | none=>cases h
 | some a=>exact⟨a,rfl,h⟩
theorem qE{g:D->D->Option D}{J G:Ev}{σ:L2.St}{H:Hp}{Q:VK}(h:tD Rep O (bU g J G) σ H Q):M7 (rD g) (tD RepB O J) (tD RepB O G) σ H Q:=by
 obtain⟨H0,A0,A,E,ρ,d,st,e,q⟩:=h;obtain⟨x,ex,e⟩:=bind_some e;obtain⟨y,U,e⟩:=bind_some e;exact⟨H0,A0,A,E,ρ,x,st,ex,λv H1 F M=>⟨H0,A0,A,E,ρ,y,st.mono F,U,λw H2 B r2=>⟨A,x,y,d,(st.mono (F.trans B)).live,M.ext B,r2,e,λz W Y N=>q z W ((F.trans B).trans Y) N⟩⟩⟩
theorem OM(B:dR X (UQ op) g)(q:PB X O a fa)(F:PB X O b fb):PD X O (.BinOp a op b pos) (bU g fa fb):=
 PE.mono (II B q F) λσ H Q h=>qE h
theorem LW(q:dR X (TY op) g)(G:PB X O a fa)(F:PB X O b fb)(B:WS op b=false):PD X O (.Compare a [op] [b] pos) (bU g fa fb):=
 PE.mono (EU q G F B) λσ H Q h=>qE h
noncomputable def tX:D->Option Bool
 | .bl b=>some b
 | _=>none
theorem cW(h:tX d=some b):d=.bl b:=by
 cases d <;> cases h;rfl
def mS(f:Ev):Bv:=λρ=>(f ρ).bind tX
theorem eW{f:Ev}{σ:L2.St}{H:Hp}{Q:Bool->Hp->Prop}(h:tDT O (mS f) σ H Q):tD Rep O f σ H λx H'=>∃k,x=.bl k/\Q k H':=by
 obtain⟨H0,A0,A,E,ρ,b,st,e,q⟩:=h;obtain⟨x,ex,e⟩:=bind_some e;rw[cW e]at ex;exact⟨H0,A0,A,E,ρ,_,st,ex,λv H1 F B=>⟨b,RepB.bl_inv (.of B),q H1 F⟩⟩
theorem wX(q:dR X (TY op) g)(G:PB X O a fa)(F:PB X O b fb)(B:WS op b=false):kB X O (.Compare a [op] [b] pos) (mS (bU g fa fb)):=
 PT.mono (wC q G F B) λσ H Q h=>qE (eW h)
theorem EZ(h:PD X O e f)(B:∀q,isTrue e X.env q=(do let v <- q;standAt e.pos;WR [v] (truthy v)):=by intro _;rfl):kB X O e (mS f):=
 PT.mono (DB h B) λσ H Q h=>eW h
def DW(g:Bv):Bv:=λρ=>(g ρ).map (!·)
def G7(g h:Bv):Bv:=λρ=>(g ρ).bind λb=>if b=true then h ρ else some false
def PX(g h:Bv):Bv:=λρ=>(g ρ).bind λb=>if b=true then some true else h ρ
theorem ES(h:kB X O a g):kB X O (.UnaryOp .Not a pos) (DW g):=PT.mono (CQ h) <| by
 rintro σ H Q ⟨H0,A0,A,E,ρ,b,st,e,q⟩;unfold DW at e;cases z:g ρ with
 | none=>rw[z]at e;cases e
 | some c=>rw[z]at e;cases e;exact⟨H0,A0,A,E,ρ,c,st,z,q⟩
theorem AY(h:kB X O a g):PDW X O (.BoolOp .And [a] pos) g:=EY h
theorem EM(h:kB X O a g):PDW X O (.BoolOp .Or [a] pos) g:=J2 h
theorem FH{a b:Expr}{rest:List Expr}{pos:Pos}{g k:Bv}(F:kB X O a g)(J:PDW X O (.BoolOp .And (b::rest) pos) k):PDW X O (.BoolOp .And (a::b::rest) pos) (G7 g k):=
 PW.mono (KJ F J) <| by
  rintro σ H Q ⟨H0,A0,A,E,ρ,b,st,e,q⟩;obtain⟨x,ex,e⟩:=bind_some e;refine⟨H0,A0,A,E,ρ,x,st,ex,λH1 B=>?_⟩;cases x with
  | false=>rw[if_neg T3]at e ⊢;cases e;exact q H1 B
  | true=>rw[if_pos rfl]at e ⊢;exact⟨H0,A0,A,E,ρ,b,st.mono B,e,λH2 G=>q H2 (B.trans G)⟩
theorem LO{a b:Expr}{rest:List Expr}{pos:Pos}{g k:Bv}(F:kB X O a g)(J:PDW X O (.BoolOp .Or (b::rest) pos) k):PDW X O (.BoolOp .Or (a::b::rest) pos) (PX g k):=
 PW.mono (OP F J) <| by
  rintro σ H Q ⟨H0,A0,A,E,ρ,b,st,e,q⟩;obtain⟨x,ex,e⟩:=bind_some e;refine⟨H0,A0,A,E,ρ,x,st,ex,λH1 B=>?_⟩;cases x with
  | true=>rw[if_pos rfl]at e ⊢;cases e;exact q H1 B
  | false=>rw[if_neg T3]at e ⊢;exact⟨H0,A0,A,E,ρ,b,st.mono B,e,λH2 G=>q H2 (B.trans G)⟩
def PL(f g:Ev):Ev:=λρ=>(f ρ).bind λx=>(tX x).bind λb=>if b=true then g ρ else some (.bl false)
def OX(f:Ev):Ev:=λρ=>(f ρ).bind λx=>(tX x).map λb=>.bl (!b)
theorem KR{op}(h:PD X O a f):PD X O (.BoolOp op [a] pos) f:=L1 h
theorem LH{a b:Expr}{rest:List Expr}{pos:Pos}{f g:Ev}(G:PD X O a f)(M:PD X O (.BoolOp .And (b::rest) pos) g):PD X O (.BoolOp .And (a::b::rest) pos) (PL f g):=
 PE.mono (LL G M) <| by
  rintro σ H Q ⟨H0,A0,A,E,ρ,d,st,e,q⟩;obtain⟨x,ex,e⟩:=bind_some e;obtain⟨b,N,e⟩:=bind_some e;rw[cW N]at ex;refine⟨H0,A0,A,E,ρ,_,st,ex,λv H1 B J=>⟨b,RepB.bl_inv (.of J),?_⟩⟩;cases b with
  | false=>rw[if_neg T3]at e ⊢;cases e;exact q _ H1 B (.bl _)
  | true=>rw[if_pos rfl]at e ⊢;exact⟨H0,A0,A,E,ρ,d,st.mono B,e,λw H2 F=>q w H2 (B.trans F)⟩
theorem JP{a:Expr}{pos:Pos}{f:Ev}(B:PD X O a f):PD X O (.UnaryOp .Not a pos) (OX f):=
 PE.mono (K8 B) <| by
  rintro σ H Q ⟨H0,A0,A,E,ρ,d,st,e,q⟩;obtain⟨x,ex,e⟩:=bind_some e;cases z:tX x with
  | none=>rw[z]at e;cases e
  | some b=>
   rw[z]at e;cases e;rw[cW z]at ex;exact⟨H0,A0,A,E,ρ,_,st,ex,λv H1 G F=>⟨b,RepB.bl_inv (.of F),q _ H1 G (.bl _)⟩⟩
def d6(g g':D->D->Option D)(B q F:Ev):Ev:=λρ=>(B ρ).bind λx=>(q ρ).bind λy=>(g x y).bind λz=>(tX z).bind λb=>if b=true then(F ρ).bind λw=>g' y w else some (.bl false)
end
section
variable {X:Cx}{O:List Nat}
theorem nK(h:tD Rep O (d6 g g' fa fb fc) σ H Q):vN (rD g) (rD g') (tD RepB O fa) (tD RepB O fb) (tD RepB O fc) σ H Q:=by
 obtain⟨H0,A0,A,E,ρ,d,st,e,q⟩:=h;obtain⟨x,ex,e⟩:=bind_some e;obtain⟨y,ey,e⟩:=bind_some e;obtain⟨z,N,e⟩:=bind_some e;obtain⟨b,eb,e⟩:=bind_some e;rw[cW eb]at N;refine⟨H0,A0,A,E,ρ,x,st,ex,λv H1 G r1=>⟨H0,A0,A,E,ρ,y,st.mono G,ey,λw H2 J U=>⟨A,x,y,_,(st.mono (G.trans J)).live,r1.ext J,U,N,λz H3 M r3=>⟨b,RepB.bl_inv (.of r3),?_⟩⟩⟩⟩;have B:=(G.trans J).trans M;cases b with
 | false=>rw[if_neg T3]at e ⊢;cases e;exact q _ H3 B (.bl _)
 | true=>
  rw[if_pos rfl]at e ⊢;obtain⟨u,Y,e⟩:=bind_some e;exact⟨H0,A0,A,E,ρ,u,st.mono B,Y,λz' H4 F r4=>⟨A,y,u,d,(st.mono (B.trans F)).live,U.ext (M.trans F),r4,e,λz2 W x5 r5=>q z2 W ((B.trans F).trans x5) r5⟩⟩
theorem AU(F:dR X (TY op) g)(q:dR X (TY op') g')(B:PB X O a fa)(M:PB X O b fb)(G:PB X O c fc)
  (J:XA [op,op'] [b,c]=false:=by with_unfolding_all rfl):PD X O (.Compare a [op,op'] [b,c] pos) (d6 g g' fa fb fc):=PE.mono (B7 F q B M G J) λσ H Q h=>nK h
theorem yL(F:dR X (TY op) g)(q:dR X (TY op') g')(B:PB X O a fa)(M:PB X O b fb)(G:PB X O c fc)
  (J:XA [op,op'] [b,c]=false:=by with_unfolding_all rfl):kB X O (.Compare a [op,op'] [b,c] pos) (mS (d6 g g' fa fb fc)):=PT.mono (AO F q B M G J) λσ H Q h=>nK (eW h)
def bO:Lv:=λ_=>some []
def aK(f:Ev)(g:Lv):Lv:=λρ=>(f ρ).bind λx=>(g ρ).bind λxs=>some (x::xs)
theorem FD:tV X O [] bO:=PA.mono jD λσ H Q ⟨H0,A0,A,E,ρ,d,st,e,q⟩=>by cases e;exact q [] H (Ext.refl _ _) .nil
theorem wH:mR X O [] bO:=PA.mono jD λσ H Q ⟨H0,A0,A,E,ρ,d,st,e,q⟩=>by cases e;exact q [] H (Ext.refl _ _) .nil
theorem rL(M:∀A H H' d v,Ext A H H'->R A H d v->R A H' d v)(h:tDA R O (aK f g) σ H Q):xP (tD R O f) (tDA R O g) σ H Q:=by
 obtain⟨H0,A0,A,E,ρ,d,st,e,q⟩:=h;obtain⟨x,ex,e⟩:=bind_some e;obtain⟨xs,B,e⟩:=bind_some e;cases e;exact⟨H0,A0,A,E,ρ,x,st,ex,λv H1 G J=>⟨H0,A0,A,E,ρ,xs,st.mono G,B,λvs H2 F N=>q (v::vs) H2 (G.trans F) (.cons (M _ _ _ _ _ F J) N)⟩⟩
theorem BR(q:PD X O e f)(B:tV X O es g)(hs:TL (e::es) X.env=(false,eval e X.env)::TL es X.env:=by rfl):tV X O (e::es) (aK f g):=
 PA.mono (dE q B hs) λσ H Q h=>rL (λ_ _ _ _ _ x r=>r.ext x) h
theorem sC(q:PB X O e f)(B:mR X O es g)(hs:TL (e::es) X.env=(false,eval e X.env)::TL es X.env:=by rfl):mR X O (e::es) (aK f g):=
 PA.mono (dE q B hs) λσ H Q h=>rL (λ_ _ _ _ _ x r=>r.ext x) h
inductive tF(O:List Nat)(f:Ev)(σ:L2.St)(H:Hp)(Q:VK):Prop
 | mk (H0:Hp) (A0 A:Av) (E:List Fact) (ρ:bK) (d:D) (st:ST H0 A0 A E O σ H ρ) (e:f ρ=some d) (q:∀a H',Ext A H H'->H a=none->¬ A a->Own (λb=>A b\/b=a) H' d a->Q (.ref a) H'):tF O f σ H Q
def PF(X:Cx)(O:List Nat)(e:Expr)(f:Ev):Prop:=PE X e (tF O f)
theorem PF.d(h:PF X O e f):PD X O e f:=PE.mono h λσ H Q ⟨H0,A0,A,E,ρ,d,st,e,q⟩=>
 ⟨H0,A0,A,E,ρ,d,st,e,λa H' x n F o=>q _ H' x ((o.av (A':=A) λb B=>.inl (.inl B)).rep F)⟩
theorem RepL.fresh(n:H p=none)(r:RepL A H ds vs):RepL (λb=>A b\/b=p) (upd H p o) ds vs:=by
 have B:RepL (λb=>A b\/b=p) H ds vs:=r.av λb q=>by
  rcases q with q|q
  ·exact .inl q
  ·exact .inr (q ▸ n)
 exact B.ext (Ext.new n)
theorem Ext.free(x:Ext A H H')(n:H' p=none):H p=none:=by
 cases e:H p with
 | none=>rfl
 | some u=>rcases x.rd p u (.inl e)with h|⟨o,h⟩ <;> (rw[n]at h;cases h)
def gT(g:Lv):Ev:=λρ=>(g ρ).map .tup
def zY(g:Lv):Ev:=λρ=>(g ρ).map .lst
theorem RL.length:∀ {ds:List D} {vs:List V},RL R A H ds vs->vs.length=ds.length
 | _,_,.nil=>rfl
 | _,_,.cons _ t=>by rw[UK,UK,RL.length t]
noncomputable def aV(n:Nat):Bool:=decide (n<=1000000)
theorem dF(h:aV n=true):n<=TQ:=UV (of_decide_eq_true h) (by decide)
theorem kG(h:aV n=true):n<TQ:=ZD (of_decide_eq_true h) (by decide)
theorem map_some{B q:Type}{o:Option B}{f:B->q}{b:q}(h:o.map f=some b):∃a,o=some a/\f a=b:=by
 cases o with
 | none=>cases h
 | some a=>exact⟨a,rfl,UL h⟩
def Len(g:Lv)(n:Nat):Prop:=∀ρ ds,g ρ=some ds->ds.length=n
theorem FZ:Len bO 0:=λρ ds h=>by cases h;rfl
theorem BP(h:Len g n):Len (aK f g) (n+1):=λρ ds e=>by
 obtain⟨x,ex,e⟩:=bind_some e;obtain⟨xs,q,e⟩:=bind_some e;cases e;rw[UK,h ρ xs q]
theorem MF{es:List Expr}{B}{pos:Pos}{g:Lv}(h:tV X O es g)(M:∀ρ ds,g ρ=some ds->ds.length<=100):PD X O (.Tuple es B pos) (gT g):=PE.mono (K0 h) <| by
 rintro σ H Q ⟨H0,A0,A,E,ρ,d,st,e,q⟩;obtain⟨ds,J,rfl⟩:=map_some e;refine⟨H0,A0,A,E,ρ,ds,st,J,λvs H1 B G=>⟨by rw[G.length];exact UV (M ρ ds J) (by decide),λp F=>?_⟩⟩;exact q _ _ (B.trans (Ext.new F)) (.tup aJ (G.toL.ext (Ext.new F)))
theorem ME{es:List Expr}{pos:Pos}{g:Lv}(h:tV X O es g)(M:∀ρ ds,g ρ=some ds->ds.length<=100):PF X O (.List es pos) (zY g):=PE.mono (KS h) <| by
 rintro σ H Q ⟨H0,A0,A,E,ρ,d,st,e,q⟩;obtain⟨ds,J,rfl⟩:=map_some e;refine⟨H0,A0,A,E,ρ,ds,st,J,λvs H1 F G=>⟨by rw[G.length];exact UV (M ρ ds J) (by decide),λp B=>?_⟩⟩;exact q p _ (F.trans (Ext.new B)) (F.free B) (λz=>(st.mono F).live p z B) (.lst aJ (G.toL.fresh B))
theorem l8:PF X O (.Dict [] [] pos) (eC (.dT [])):=PE.mono BA <| by
 rintro σ H Q ⟨H0,A0,A,E,ρ,d,st,e,q⟩ p B;cases e;exact q p _ (Ext.new B) B (λz=>st.live p z B) (.dT aJ rfl .nil)
inductive rC(g:List D->Option D)(xs:List V)(H:Hp)(Q:VK):Prop
 | mk (A:Av) (ds:List D) (d:D) (lv:Live A H) (r:RL RepB A H ds xs) (e:g ds=some d) (q:∀v H',Ext A H H'->Rep A H' d v->Q v H'):rC g xs H Q
inductive rCF(g:List D->Option D)(xs:List V)(H:Hp)(Q:VK):Prop
 | mk (A:Av) (ds:List D) (d:D) (lv:Live A H) (r:RL RepB A H ds xs) (e:g ds=some d) (q:∀a H',Ext A H H'->H a=none->¬ A a->Own (λb=>A b\/b=a) H' d a->Q (.ref a) H'):rCF g xs H Q
def e9(X:Cx)(f:Value)(g:List D->Option D):Prop:=CallR X f (rC g)
def DL(X:Cx)(f:Value)(g:List D->Option D):Prop:=CallR X f (rCF g)
theorem CallR.mono(h:CallR X f r)(x:∀a H Q,r' a H Q->r a H Q):CallR X f r':=λpins s σ H a v Q I q w=>h pins s σ H a v Q I q (x a H Q w)
def aW(g:List D->Option D)(f:Lv):Ev:=λρ=>(f ρ).bind g
theorem nQ(h:tD Rep O (aW g f) σ H Q):P5 (rC g) (tDA RepB O f) σ H Q:=by
 obtain⟨H0,A0,A,E,ρ,d,st,e,q⟩:=h;obtain⟨ds,J,e⟩:=bind_some e;exact⟨H0,A0,A,E,ρ,ds,st,J,λvs H1 B G=>⟨A,ds,d,(st.mono B).live,G,e,λv H2 F M=>q v H2 (B.trans F) M⟩⟩
theorem zG(h:tF O (aW g f) σ H Q):P5 (rCF g) (tDA RepB O f) σ H Q:=by
 obtain⟨H0,A0,A,E,ρ,d,st,e,q⟩:=h;obtain⟨ds,M,e⟩:=bind_some e;exact⟨H0,A0,A,E,ρ,ds,st,M,λvs H1 B G=>⟨A,ds,d,(st.mono B).live,G,e,λa H2 F n J o=>q a H2 (B.trans F) (B.free n) J o⟩⟩
section
variable {x:Str}{id T:String}{g:List D->Option D}{e:Expr}{es:List Expr}{f:Lv}{p pos:Pos}
theorem AR(M:e9 X (.builtin id) g)(F:Gl X x)(N:X.mg x=none)(U:UM x=some (.builtin id))(J:mR X O (e::es) f)(W:x ≠ "__name__" := by decide)(B:(x == ("__debug__" : Str))=false:=by decide)
  (G:TL (e::es) X.env=(false,eval e X.env)::TL es X.env:=by rfl) (q:(UD pos (TL es X.env)).any (·.1)=false:=by rfl) :
  PD X O (.Call (.Name x p) (e::es) [] pos) (aW g f):=PE.mono (lW M F N U J W B G q) λσ H Q h=>nQ h
theorem yU(M:e9 X (.type T) g)(F:Gl X x)(N:X.mg x=none)(U:UM x=some (.type T))(J:mR X O (e::es) f)(W:x ≠ "__name__" := by decide)(B:(x == ("__debug__" : Str))=false:=by decide)
  (G:TL (e::es) X.env=(false,eval e X.env)::TL es X.env:=by rfl) (q:(UD pos (TL es X.env)).any (·.1)=false:=by rfl) :
  PD X O (.Call (.Name x p) (e::es) [] pos) (aW g f):=PE.mono (oN M F N U J W B G q) λσ H Q h=>nQ h
theorem zR(M:DL X (.type T) g)(F:Gl X x)(N:X.mg x=none)(U:UM x=some (.type T))(J:mR X O (e::es) f)(W:x ≠ "__name__" := by decide)(B:(x == ("__debug__" : Str))=false:=by decide)
  (G:TL (e::es) X.env=(false,eval e X.env)::TL es X.env:=by rfl) (q:(UD pos (TL es X.env)).any (·.1)=false:=by rfl) :
  PF X O (.Call (.Name x p) (e::es) [] pos) (aW g f):=PE.mono (oN M F N U J W B G q) λσ H Q h=>zG h
end
def SR(n:Nat)(F:List D->Option D):Sp:=λvs H Q _=>∃A ds d,Live A H/\RepL A H ds vs/\vs.length=n/\F ds=some d/\∀v H',Ext A H H'->Rep A H' d v->Q v H'
def Fn(P:TN)(w:World)(K:TK)(mg:Str->Option Value)(base:Heap)(x:Str)(k:Nat)(ps:List Str)(F:List D->Option D):Prop:=My.Ok P w K mg base x k ps (SR ps.length F)
theorem Fn.mono{P:TN}{w:World}{K:TK}{mg:Str->Option Value}{base:Heap}{x:Str}{j k:Nat}{ps:List Str}{F:List D->Option D}(h:Fn P w K mg base x j ps F)(l:j<=k):Fn P w K mg base x k ps F:=My.Ok.mono h l
theorem FE(O':Fn X.prog X.w X.K X.mg X.base x k ps F)(hr:Room k X.A)(U:Gl X x)(ha:tV X O (e::es) f)(Y:∀ρ ds,f ρ=some ds->ds.length=ps.length)(G:(x == ("__debug__" : Str))=false:=by decide)
  (he:TL (e::es) X.env=(false,eval e X.env)::TL es X.env:=by rfl) (B:(UD pos (TL es X.env)).any (·.1)=false:=by rfl) :
  PD X O (.Call (.Name x p) (e::es) [] pos) (aW F f):=PE.mono (My.sD O' hr U ha G he B) λσ H Q ⟨H0,A0,A,E,ρ,d,st,e,q⟩=>by
 obtain⟨ds,N,e⟩:=bind_some e;exact⟨H0,A0,A,E,ρ,ds,st,N,λvs H1 M J=>⟨A,ds,d,(st.mono M).live,J.toL,by rw[J.length];exact Y ρ ds N,e,λv H2 W r2=>q v H2 (M.trans W) r2⟩⟩
theorem IxR.mono(h:IxR X r)(x:∀a b H Q,r' a b H Q->r a b H Q):IxR X r':=λB G pins s σ H a b v u Q I q F w=>h B G pins s σ H a b v u Q I q F (x a b H Q w)
def P0:D->D->Option D
 | .lst l,.int i=>c7 l i
 | .tup l,.int i=>c7 l i
 | .str z,.int i=>if aV z.length then(c7 z.cps.toList i).map λc=>.str ⟨#[c]⟩else none
 | _,_=>none
theorem RepL.at(r:RepL A H ds vs)(h:c7 ds i=some d):∃v,c7 vs i=some v/\Rep A H d v:=by
 obtain⟨j,F,G⟩:=bind_some h;obtain⟨v,B,q⟩:=r.get' G;refine⟨v,?_,q⟩;unfold c7;rw[r.length,F];exact B
theorem Q6:IxR X (rD P0):=IxR.mono IW <| by
 rintro x y H Q ⟨A,dx,M,d,N,F,J,e,q⟩;cases M with
 | int i=>
  have:=J.int_inv;subst this;cases dx with
  | lst l=>
   obtain⟨a,xs,rfl,h,r⟩:=F.lst_inv;obtain⟨v,B,G⟩:=r.at e;exact .inl ⟨a,xs,i,v,rfl,rfl,.inl h,B,q v H (Ext.refl _ _) G⟩
  | tup l=>
   obtain⟨a,xs,rfl,h,r⟩:=F.tup_inv;obtain⟨v,B,G⟩:=r.at e;exact .inr (.inl ⟨a,xs,i,v,rfl,rfl,.inl (.inl h),B,q v H (Ext.refl _ _) G⟩)
  | str z=>
   have:=F.str_inv;subst this;simp only[P0]at e;by_cases hz:aV z.length=true
   ·rw[if_pos hz]at e
    obtain⟨c,B,rfl⟩:=map_some e;exact .inr (.inr ⟨z,i,c,rfl,rfl,dF hz,B,q _ H (Ext.refl _ _) (.str _)⟩)
   ·rw[if_neg hz]at e;cases e
  | _=>cases e
 | _=>cases dx <;> cases e
abbrev Ov:=bK->Option (Option Int)
inductive tDO(O:List Nat)(g:Ov)(σ:L2.St)(H:Hp)(Q:Option Int->Hp->Prop):Prop
 | mk (H0:Hp) (A0 A:Av) (E:List Fact) (ρ:bK) (o:Option Int) (st:ST H0 A0 A E O σ H ρ) (e:g ρ=some o) (q:∀H',Ext A H H'->Q o H'):tDO O g σ H Q
def IN(X:Cx)(O:List Nat)(e:Option Expr)(g:Ov):Prop:=PO X e (tDO O g)
theorem PO.mono(h:PO X e t)(x:∀σ H Q,t' σ H Q->t σ H Q):PO X e t':=λpins s σ H Q I w=>h pins s σ H Q I (x σ H Q w)
def tP:Ov:=λ_=>some none
noncomputable def MY:D->Option Int
 | .int i=>some i
 | _=>none
theorem lV(h:MY d=some i):d=.int i:=by cases d <;> cases h;rfl
def mO(f:Ev):Ov:=λρ=>(f ρ).bind λd=>(MY d).map some
theorem BK:IN X O none tP:=PO.mono G3 λσ H Q ⟨H0,A0,A,E,ρ,d,st,e,q⟩=>by cases e;exact q H (Ext.refl _ _)
theorem BH{e:Expr}{f:Ev}(h:PD X O e f):IN X O (some e) (mO f):=PO.mono (EJ h) <| by
 rintro σ H Q ⟨H0,A0,A,E,ρ,d,st,e,q⟩;obtain⟨x,ex,e⟩:=bind_some e;obtain⟨i,B,rfl⟩:=map_some e;rw[lV B]at ex;exact⟨H0,A0,A,E,ρ,_,st,ex,λv H1 G F=>⟨i,RepB.int_inv (.of F),q H1 G⟩⟩
def cutD(xs:List D)(lo hi:Option Int):List D:=(xs.drop (HT.sIx xs.length 0 lo)).take (HT.sIx xs.length xs.length hi-HT.sIx xs.length 0 lo)
theorem RepL.cut{ds:List D}{vs:List V}{lo hi:Option Int}(r:RepL A H ds vs):RepL A H (cutD ds lo hi) (nC vs lo hi):=by
 unfold cutD nC;rw[r.length];exact(r.drop _).take _
def IL(g:D->Option Int->Option Int->Option D)(f:Ev)(a b:Ov):Ev:=λρ=>(f ρ).bind λx=>(a ρ).bind λlo=>(b ρ).bind λhi=>g x lo hi
inductive rS(g:D->Option Int->Option Int->Option D)(x:V)(lo hi:Option Int)(H:Hp)(Q:VK):Prop
 | mk (A:Av) (dx d:D) (lv:Live A H) (r:RepB A H dx x) (e:g dx lo hi=some d) (q:∀v H',Ext A H H'->Rep A H' d v->Q v H'):rS g x lo hi H Q
inductive rSF(g:D->Option Int->Option Int->Option D)(x:V)(lo hi:Option Int)(H:Hp)(Q:VK):Prop
 | mk (A:Av) (dx d:D) (lv:Live A H) (r:RepB A H dx x) (e:g dx lo hi=some d) (q:∀a H',Ext A H H'->H a=none->¬ A a->Own (λb=>A b\/b=a) H' d a->Q (.ref a) H'):rSF g x lo hi H Q
theorem SlR.mono(h:SlR X r)(x:∀a b c H Q,r' a b c H Q->r a b c H Q):SlR X r':=λpins s σ H a v q B lo hi M Q I F hs J G w=>h pins s σ H a v q B lo hi M Q I F hs J G (x a lo hi H Q w)
def RN:D->Option Int->Option Int->Option D
 | .tup l,lo,hi=>some (.tup (cutD l lo hi))
 | _,_,_=>none
def OS:D->Option Int->Option Int->Option D
 | .lst l,lo,hi=>some (.lst (cutD l lo hi))
 | _,_,_=>none
theorem AW{lo hi:Option Expr}{g:D->Option Int->Option Int->Option D}{a b:Ov}(hr:SlR X (rS g))(N:PB X O e f)(M:IN X O lo a)(U:IN X O hi b):PD X O (.Subscript e (.Slice lo hi none p2) pos) (IL g f a b):=
 PE.mono (A8 hr N M U) <| by
  rintro σ H Q ⟨H0,A0,A,E,ρ,d,st,e,q⟩;obtain⟨x,ex,e⟩:=bind_some e;obtain⟨l,el,e⟩:=bind_some e;obtain⟨h,eh,e⟩:=bind_some e;exact⟨H0,A0,A,E,ρ,x,st,ex,λv H1 F Y=>⟨H0,A0,A,E,ρ,l,st.mono F,el,λH2 B=>⟨H0,A0,A,E,ρ,h,st.mono (F.trans B),eh,λH3 G=>⟨A,x,d,(st.mono ((F.trans B).trans G)).live,Y.ext (B.trans G),e,λv W J r4=>q v W (((F.trans B).trans G).trans J) r4⟩⟩⟩⟩
theorem QO:SlR X (rS RN):=SlR.mono My.GA <| by
 rintro x lo hi H Q ⟨A,dx,d,J,F,e,q⟩;cases dx with
 | tup l=>
  obtain⟨a,xs,rfl,h,r⟩:=F.tup_inv;cases e;by_cases w:HT.sIx xs.length 0 lo=0/\HT.sIx xs.length xs.length hi=xs.length
  ·refine .inr ⟨a,xs,rfl,.inl (.inl h),w,q _ H (Ext.refl _ _) (.tup h ?_)⟩
   have G:nC xs lo hi=xs:=by unfold nC;rw[w.1,w.2];simp
   rw[<- G];exact r.cut
  ·exact .inl ⟨a,xs,rfl,.inl (.inl h),w,λp B=>q _ _ (Ext.new B) (.tup aJ (r.cut.ext (Ext.new B)))⟩
 | _=>cases e
theorem RK:SlR X (rSF OS):=SlR.mono FM <| by
 rintro x lo hi H Q ⟨A,dx,d,F,G,e,q⟩;cases dx with
 | lst l=>
  obtain⟨a,xs,rfl,h,r⟩:=G.lst_inv;cases e;exact⟨a,xs,rfl,.inl h,λp B=>q p _ (Ext.new B) B (λz=>F p z B) (.lst aJ (r.cut.fresh B))⟩
 | _=>cases e
end
inductive Out where
 | nx (ρ:bK)|rt (d:D)|bk (ρ:bK)|ct (ρ:bK)
abbrev Sv:=bK->Option Out
structure Lp where
 ob:List Nat
 oc:List Nat
def Q9(L:Lp)(H0:Hp)(A0:Av)(E:List Fact)(O':List Nat)(T:Ends):Out->Prop
 | .nx ρ=>∀A σ H,ST H0 A0 A E O' σ H ρ->T.nx σ H
 | .rt d=>∀v H,Ext A0 H0 H->Rep A0 H d v->T.rt v H
 | .bk ρ=>∀A σ H,ST H0 A0 A E L.ob σ H ρ->T.bk σ H
 | .ct ρ=>∀A σ H,ST H0 A0 A E L.oc σ H ρ->T.ct σ H
inductive tS(L:Lp)(O:List Nat)(f:Sv)(O':List Nat)(T:Ends)(σ:L2.St)(H:Hp):Prop
 | mk (H0:Hp) (A0 A:Av) (E:List Fact) (ρ:bK) (out:Out) (st:ST H0 A0 A E O σ H ρ) (e:f ρ=some out) (p:Q9 L H0 A0 E O' T out):tS L O f O' T σ H
def PSD(X:Cx)(L:Lp)(O:List Nat)(st:Stmt)(f:Sv)(O':List Nat):Prop:=PS X st (tS L O f O')
def PSDs(X:Cx)(L:Lp)(O:List Nat)(st:List Stmt)(f:Sv)(O':List Nat):Prop:=PSs X st (tS L O f O')
section
variable {X:Cx}{L:Lp}{O O' O2:List Nat}
theorem PS.mono{st:Stmt}{t t':TS}(h:PS X st t)(x:∀T σ H,t' T σ H->t T σ H):PS X st t':=λpins s σ H T I w=>h pins s σ H T I (x T σ H w)
theorem PSs.mono{st:List Stmt}{t t':TS}(h:PSs X st t)(x:∀T σ H,t' T σ H->t T σ H):PSs X st t':=λpins s σ H T I w=>h pins s σ H T I (x T σ H w)
noncomputable def Sub(a b:List Nat):Bool:=a.all λi=>b.contains i
theorem Sub.mem(h:Sub a b=true)(i:Nat)(hi:i∈a):i∈b:=by
 have:=(List.all_eq_true.mp h) i hi;simpa using this
theorem tS.pre(h:Sub O1 O=true)(t:tS L O f O' T σ H):tS L O1 f O' T σ H:=by
 obtain⟨H0,A0,A,E,ρ,B,st,e,p⟩:=t;obtain⟨A',q⟩:=st.shut (Sub.mem h);exact⟨H0,A0,A',E,ρ,B,q,e,p⟩
theorem PSDs.pre{st:List Stmt}{O1:List Nat}(t:PSDs X L O1 st f O')(h:Sub O1 O=true):PSDs X L O st f O':=PSs.mono t λT σ H z=>tS.pre h z
theorem PSD.pre{st:Stmt}{f:Sv}{O1:List Nat}(t:PSD X L O1 st f O')(h:Sub O1 O=true):PSD X L O st f O':=PS.mono t λT σ H z=>tS.pre h z
def HQ:Sv:=λρ=>some (.nx ρ)
def bT(f g:Sv):Sv:=λρ=>(f ρ).bind λo=>match o with
 | .nx ρ'=>g ρ'
 | o=>some o
theorem qA(h:Sub O' O=true:=by rfl):PSDs X L O [] HQ O':=PSs.mono wW <| by
 rintro T σ H ⟨H0,A0,A,E,ρ,B,st,e,p⟩;cases e;obtain⟨A',q⟩:=st.shut (Sub.mem h);exact p A' σ H q
theorem F2(h:tS L O (bT f g) O' T σ H):O6 (tS L O f O2) (tS L O2 g O') T σ H:=by
 obtain⟨H0,A0,A,E,ρ,B,st,e,p⟩:=h;obtain⟨o,G,e⟩:=bind_some e;refine⟨H0,A0,A,E,ρ,o,st,G,?_⟩;cases o with
 | nx ρ'=>exact λA' F H' q=>⟨H0,A0,A',E,ρ',B,q,e,p⟩
 | rt d=>cases e;exact p
 | bk d=>cases e;exact p
 | ct d=>cases e;exact p
theorem BO{st:Stmt}{rest:List Stmt}{f g:Sv}(h1:PSD X L O st f O2)(h2:PSDs X L O2 rest g O'):PSDs X L O (st::rest) (bT f g) O':=PSs.mono (sF h1 h2) λT σ H h=>F2 h
theorem aG{st:Stmt}{f:Sv}(h1:PSD X L O st f O'):PSDs X L O [st] f O':=w6 h1
def MZ(f:Ev):Sv:=λρ=>(f ρ).map .rt
theorem GS{e:Expr}{pos:Pos}{f:Ev}(G:PD X O e f):PSD X L O (.Return (some e) pos) (MZ f) O':=PS.mono (CP G) <| by
 rintro T σ H ⟨H0,A0,A,E,ρ,B,st,e,p⟩;obtain⟨d,F,rfl⟩:=map_some e;exact⟨H0,A0,A,E,ρ,d,st,F,λv H' x r=>p v H' (st.mono x).ex (r.av λa q=>.inl (st.sub a q))⟩
def DN(f:Ev):Sv:=λρ=>(f ρ).map λ_=>.nx ρ
theorem A6{e:Expr}{pos:Pos}{f:Ev}(G:PB X O e f)(hs:U5 e none pos.line X.env=pure false:=by rfl)(h:Sub O' O=true:=by rfl):PSD X L O (.Expr e pos) (DN f) O':=PS.mono (p8 G hs) <| by
 rintro T σ H ⟨H0,A0,A,E,ρ,B,st,e,p⟩;obtain⟨d,F,rfl⟩:=map_some e;refine⟨H0,A0,A,E,ρ,d,st,F,λv H' x r=>?_⟩;obtain⟨A',q⟩:=(st.mono x).shut (Sub.mem h);exact p A' σ H' q
def tW(c:Bv)(f g:Sv):Sv:=λρ=>(c ρ).bind λb=>if b=true then f ρ else g ρ
theorem vM{c:Expr}{a b:List Stmt}{pos:Pos}{g:Bv}{f k:Sv}(G:kB X O c g)(F:PSDs X L O a f O')(J:PSDs X L O b k O'):PSD X L O (.If c a b pos) (tW g f k) O':=PS.mono (DI G F J) <| by
 rintro T σ H ⟨H0,A0,A,E,ρ,q,st,e,p⟩;obtain⟨b,M,e⟩:=bind_some e;refine⟨H0,A0,A,E,ρ,b,st,M,λH1 B=>?_⟩;cases b with
 | true=>rw[if_pos rfl]at e ⊢;exact⟨H0,A0,A,E,ρ,q,st.mono B,e,p⟩
 | false=>rw[if_neg T3]at e ⊢;exact⟨H0,A0,A,E,ρ,q,st.mono B,e,p⟩
def eD(i:Nat)(f:Ev):Sv:=λρ=>(f ρ).map λd=>.nx (ρ.set i (some d))
theorem Sub.er{a b:List Nat}{i j:Nat}(h:Sub a (b.filter (· != i))=true)(q:j∈a):j∈b/\j≠i:=by
 have:=Sub.mem h j q;rw[List.mem_filter]at this;exact⟨this.1,by simpa using this.2⟩
theorem wF{i:Nat}{x:Str}{e:Expr}{pos pos':Pos}{f:Ev}(Y:X.N.Nodup)(hi:X.N[i]?=some x)(M:Loc X.env.scope x)(J:PD X O e f)(h:Sub O' (O.filter (· != i))=true:=by rfl)
  (hs:U5 e (some (.Name x pos')) pos.line X.env=pure false:=by rfl) (W:X.fn x=true\/X.env.scope.names.lookup x=some .local:=by first|exact .inl rfl|exact .inr rfl):PSD X L O (.Assign [.Name x pos'] e pos) (eD i f) O':=
 PS.mono (u4 Y hi M J hs W) <| by
  rintro T σ H ⟨H0,A0,A,E,ρ,U,st,e,p⟩;obtain⟨d,e1,rfl⟩:=map_some e;refine⟨H0,A0,A,E,ρ,d,st,e1,λv H' x r=>?_⟩
  -- i leaves what may be written ahead of the store: the value is borne by fewer too
  have F:=(st.mono x).more r;obtain⟨A',B⟩:=F.shut (O':=O') λj G=>(Sub.er h G).1
  exact p A' _ H' ((B.put (B.ext _ (UW ..)) λz=>(Sub.er h z).2 rfl).less λq hq=>UN _ hq)
theorem Own.there:Own A H d a->H a≠none
 | .lst h _=>by rw[h];exact λz=>nomatch z
 | .dK h _ _=>by rw[h];exact λz=>nomatch z
 | .dT h _ _=>by rw[h];exact λz=>nomatch z
theorem ST.own_put(s:ST H0 A0 A E O σ H ρ)(x:Ext A H H')(n:H a=none)(na:¬ A a)(o:Own (λb=>A b\/b=a) H' d a)(ni:i∉O) :
  ST H0 A0 (λb=>A b\/b=a) E (i::O) (σ.set i (some (.ref a))) H' (ρ.set i (some d)):=by
 have s':=s.mono x;have n0:H0 a=none:=s.ex.free n
 -- whatever was borne ahead avoids a
 have J:Ext (λb=>A b\/b=a) H H':=⟨x.rd,x.kp,λb u q e=>q.elim (λq=>x.ow b u q e) λq=>(by subst q;rw[n]at e;exact nomatch e),x.fz⟩;have ab:∀ {p:Fact},p.Holds A H->p.Holds (λb=>A b\/b=a) H':=λr=>Fact.ext J (Fact.av (A':=λb=>A b\/b=a) (λb q=>by
   rcases q with q|q
   ·exact .inl q
   ·exact .inr (q ▸ n)) r)
 have up:∀ {d:D} {v:V},Rep A H d v->Rep (λb=>A b\/b=a) H' d v:=λr=>by
  have r1:Rep (λb=>A b\/b=a) H _ _:=r.av λb q=>by
   rcases q with q|q
   ·exact .inl q
   ·exact .inr (q ▸ n)
  exact r1.ext J
 have ac:∀ {d:D} {b:Addr},A b->Own A H d b->Own (λc=>A c\/c=a) H' d b:=λq r=>by
  have r1:Own (λc=>A c\/c=a) H _ _:=r.av λb q=>by
   rcases q with q|q
   ·exact .inl q
   ·exact .inr (q ▸ n)
  exact r1.ext J (.inl q)
 have ha:H' a≠none:=o.there;refine⟨s'.ex,λb q=>.inl (s.sub b q),s.l0,λb q=>?_,by simp[s.len],λj d' h' W=>?_,λj d' h' W=>?_,λj k M d2 b hj hk h1 h2 F U=>?_,λp hp=>ab (s.ext p hp)⟩
 ·rcases q with q|q
  ·exact s'.live b q
  ·subst q;exact ha
 ·rcases bV h' with⟨e,B,l⟩|⟨e,B⟩
  ·exact absurd (List.mem_cons.mpr (.inl e)) W
  ·obtain⟨w,h1,h2⟩:=s.val j d' B λz=>W (UN _ z)
   exact⟨w,by rw[d5 e];exact h1,up h2⟩
 ·rcases bV h' with⟨e,B,l⟩|⟨e,B⟩
  ·subst e;cases B
   exact⟨a,sig_set (by rw[s.len];exact l),.inr rfl,n0,o⟩
  ·rcases List.mem_cons.mp W with z|z
   ·exact absurd z e
   ·obtain⟨w,h1,h2,F,U⟩:=s.own j d' B z
    exact⟨w,by rw[d5 e];exact h1,.inl h2,F,ac h2 U⟩
 ·have G:∀ {j:Nat} {M:D},j∈i::O->(ρ.set i (some d))[j]?=some (some M)->(σ.set i (some (.ref a)))[j]?=some (some (.ref b))->(j=i/\b=a)\/(j≠i/\j∈O/\ρ[j]?=some (some M)/\σ[j]?=some (some (.ref b))/\b≠a):=by
   intro j M hj h1 F;rcases bV h1 with⟨e,B,l⟩|⟨e,B⟩
   ·subst e
    rw[sig_set (by rw[s.len];exact l)]at F;cases F;exact .inl ⟨rfl,rfl⟩
   ·rcases List.mem_cons.mp hj with z|z
    ·exact absurd z e
    ·rw[d5 e]at F
     obtain⟨w,q1,q2,_⟩:=s.own j M B z;rw[F]at q1;cases q1;exact .inr ⟨e,z,B,F,λz=>na (z ▸ q2)⟩
  rcases G hj h1 F with⟨e1,B⟩|⟨e1,B,e3,e4,e5⟩
  ·rcases G hk h2 U with⟨Y,N⟩|⟨Y,N,f3,f4,f5⟩
   ·rw[e1,Y]
   ·exact absurd B f5
  ·rcases G hk h2 U with⟨Y,N⟩|⟨Y,N,f3,f4,f5⟩
   ·exact absurd N e5
   ·exact s.inj j k M d2 b B N e3 f3 e4 f4
theorem A5{i:Nat}{x:Str}{e:Expr}{pos pos':Pos}{f:Ev}(W:X.N.Nodup)(hi:X.N[i]?=some x)(J:Loc X.env.scope x)(B:PF X O e f)(h:Sub O' (i::O)=true:=by rfl)(hn:O.contains i=false:=by rfl)
  (hs:U5 e (some (.Name x pos')) pos.line X.env=pure false:=by rfl) (U:X.fn x=true\/X.env.scope.names.lookup x=some .local:=by first|exact .inl rfl|exact .inr rfl):PSD X L O (.Assign [.Name x pos'] e pos) (eD i f) O':=
 PS.mono (u4 W hi J B hs U) <| by
  rintro T σ H ⟨H0,A0,A,E,ρ,G,st,e,p⟩;obtain⟨d,e1,rfl⟩:=map_some e;refine⟨H0,A0,A,E,ρ,d,st,e1,λa H' x n M o=>?_⟩;have F:i∉O:=λz=>by
   have:O.contains i=true:=by simpa using z
   rw[hn]at this;cases this
  obtain⟨Y,q⟩:=(st.own_put x n M o F).shut (Sub.mem h);exact p Y _ H' q
theorem ST.write(s:ST H0 A0 A E O σ H ρ)(hi:ρ[i]?=some (some d))(hO:i∈O)(hs:σ[i]?=some (some (.ref a)))(U:A a)(h0:H0 a=none)(hu:H a=some u)(ob:M8 u)(hn:Own A (upd H a o) d' a) :
  ST H0 A0 A E O σ (upd H a o) (ρ.set i (some d')):=by
 have B:∀b,H0 b≠none->b≠a:=λb hb z=>hb (z ▸ h0)
 refine⟨⟨λb w r=>?_,λb xs k r=>?_,λb w n r=>?_,λb q w r=>?_⟩,s.sub,s.l0,λb hb=>?_,by simp[s.len],λj J h' M=>?_,λj J h' M=>?_,λj k N J b hj hk h1 h2 W Y=>?_,λp hp=>Fact.put U hu ob (s.ext p hp)⟩
 ·refine eZ (B b ?_) (s.ex.rd b w r)
  rcases r with r|⟨_,r⟩ <;> (rw[r];exact λz=>nomatch z)
 ·rw[aC (B b (by rw[r];exact λz=>nomatch z))];exact s.ex.kp b xs k r
 ·rw[aC (B b (by rw[r];exact λz=>nomatch z))];exact s.ex.ow b w n r
 ·rw[aC (B b (by rw[r];exact λz=>nomatch z))];exact s.ex.fz b q w r
 ·by_cases e:b=a
  ·subst e;rw[aJ];exact λz=>nomatch z
  ·rw[aC e];exact s.live b hb
 ·rcases bV h' with⟨e,F,l⟩|⟨e,F⟩
  ·subst e;exact absurd hO M
  ·obtain⟨w,h1,h2⟩:=s.val j J F M
   exact⟨w,h1,h2.put U hu ob⟩
 ·rcases bV h' with⟨e,F,l⟩|⟨e,F⟩
  ·subst e;cases F;exact⟨a,hs,U,h0,hn⟩
  ·obtain⟨b,h1,h2,W,Y⟩:=s.own j J F M
   refine⟨b,h1,h2,W,Y.put U hu ob λz=>?_⟩;subst z;exact e (s.inj j i J d b M hO F hi h1 hs)
 ·have G:∀ {j:Nat} {N:D},(ρ.set i (some d'))[j]?=some (some N)->∃d0,ρ[j]?=some (some d0):=by
   intro j N h;rcases bV h with⟨e,_,_⟩|⟨_,e⟩
   ·subst e;exact⟨d,hi⟩
   ·exact⟨N,e⟩
  obtain⟨x,hx⟩:=G h1;obtain⟨y,hy⟩:=G h2;exact s.inj j k x y b hj hk hx hy W Y
noncomputable def mem(O:List Nat)(i:Nat):Bool:=O.contains i
theorem e8(h:mem O i=true):i∈O:=by simpa[mem]using h
def DS(i:Nat)(f:Ev):Sv:=λρ=>(aL i ρ).bind λx=>match x with
 | .lst l=>(f ρ).bind λd=>if aV l.length then some (.nx (ρ.set i (some (.lst (l++[d])))))else none
 | _=>none
theorem uA{o e:Expr}{i:Nat}{apos cpos pos:Pos}{f:Ev}(ho:PE X o (gX i))(he:PD X O e f)(F:mem O i=true)(M:PE X (.Call (.Attribute o "append" apos) [e] [] cpos) (QB X.K "list" xC (gX i) (xP (tD Rep O f) MK)))
  (hs:U5 (.Call (.Attribute o "append" apos) [e] [] cpos) none pos.line X.env=pure false:=by rfl) (h:Sub O' O=true:=by rfl):PSD X L O (.Expr (.Call (.Attribute o "append" apos) [e] [] cpos) pos) (DS i f) O':=
 PS.mono (p8 M hs) <| by
  rintro T σ H ⟨H0,A0,A,E,ρ,N,st,e,p⟩;obtain⟨x,ex,e⟩:=bind_some e;cases x with
  | lst l=>
   obtain⟨d,Y,e⟩:=bind_some e;by_cases hz:aV l.length=true
   ·rw[if_pos hz]at e
    cases e;obtain⟨a,J,q,U,W⟩:=st.own i _ (aX ex) (e8 F);cases W with
    | lst h4 r4=>
     refine⟨_,J,.inl ⟨rfl,_,SqL.of h4⟩,H0,A0,A,E,ρ,d,st,Y,λv H' x r=>⟨a,_,v,rfl,rfl,x.ow _ _ q h4,by rw[r4.length];exact kG hz,?_⟩⟩;have G:=x.ow _ _ q h4;obtain⟨A',B⟩:=((st.mono x).write (o:=.lst _) (aX ex) (e8 F) J q U G trivial (.lst aJ (((r4.ext x).append (.cons r .nil)).put q G trivial))).shut (Sub.mem h);exact p A' σ _ B
   ·rw[if_neg hz]at e;cases e
  | _=>cases e
def P2:D->Option Key
 | .int i=>some (.inl i)
 | .str x=>some (.inr x)
 | _=>none
def D0:List D->Option (List Key)
 | []=>some []
 | d::ds=>(P2 d).bind λk=>(D0 ds).bind λks=>some (k::ks)
def EC:D->Option (List Key)
 | .tup l=>D0 l
 | _=>none
noncomputable def cN{κ:Type}[DecidableEq κ](l:List (κ×D))(k:κ):Option D:=(l.find? λp=>decide (p.1=k)).map (·.2)
noncomputable def putD{κ:Type}[DecidableEq κ](l:List (κ×D))(k:κ)(d:D):List (κ×D):=if l.any (λp=>decide (p.1=k))then l.map (λp=>if p.1=k then(p.1,d)else p)else l++[(k,d)]
end
section
variable {A:Av}{H:Hp}
section
variable {κ:Type}[DecidableEq κ]
abbrev PP(A:Av)(H:Hp):List (κ×D)->List (κ×V)->Prop:=U2 λ(p:κ×D) (q:κ×V)=>p.1=q.1/\Rep A H p.2 q.2
theorem mK:∀ {l:List (κ×D)} {xs:List (κ×V)},xs.map (·.1)=l.map (·.1)->RepL A H (l.map (·.2)) (xs.map (·.2))->PP A H l xs
 | [],[],_,_=>.nil
 | [],_::_,e,_=>by cases e
 | _::_,[],e,_=>by cases e
 | p::l,q::xs,e,r=>by
  rw[T1,T1]at e r;injection e with e1 e2
  cases r with
  | cons h t=>exact .cons ⟨e1.symm,h⟩ (mK e2 t)
theorem xN:∀ {l:List (κ×D)} {xs:List (κ×V)},PP A H l xs->xs.map (·.1)=l.map (·.1)/\RepL A H (l.map (·.2)) (xs.map (·.2))
 | _,_,.nil=>⟨rfl,.nil⟩
 | _,_,.cons h t=>by
  obtain⟨e,r⟩:=xN t;exact⟨by rw[T1,T1,h.1,e],.cons h.2 r⟩
theorem qF(k:κ)(h:PP A H l xs):(cN l k=none/\c8 xs k=none)\/∃d v,cN l k=some d/\c8 xs k=some v/\Rep A H d v:=by
 induction h with
 | nil=>exact .inl ⟨rfl,rfl⟩
 | @cons p q l xs h t ih=>
  by_cases e:p.1=k
  ·refine .inr ⟨p.2,q.2,?_,iI (h.1 ▸ e),h.2⟩
   simp[cN,V2,e]
  ·have B:¬ q.1=k:=λz=>e (h.1.trans z)
   have a:cN (p::l) k=cN l k:=by simp[cN,V2,e]
   rw[a,iF B];exact ih
theorem LA(k:κ)(h:PP A H l xs):(l.any λp=>decide (p.1=k))=xs.any λp=>decide (p.1=k):=by
 induction h with
 | nil=>rfl
 | cons h t ih=>rw[VQ,VQ,ih,h.1]
theorem KM(k:κ)(r:Rep A H d v)(h:PP A H l xs):PP A H (l.map λp=>if p.1=k then(p.1,d)else p) (xs.map λp=>if p.1=k then(p.1,v)else p):=by
 induction h with
 | nil=>exact .nil
 | @cons p q l xs h t ih=>
  rw[T1,T1];refine .cons ?_ ih;by_cases e:p.1=k
  ·rw[if_pos e,if_pos (h.1 ▸ e)];exact⟨h.1,r⟩
  ·rw[if_neg e,if_neg (λz=>e (h.1.trans z))];exact h
theorem IY(h:PP A H l xs)(h':PP A H m ys):PP A H (l++m) (xs++ys):=by
 induction h with
 | nil=>exact h'
 | cons h t ih=>exact .cons h ih
theorem vK(k:κ)(r:Rep A H d v)(h:PP A H l xs):PP A H (putD l k d) (putK xs k v):=by
 unfold putD putK;rw[LA k h];by_cases e:(xs.any λp=>decide (p.1=k))=true
 ·rw[if_pos e,if_pos e];exact KM k r h
 ·rw[if_neg e,if_neg e];exact IY h (.cons ⟨rfl,r⟩ .nil)
end
theorem pS(h:P2 d=some k)(r:RepB A H d v):v=kV k:=by
 cases d <;> cases h
 ·exact r.int_inv
 ·exact r.str_inv
theorem tH:∀ {ds:List D} {ks:List Key} {vs:List V},D0 ds=some ks->RepL A H ds vs->vs=ks.map kV
 | _,_,_,h,.nil=>by cases h;rfl
 | _,_,_,h,.cons r t=>by
  obtain⟨k,B,h⟩:=bind_some h;obtain⟨ks,q,h⟩:=bind_some h;cases h;rw[T1,pS B (.of r),tH q t]
theorem pY(h:EC d=some k)(r:RepB A H d v):∃b,v=.ref b/\H b=some (.tup (k.map kV)):=by
 cases d <;> try cases h
 rename_i l;obtain⟨a,xs,rfl,h1,h2⟩:=r.tup_inv;exact⟨a,rfl,by rw[h1,tH h h2]⟩
def dG:D->D->Option (Option D)
 | .dK l,k=>(P2 k).map λk=>cN l k
 | .dT l,k=>(EC k).map λk=>cN l k
 | _,_=>none
theorem l6{d k:D}{x y:V}{o:Option D}(h:dG d k=some o)(J:RepB A H d x)(G:RepB A H k y):∃a B,x=.ref a/\M6 H a/\DGet H a y B/\((o=none/\B=none)\/∃z v,o=some z/\B=some v/\Rep A H z v):=by
 cases d with
 | dK l=>
  obtain⟨q,F,rfl⟩:=map_some h;obtain⟨a,xs,rfl,h1,e,r⟩:=J.dK_inv;have:=pS F G;subst this;refine⟨a,_,rfl,.inl ⟨xs,h1⟩,.inl ⟨xs,q,h1,rfl,rfl⟩,qF q (mK e r)⟩
 | dT l=>
  obtain⟨q,F,rfl⟩:=map_some h;obtain⟨a,xs,rfl,h1,e,r⟩:=J.dT_inv;obtain⟨b,rfl,M⟩:=pY F G;exact⟨a,_,rfl,.inr ⟨xs,h1⟩,.inr ⟨xs,q,b,h1,rfl,M,rfl⟩,qF q (mK e r)⟩
 | _=>cases h
end
section
variable {X:Cx}{O O':List Nat}{L:Lp}
theorem PE.or(h:PE X e t)(k:PE X e u):PE X e (λσ H Q=>t σ H Q\/u σ H Q):=λpins s σ H Q I w=>w.elim (h pins s σ H Q I) (k pins s σ H Q I)
def aO(d k:D):Option D:=match d with
 | .dK _=>(dG d k).join
 | .dT _=>(dG d k).join
 | _=>P0 d k
theorem kS{q:Type}{o:Option (Option q)}{d:q}(h:o.join=some d):o=some (some d):=by
 cases o with
 | none=>cases h
 | some o=>cases o with
  | none=>cases h
  | some x=>cases h;rfl
theorem rY{G F:Ev}{σ:L2.St}{H:Hp}{Q:VK}(h:tD Rep O (bU (λd k=>(dG d k).join) G F) σ H Q):HX (tD RepB O G) (tD RepB O F) σ H Q:=by
 obtain⟨H0,A0,A,E,ρ,d,st,e,q⟩:=h;obtain⟨x,ex,e⟩:=bind_some e;obtain⟨y,ey,e⟩:=bind_some e;refine⟨H0,A0,A,E,ρ,x,st,ex,λv H1 N U=>⟨H0,A0,A,E,ρ,y,st.mono N,ey,λw H2 J r2=>?_⟩⟩;obtain⟨a,ov,e1,_,g,B⟩:=l6 (kS e) (U.ext J) r2;rcases B with⟨B,_⟩|⟨z,M,B,Y,W⟩
 ·cases B
 ·cases B;subst Y
  exact⟨a,M,e1,g,q M H2 (N.trans J) W⟩
theorem FP(M:X.A.units+1<cLine)(G:PB X O a fa)(J:PB X O b fb)(hs:pV b):PD X O (.Subscript a b pos) (bU aO fa fb):=
 PE.mono (PE.or (NH Q6 G J hs) (G4 M G J hs)) <| by
  rintro σ H Q ⟨H0,A0,A,E,ρ,d,st,e,q⟩;obtain⟨x,ex,F⟩:=bind_some e;obtain⟨y,N,F⟩:=bind_some F;have B:∀g:D->D->Option D,g x y=some d->tD Rep O (bU g fa fb) σ H Q:=λg h=>⟨H0,A0,A,E,ρ,d,st,by unfold bU;rw[ex,N];exact h,q⟩
  cases x with
  | dK l=>exact .inr (rY (B _ F))
  | dT l=>exact .inr (rY (B _ F))
  | _=>exact .inl (qE (B P0 F))
def IJ(fd q B:Ev):Ev:=λρ=>(fd ρ).bind λd=>(q ρ).bind λk=>(B ρ).bind λe=>(dG d k).map λo=>o.getD e
theorem JO(k:D)(h:dG d k=some o)(r:RepB A H d v):∃a,v=.ref a/\M6 H a:=by
 cases d with
 | dK l=>obtain⟨a,xs,rfl,h1,_⟩:=r.dK_inv;exact⟨a,rfl,.inl ⟨xs,h1⟩⟩
 | dT l=>obtain⟨a,xs,rfl,h1,_⟩:=r.dT_inv;exact⟨a,rfl,.inr ⟨xs,h1⟩⟩
 | _=>cases h
theorem GP(hu:X.A.units+1<cLine)(ho:PB X O o fd)(he:PB X O e fk)(hf:PD X O f fe)(m:M2 X o "get" apos e f cpos):PD X O (.Call (.Attribute o "get" apos) [e,f] [] cpos) (IJ fd fk fe):=
 PE.mono (A3 hu ho he hf m) <| by
  rintro σ H Q ⟨H0,A0,A,E,ρ,d,st,e,q⟩;obtain⟨x,ex,e⟩:=bind_some e;obtain⟨y,ey,e⟩:=bind_some e;obtain⟨z,ez,e⟩:=bind_some e;obtain⟨ov,W,rfl⟩:=map_some e;refine⟨H0,A0,A,E,ρ,x,st,ex,λv H1 B r1=>?_⟩;obtain⟨a,U,J⟩:=JO y W r1;refine⟨a,U,J,H0,A0,A,E,ρ,y,st.mono B,ey,λw H2 G r2=>⟨H0,A0,A,E,ρ,z,st.mono (B.trans G),ez,λu N F r3=>?_⟩⟩;obtain⟨a',M,Y,_,g,e3⟩:=l6 W (r1.ext (G.trans F)) (r2.ext F);rw[U]at Y;cases Y;refine⟨M,g,?_⟩;rcases e3 with⟨rfl,rfl⟩|⟨z',v',rfl,rfl,r4⟩
  ·exact q u N ((B.trans G).trans F) r3
  ·exact q v' N ((B.trans G).trans F) r4
def AA(d k e:D):Option D:=match d with
 | .dK l=>(P2 k).bind λk=>if aV l.length then some (.dK (putD l k e))else none
 | .dT l=>(EC k).bind λk=>if aV l.length then some (.dT (putD l k e))else none
 | .lst l=>(MY k).bind λk=>(AC l.length k).map λj=>.lst (l.set j e)
 | _=>none
def MQ(i:Nat)(q B:Ev):Sv:=λρ=>(B ρ).bind λe=>(aL i ρ).bind λx=>(q ρ).bind λk=>(AA x k e).map λd=>.nx (ρ.set i (some d))
theorem PS.or{st:Stmt}{t u:TS}(h:PS X st t)(k:PS X st u):PS X st (λT σ H=>t T σ H\/u T σ H):=λpins s σ H T I w=>w.elim (h pins s σ H T I) (k pins s σ H T I)
theorem FX{o k value:Expr}{i:Nat}{pos pos':Pos}{fk fe:Ev}(B:X.A.units+1<cLine)(ho:PE X o (gX i))(hk:PB X O k fk)(hv:PD X O value fe)(hO:mem O i=true)(h:Sub O' O=true:=by rfl)
  (hs:U5 value (some (.Subscript o k pos')) pos.line X.env=pure false:=by rfl) (ak:W7 [.Subscript o k pos'] value pos.line X.env=pure false:=by rfl) (hw:W8 [.Subscript o k pos'] value X.env=pure none:=by rfl)
  (hg:∀ {to ti:TE} {t:DX},PE X o to->PE X k ti->G9 X t->PG X (.Subscript o k pos') (MS to ti t):=by intro _ _ _ a b c;exact C8 a b c) :
  PSD X L O (.Assign [.Subscript o k pos'] value pos) (MQ i fk fe) O':=
 PS.mono (PS.or (GM B ho hk hv hs) (vL hv (hg ho hk set_list) ak hw)) <| by
  rintro T σ H ⟨H0,A0,A,E,ρ,ar,st,e,p⟩;obtain⟨z,ez,e⟩:=bind_some e;obtain⟨x,ex,e⟩:=bind_some e;obtain⟨y,ey,e⟩:=bind_some e;obtain⟨d,ed,rfl⟩:=map_some e;obtain⟨a,U,J,e3,e4⟩:=st.own i _ (aX ex) (e8 hO);cases x with
  | dK l=>
   obtain⟨kk,e5,F⟩:=bind_some ed;by_cases hz:aV l.length=true
   ·rw[if_pos hz]at F;cases F
    refine .inl ⟨H0,A0,A,E,ρ,z,st,ez,λv H1 M r1=>⟨_,U,H0,A0,A,E,ρ,y,st.mono M,ey,λw H2 N W=>?_⟩⟩;have q:=M.trans N;cases e4 with
    | @dK _ _ xs h4 ee r4=>
     have B:=q.ow _ _ J h4;have hl:xs.length=l.length:=by have:=congrArg V0 ee;simpa using this
     have:=pS e5 W;subst this;refine⟨a,_,rfl,DPut.k B (by rw[hl];exact kG hz),?_⟩;obtain⟨Y,r7⟩:=xN (vK kk (r1.ext N) (mK ee (r4.ext q)));obtain⟨A',G⟩:=((st.mono q).write (o:=.dK _) (aX ex) (e8 hO) U J e3 B trivial (.dK aJ Y (r7.put J B trivial))).shut (Sub.mem h);exact p A' σ _ G
   ·rw[if_neg hz]at F;cases F
  | dT l=>
   obtain⟨kk,e5,F⟩:=bind_some ed;by_cases hz:aV l.length=true
   ·rw[if_pos hz]at F;cases F
    refine .inl ⟨H0,A0,A,E,ρ,z,st,ez,λv H1 M r1=>⟨_,U,H0,A0,A,E,ρ,y,st.mono M,ey,λw H2 N W=>?_⟩⟩;have q:=M.trans N;cases e4 with
    | @dT _ _ xs h4 ee r4=>
     have B:=q.ow _ _ J h4;have hl:xs.length=l.length:=by have:=congrArg V0 ee;simpa using this
     obtain⟨b,rfl,hb⟩:=pY e5 W;refine⟨a,_,rfl,DPut.t B hb (by rw[hl];exact kG hz),?_⟩;obtain⟨Y,r7⟩:=xN (vK kk (r1.ext N) (mK ee (r4.ext q)));obtain⟨A',G⟩:=((st.mono q).write (o:=.dT _) (aX ex) (e8 hO) U J e3 B trivial (.dT aJ Y (r7.put J B trivial))).shut (Sub.mem h);exact p A' σ _ G
   ·rw[if_neg hz]at F;cases F
  | lst l=>
   obtain⟨kk,e5,F⟩:=bind_some ed;obtain⟨j,Y,rfl⟩:=map_some F;refine .inr ⟨H0,A0,A,E,ρ,z,st,ez,λv H1 M r1=>⟨_,U,H0,A0,A,E,ρ,y,st.mono M,ey,λw H2 N W=>?_⟩⟩;have q:=M.trans N;cases e4 with
   | @lst _ _ xs h4 r4=>
    have B:=q.ow _ _ J h4;rw[lV e5]at W;have:=W.int_inv;subst this;refine⟨a,xs,kk,j,rfl,rfl,B,by rw[r4.length];exact Y,?_⟩;obtain⟨A',G⟩:=((st.mono q).write (o:=.lst _) (aX ex) (e8 hO) U J e3 B trivial (.lst aJ (((r4.ext q).set j (r1.ext N)).put J B trivial))).shut (Sub.mem h);exact p A' σ _ G
  | _=>cases ed
noncomputable def AG(g:Int->Int->Option D):D->D->Option D
 | .int i,.int j=>g i j
 | _,_=>none
theorem lU(h:AG g x y=some d):∃i j,x=.int i/\y=.int j/\g i j=some d:=by
 cases x <;> cases y <;> first|(cases h;done)|exact⟨_,_,rfl,rfl,h⟩
theorem qH{f:Value->Value->Sem Value}{C:Int->Int->Prop}[∀i j,Decidable (C i j)]{g:Int->Int->Int}(h:OpR X f (rI C λi j=>.int (g i j))):dR X f (AG λi j=>if C i j then some (.int (g i j))else none):=
 OpR.mono h <| by
  rintro x y H Q ⟨A,dx,N,d,M,J,G,e,q⟩;obtain⟨i,j,rfl,rfl,B⟩:=lU e;have:=J.int_inv;subst this;have:=G.int_inv;subst this;by_cases F:C i j
  ·rw[if_pos F]at B;cases B
   exact⟨i,j,rfl,rfl,F,q _ H (Ext.refl _ _) (.int _)⟩
  ·rw[if_neg F]at B;cases B
theorem F5{f:Value->Value->Sem Value}{g:Int->Int->Int}(h:OpR X f (D9 λi j=>.int (g i j))):dR X f (AG λi j=>some (.int (g i j))):=
 OpR.mono h <| by
  rintro x y H Q ⟨A,dx,J,d,G,B,F,e,q⟩;obtain⟨i,j,rfl,rfl,e⟩:=lU e;have:=B.int_inv;subst this;have:=F.int_inv;subst this;cases e;exact⟨i,j,rfl,rfl,q _ H (Ext.refl _ _) (.int _)⟩
theorem rW{f:Value->Value->Sem Value}{g:Int->Int->Bool}(h:OpR X f (D9 λi j=>.bl (g i j))):dR X f (AG λi j=>some (.bl (g i j))):=
 OpR.mono h <| by
  rintro x y H Q ⟨A,dx,J,d,G,B,F,e,q⟩;obtain⟨i,j,rfl,rfl,e⟩:=lU e;have:=B.int_inv;subst this;have:=F.int_inv;subst this;cases e;exact⟨i,j,rfl,rfl,q _ H (Ext.refl _ _) (.bl _)⟩
instance:∀i j,Decidable (My.OY i j):=λi j=>by unfold My.OY;infer_instance
instance:∀i j,Decidable (HF i j):=λi j=>by unfold HF;infer_instance
instance:∀i j,Decidable (HL i j):=λi j=>by unfold HL;infer_instance
def HE:D->D->Option D:=AG λi j=>some (.int (i-j))
def eB:D->D->Option D:=AG λi j=>if 0<j then some (.int (i%j))else none
def qQ:D->D->Option D:=AG λi j=>if HF i j then some (.int (i/j))else none
def vS:D->D->Option D:=AG λi j=>if HL i j then some (.int (i^j.toNat))else none
def MW:D->D->Option D:=AG λi j=>some (.bl (decide (j<i)))
def MN:D->D->Option D:=AG λi j=>some (.bl (decide (j<=i)))
theorem L8:dR X (UQ .Sub) HE:=F5 MC
theorem K2:dR X (UQ .Mod) eB:=qH J4
theorem JE:dR X (UQ .FloorDiv) qQ:=qH FA
theorem J7:dR X (UQ .Pow) vS:=qH KN
theorem OJ:dR X (TY .Gt) MW:=rW NR
theorem NE:dR X (TY .GtE) MN:=rW OG
def G8(f:Ev):Ev:=λρ=>(f ρ).bind λd=>(MY d).map λi=>.int (-i)
theorem JZ(B:PB X O a f):PD X O (.UnaryOp .USub a pos) (G8 f):=PE.mono (N4 LX B) <| by
 rintro σ H Q ⟨H0,A0,A,E,ρ,d,st,e,q⟩;obtain⟨x,ex,e⟩:=bind_some e;obtain⟨i,F,rfl⟩:=map_some e;rw[lV F]at ex;exact⟨H0,A0,A,E,ρ,_,st,ex,λv H1 J G=>⟨i,G.int_inv,q _ H1 J (.int _)⟩⟩
end
section
variable {X:Cx}{L:Lp}{O O':List Nat}
def HK:Sv:=λ_=>none
theorem yC{st:Stmt}:PSD X L O st HK O':=λ_ _ _ _ _ _ ⟨_,_,_,_,_,_,_,e,_⟩=>nomatch e
abbrev Gv:=D->bK->Option bK
inductive tDG(O:List Nat)(g:Gv)(v:V)(σ:L2.St)(H:Hp)(Q:L2.St->Hp->Prop):Prop
 | mk (H0:Hp) (A0 A:Av) (E:List Fact) (ρ:bK) (d:D) (ρ':bK) (st:ST H0 A0 A E O σ H ρ) (r:Rep A H d v) (e:g d ρ=some ρ') (q:∀σ',ST H0 A0 A E O σ' H ρ'->Q σ' H):tDG O g v σ H Q
def vU(X:Cx)(O:List Nat)(tg:Expr)(g:Gv):Prop:=PG X tg (tDG O g)
abbrev xY:=List D->bK->Option bK
inductive tDGs(O:List Nat)(g:xY)(vs:List V)(σ:L2.St)(H:Hp)(Q:L2.St->Hp->Prop):Prop
 | mk (H0:Hp) (A0 A:Av) (E:List Fact) (ρ:bK) (ds:List D) (ρ':bK) (st:ST H0 A0 A E O σ H ρ) (r:RepL A H ds vs) (e:g ds ρ=some ρ') (q:∀σ',ST H0 A0 A E O σ' H ρ'->Q σ' H):tDGs O g vs σ H Q
def vQ(X:Cx)(O:List Nat)(ts:List Expr)(g:xY):Prop:=PGs X ts (tDGs O g)
theorem PG.mono(h:PG X tg t)(x:∀v σ H Q,t' v σ H Q->t v σ H Q):PG X tg t':=λpins s σ H v u Q I r w=>h pins s σ H v u Q I r (x v σ H Q w)
theorem PGs.mono(h:PGs X ts t)(x:∀v σ H Q,t' v σ H Q->t v σ H Q):PGs X ts t':=λpins s σ H v u Q I r w=>h pins s σ H v u Q I r (x v σ H Q w)
def bX(i:Nat):Gv:=λd ρ=>some (ρ.set i (some d))
theorem sW(h:PG X tg (j7 i))(n:O.contains i=false:=by rfl):vU X O tg (bX i):=PG.mono h <| by
 rintro v σ H Q ⟨H0,A0,A,E,ρ,d,ρ',st,r,e,q⟩;cases e;exact q _ (st.put r λz=>by
  have:O.contains i=true:=by simpa using z
  rw[n]at this;cases this)
def tO:xY:=λds ρ=>match ds with
 | []=>some ρ
 | _=>none
def dZ(g:Gv)(k:xY):xY:=λds ρ=>match ds with
 | d::ds=>(g d ρ).bind λρ'=>k ds ρ'
 | _=>none
theorem AH:vQ X O [] tO:=PGs.mono wJ <| by
 rintro v σ H Q ⟨H0,A0,A,E,ρ,ds,ρ',st,r,e,q⟩;cases r with
 | nil=>cases e;exact⟨rfl,q _ st⟩
 | cons _ _=>cases e
theorem nH(F:∀ {t:TG} {u:HN},PG X e t->PGs X es u->PGs X (e::es) (DG t u))(h1:vU X O e g)(h2:vQ X O es k):vQ X O (e::es) (dZ g k):=
 PGs.mono (F h1 h2) <| by
  rintro v σ H Q ⟨H0,A0,A,E,ρ,ds,ρ',st,r,e,q⟩;cases r with
  | nil=>cases e
  | cons h t=>
   obtain⟨ρ1,J,e⟩:=bind_some e;exact⟨_,_,rfl,H0,A0,A,E,ρ,_,ρ1,st,h,J,λG B=>⟨H0,A0,A,E,ρ1,_,ρ',B,t,e,q⟩⟩
def mN(n:Nat)(k:xY):Gv:=λd ρ=>match d with
 | .tup l=>if l.length=n then k l ρ else none
 | _=>none
theorem xH(G:PG X tg (O4 X.K n (tDGs O k))):vU X O tg (mN n k):=PG.mono G <| by
 rintro v σ H Q ⟨H0,A0,A,E,ρ,d,ρ',st,r,e,q⟩;cases d with
 | tup l=>
  obtain⟨a,xs,rfl,h,F⟩:=RepB.tup_inv (.of r);by_cases B:l.length=n
  ·simp only[mN,if_pos B]at e
   exact⟨a,xs,rfl,.inl (.inl h),by rw[F.length];exact B,H0,A0,A,E,ρ,l,ρ',st,F,e,q⟩
  ·simp only[mN,if_neg B]at e;cases e
 | _=>cases e
def HD(f:Ev)(g:Gv):Sv:=λρ=>(f ρ).bind λd=>(g d ρ).map .nx
theorem fJ(J:PD X O e f)(G:vU X O tg g)(hs:W7 [tg] e pos.line X.env=pure false:=by rfl)(hw:W8 [tg] e X.env=pure none:=by rfl)(h:Sub O' O=true:=by rfl)(h1:(UO [tg] X.env).map (·.2)=[VA tg X.env]:=by rfl)(h1:(UO [tg] X.env).map (·.2)=[VA tg X.env]:=by rfl)(h1:(UO [tg] X.env).map (·.2)=[VA tg X.env]:=by rfl)(h1:(UO [tg] X.env).map (·.2)=[VA tg X.env]:=by rfl):PSD X L O (.Assign [tg] e pos) (HD f g) O':=
 PS.mono (vL J G hs hw h1) <| by
  rintro T σ H ⟨H0,A0,A,E,ρ,M,st,e,p⟩;obtain⟨d,U,e⟩:=bind_some e;obtain⟨ρ',N,rfl⟩:=map_some e;refine⟨H0,A0,A,E,ρ,d,st,U,λv H' x r=>⟨H0,A0,A,E,ρ,d,ρ',st.mono x,r,N,λB F=>?_⟩⟩;obtain⟨A',q⟩:=F.shut (Sub.mem h);exact p A' B H' q
def zW(J:It)(q:List Fact)(items:List D):Prop:=
 ∀(A:Av) (H:Hp),Live A H->(∀p∈q,p.Holds A H)->∀i,(items.length<=i->J.stop i H)/\∀d,items[i]?=some d->J.go i H/\∀x H',J.yld i H x H'->Ext A H H'/\Rep A H' d x
inductive tDI(O:List Nat)(f:Lv)(σ:L2.St)(H:Hp)(R:It->Hp->Prop):Prop
 | mk (H0:Hp) (A0 A:Av) (E:List Fact) (ρ:bK) (items:List D) (st:ST H0 A0 A E O σ H ρ) (e:f ρ=some items) (q:∀J H' E1,Ext A H H'->(∀p∈E1,p.Holds A H')->zW J E1 items->R J H'):tDI O f σ H R
def PDI(X:Cx)(O:List Nat)(tg e:Expr)(f:Lv):Prop:=PI X tg e (tDI O f)
theorem PI.mono(h:PI X tg e t)(x:∀σ H Q,t' σ H Q->t σ H Q):PI X tg e t':=λpins s σ H Q I w=>h pins s σ H Q I (x σ H Q w)
theorem PI.or(h:PI X tg e t)(k:PI X tg e u):PI X tg e (λσ H Q=>t σ H Q\/u σ H Q):=λpins s σ H Q I w=>w.elim (h pins s σ H Q I) (k pins s σ H Q I)
theorem E2{a:Addr}{l:List D}{K:TK}:zW (RQ K a) [.rep (.lst l) (.ref a)] l:=by
 intro A H M h i;have r:Rep A H (.lst l) (.ref a):=h _ (List.mem_singleton.mpr rfl);obtain⟨J,xs,e,h1,q⟩:=RepB.lst_inv (.of r);cases e;refine⟨λhi=>⟨xs,.inl h1,by rw[q.length];exact hi⟩,λd F=>?_⟩;obtain⟨v,B,G⟩:=q.get' F;refine⟨⟨xs,v,.inl h1,B⟩,λx H' y=>?_⟩;obtain⟨rfl,y⟩:=y;have:=y xs (.inl h1);rw[B]at this;cases this;exact⟨Ext.refl _ _,G⟩
theorem LG{a:Addr}{l:List D}{K:TK}:zW (RW K a) [.rep (.tup l) (.ref a)] l:=by
 intro A H M h i;have r:Rep A H (.tup l) (.ref a):=h _ (List.mem_singleton.mpr rfl);obtain⟨J,xs,e,h1,q⟩:=RepB.tup_inv (.of r);cases e;refine⟨λhi=>⟨xs,.inl (.inl h1),by rw[q.length];exact hi⟩,λd F=>?_⟩;obtain⟨v,B,G⟩:=q.get' F;refine⟨⟨xs,v,.inl (.inl h1),B⟩,λx H' y=>?_⟩;obtain⟨rfl,y⟩:=y;have:=y xs (.inl (.inl h1));rw[B]at this;cases this;exact⟨Ext.refl _ _,G⟩
noncomputable def aU(lo c:Int)(n:Nat):List D:=(UU n).map λ(i:Nat)=>.int (lo+(i:Int)*c)
theorem bC(lo c:Int)(n:Nat):(aU lo c n).length=n:=by simp[aU]
theorem bD{lo c:Int}{n i:Nat}(h:(aU lo c n)[i]?=some d):i<n/\d=.int (lo+(i:Int)*c):=by
 unfold aU at h;rw[UA]at h;by_cases hi:i<n
 ·rw[List.getElem?_range hi]at h;cases h;exact⟨hi,rfl⟩
 ·rw[List.getElem?_eq_none (by simpa using hi)]at h;cases h
theorem rM{lo:Int}{n:Nat}:zW (PZ lo n) [] (aU lo 1 n):=by
 intro A H B h i;refine⟨λhi=>by rw[bC]at hi;exact hi,λd q=>?_⟩;obtain⟨hi,rfl⟩:=bD q;exact⟨hi,λx H' ⟨e,y⟩=>by subst e y;rw[Int.mul_one];exact⟨Ext.refl _ _,.int _⟩⟩
noncomputable def b6(i:Int):Bool:=decide (-1000000<=i) && decide (i<=1000000)
def dX:List D->Option (List D)
 | [.int j]=>if b6 j then some (aU 0 1 j.toNat)else none
 | _=>none
def b8:List D->Option (List D)
 | [.int i,.int j]=>if b6 i && b6 j then some (aU i 1 (j-i).toNat)else none
 | _=>none
theorem cY(h:b6 i=true):-(2^62)<=i/\i<2^62:=by
 simp only[b6,UR,decide_eq_true_eq]at h
 lia
def lR(g:List D->Option (List D))(f:Lv):Lv:=λρ=>(f ρ).bind g
theorem RL.one(r:RL R A H [d] vs):∃v,vs=[v]/\R A H d v:=by
 cases r with|cons h t=>cases t;exact⟨_,rfl,h⟩
theorem RL.two(r:RL R A H [d,e] vs):∃v w,vs=[v,w]/\R A H d v/\R A H e w:=by
 cases r with|cons h t=>obtain⟨w,rfl,h2⟩:=RL.one t;exact⟨_,w,rfl,h,h2⟩
theorem pJ(h:dX ds=some l):∃j,ds=[.int j]/\b6 j=true/\l=aU 0 1 j.toNat:=by
 unfold dX at h;split at h
 ·split at h
  ·cases h;exact⟨_,rfl,by assumption,rfl⟩
  ·cases h
 ·cases h
theorem pG(h:b8 ds=some l):∃i j,ds=[.int i,.int j]/\b6 i=true/\b6 j=true/\l=aU i 1 (j-i).toNat:=by
 unfold b8 at h;split at h
 ·split at h
  ·rename_i hh
   cases h;exact⟨_,_,rfl,(UR _ _ ▸ hh).1,(UR _ _ ▸ hh).2,rfl⟩
  ·cases h
 ·cases h
section
variable {tg a b c:Expr}{f:Lv}{p pos:Pos}
theorem uN(B:Gl X "range")(G:X.mg "range" = none)(F:mR X O [a] f)(hs:TL [a] X.env=[(false,eval a X.env)]:=by rfl):PDI X O tg (.Call (.Name "range" p) [a] [] pos) (lR dX f):=PI.mono (yQ B G F hs) <| by
 rintro σ H R ⟨H0,A0,A,E,ρ,items,st,e,q⟩;obtain⟨ds,N,e⟩:=bind_some e;refine⟨H0,A0,A,E,ρ,ds,st,N,λvs H1 M J=>?_⟩;obtain⟨j,rfl,h,rfl⟩:=pJ e;obtain⟨v,rfl,h1⟩:=J.one;have:=h1.int_inv;subst this;exact⟨j,rfl,(cY h).1,(cY h).2,q _ H1 [] M (λ_ h=>nomatch h) rM⟩
theorem uT(F:Gl X "range")(J:X.mg "range" = none)(G:mR X O [a,b] f)(hs:TL [a,b] X.env=[(false,eval a X.env),(false,eval b X.env)]:=by rfl)(B:TL [b] X.env=[(false,eval b X.env)]:=by rfl):PDI X O tg (.Call (.Name "range" p) [a,b] [] pos) (lR b8 f):=PI.mono (yR F J G hs B) <| by
 rintro σ H R ⟨H0,A0,A,E,ρ,items,st,e,q⟩;obtain⟨ds,U,e⟩:=bind_some e;refine⟨H0,A0,A,E,ρ,ds,st,U,λvs H1 N M=>?_⟩;obtain⟨i,j,rfl,h,h',rfl⟩:=pG e;obtain⟨v,w,rfl,h1,h2⟩:=M.two;have:=h1.int_inv;subst this;have:=h2.int_inv;subst this;exact⟨i,j,rfl,⟨(cY h).1,(cY h).2,(cY h').1,(cY h').2⟩,q _ H1 [] N (λ_ h=>nomatch h) rM⟩
end
def z9:Key->D
 | .inl i=>.int i
 | .inr x=>.str x
def DV(f:Ev):Lv:=λρ=>(f ρ).bind λd=>match d with
 | .lst l=>some l
 | .tup l=>some l
 | .dT l=>some (l.map λp=>.tup (p.1.map z9))
 | _=>none
theorem lT:∀k:List Key,RepL A H (k.map z9) (k.map kV)
 | []=>.nil
 | .inl i::k=>.cons (.int i) (lT k)
 | .inr x::k=>.cons (.str x) (lT k)
def IS(tl:TE):TI:=λσ H R=>tl σ H λx H1=>∃d kvs,x=.ref d/\((H1 d=some (.dT kvs)/\∀o,R (My.PU d o kvs) (upd H1 d (.frz o (.dT kvs))))\/∃o,H1 d=some (.frz o (.dT kvs))/\R (My.PU d o kvs) H1)
theorem BL(hl:PE X l tl):PI X tg l (IS tl):=by
 intro pins s σ H R I h;refine bE (hl pins s σ H _ I h) λv B ⟨x,H1,U,F,q1⟩=>?_
 obtain⟨d,kvs,rfl,q⟩:=q1;cases F;have M:∀(o:Obj) (H2:Hp),(d == VC)=false->Inv X pins σ H2 B->B.heap.get? d=some o->ObjOk X.prog X.w H2 B.heap d (.dT kvs)->R (My.PU d o kvs) H2->wpAny (model X.prog X.w) X.A (pyIter (.ref d)) (PIE X pins σ tg R) X.xe B:=λo H2 lo G ho ok q=>by
  obtain⟨_,_,es,ep,⟨o',F,r2,W⟩,J,_⟩:=My.mE ok;rw[ho]at F;cases F;refine My.AX lo ⟨o,ho,r2,W⟩ ?_;refine⟨B.heap.objs.size,[B.heap.objs.size],_,_,_,rfl,G.kept (t':=B.toks) λb o e=>T4 _ e,My.x9 d _ o kvs es ep W J,⟨_,UC _ rfl,rfl,rfl⟩,λb hb=>?_,q⟩;have e:b=B.heap.objs.size:=by simpa using hb
  subst e;exact G.fpOk (T5 _) (G.hok.fresh (T5 _))
 rcases q with⟨N,q⟩|⟨o,N,q⟩
 ·have ok:=(show ObjOk X.prog X.w H1 B.heap d (.dT kvs)from U.hok d _ N)
  obtain⟨lo,_,es,ep,⟨o,F,r2,W⟩,J,_⟩:=My.mE ok;have G:=My.uB U N F;have Y:=(show ObjOk X.prog X.w _ B.heap d (.frz o (.dT kvs))from G.hok d _ aJ);exact M o _ lo G F Y.2 (q o)
 ·have ok:=(show ObjOk X.prog X.w H1 B.heap d (.frz o (.dT kvs))from U.hok d _ N)
  obtain⟨lo,_⟩:=My.mE ok.2;exact M o H1 lo U ok.1 ok.2 q
theorem wU{a:Addr}{o:Obj}{xs:List (List Key×V)}{l:List (List Key×D)}(e:xs.map (·.1)=l.map (·.1)):zW (My.PU a o xs) [.fz a o (.dT xs)] (l.map λp=>.tup (p.1.map z9)):=by
 intro A H W h i;have F:H a=some (.frz o (.dT xs)):=h _ (List.mem_singleton.mpr rfl);have U:xs.length=l.length:=by have:=congrArg V0 e;simpa using this
 refine⟨λhi=>⟨F,by rw[T2]at hi;lia⟩,λd q=>?_⟩;rw[UA]at q;obtain⟨p,B,rfl⟩:=map_some q;have hi:i<l.length:=(List.getElem?_eq_some_iff.mp B).1;refine⟨⟨F,by lia⟩,λx H' ⟨N,k,v,b,J,M,G⟩=>?_⟩;subst N M;have:k=p.1:=by
  have h1:(xs.map (·.1))[i]?=some k:=by rw[UA,J];rfl
  rw[e,UA,B]at h1;exact(UL h1).symm
 subst this;exact⟨Ext.refl _ _,.tup G (lT _)⟩
theorem F9(n:¬ A d)(B:H d=some u)(F:M8 u)(G:¬ Kp u):Ext A H (upd H d (.frz o u)) where
 rd:=λb w r=>by
  by_cases e:b=d
  ·subst e
   rcases r with r|⟨q,r⟩
   ·rw[B]at r;cases r;exact .inr ⟨o,aJ⟩
   ·rw[B]at r;cases r;exact F.elim
  ·exact eZ e r
 kp:=λb w k r=>by rw[aC (λz=>by subst z;rw[B]at r;cases r;exact G k)];exact r
 ow:=λb w J r=>by rw[aC (λz=>n (by rw[<- z];exact J))];exact r
 fz:=λb q w r=>by rw[aC (λz=>by subst z;rw[B]at r;cases r;exact F)];exact r
theorem EE(h:PD X O e f):PDI X O tg e (DV f):=PI.mono (PI.or (PI.or (E3 h) (LM h)) (BL h)) <| by
 rintro σ H R ⟨H0,A0,A,E,ρ,items,st,e,q⟩;obtain⟨d,J,e⟩:=bind_some e;cases d with
 | lst l=>
  cases e;refine .inl (.inl ⟨H0,A0,A,E,ρ,_,st,J,λv H1 G F=>?_⟩);obtain⟨a,xs,rfl,h1,M⟩:=RepB.lst_inv (.of F);exact⟨a,rfl,⟨xs,.inl h1⟩,q _ H1 [.rep (.lst items) (.ref a)] G (λp B=>by rw[List.mem_singleton.mp B];exact F) E2⟩
 | tup l=>
  cases e;refine .inl (.inr ⟨H0,A0,A,E,ρ,_,st,J,λv H1 G F=>?_⟩);obtain⟨a,xs,rfl,h1,M⟩:=RepB.tup_inv (.of F);exact⟨a,rfl,⟨xs,.inl (.inl h1)⟩,q _ H1 [.rep (.tup items) (.ref a)] G (λp B=>by rw[List.mem_singleton.mp B];exact F) LG⟩
 | dT l=>
  cases e;refine .inr ⟨H0,A0,A,E,ρ,_,st,J,λv H1 G F=>?_⟩;cases F with
  | @dT _ a xs n h ee M=>
   refine⟨a,xs,rfl,?_⟩;rcases h with h|⟨o,h⟩
   ·refine .inl ⟨h,λo=>q _ _ [.fz a o (.dT xs)] (G.trans (F9 n h trivial λz=>z)) (λp B=>by rw[List.mem_singleton.mp B];exact aJ) (wU ee)⟩
   ·exact .inr ⟨o,h,q _ H1 [.fz a o (.dT xs)] G (λp B=>by rw[List.mem_singleton.mp B];exact h) (wU ee)⟩
 | _=>cases e
def c4(g:Gv)(body:Sv):List D->bK->Option Out
 | [],ρ=>some (.nx ρ)
 | x::xs,ρ=>(g x ρ).bind λρ1=>(body ρ1).bind λo=>match o with
  | .nx ρ2=>c4 g body xs ρ2
  | .ct ρ2=>c4 g body xs ρ2
  | .bk ρ2=>some (.nx ρ2)
  | .rt d=>some (.rt d)
def nB(f:Lv)(g:Gv)(body:Sv):Sv:=λρ=>(f ρ).bind λitems=>c4 g body items ρ
theorem ST.both(s:ST H0 A0 A E O σ H ρ)(h:∀p∈E1,p.Holds A H):ST H0 A0 A (E1++E) O σ H ρ:=
 {s with ext:=λp q=>by rcases List.mem_append.mp q with e|e;exact h p e;exact s.ext p e}
theorem FI(hp:W9 (model X.prog X.w) X.A X.env X.xe)(hc:X.calm=true)(hi:PDI X O tg iter f)(hg:vU X O1 tg g)(hb:PSDs X ⟨Ob,O1⟩ O1 body b O1)(h1:Sub O1 O=true)(h2:Sub O' O1=true)(h3:Sub O' Ob=true)
  (hs:∀x,WK iter X.env x=pure x:=by intro _;rfl):PSD X L O (.For tg iter body [] pos) (nB f g b) O':=PS.mono (K4 hp hc hi hg hb hs) λT σ H ⟨H0,A0,A,E,ρ,N,st,e,p⟩=>by
 obtain⟨items,e1,e⟩:=bind_some e;refine⟨H0,A0,A,E,ρ,items,st,e1,λJ H1 M x1 ad J1=>?_⟩;obtain⟨A1,aa⟩:=((st.mono x1).both ad).shut (Sub.mem h1);refine⟨λi m σ H=>m=items.length-i/\i<=items.length/\∃ρ A,ST H0 A0 A (M++E) O1 σ H ρ/\c4 g b (items.drop i) ρ=some N,⟨items.length,by simp,UZ _,ρ,A1,aa,e⟩,?_⟩;rintro i m σ H ⟨rfl,aj,ρ,A,st,e⟩;have hE:∀p∈M,p.Holds A H:=λp hp=>st.ext p (YT _ hp)
 obtain⟨W,go⟩:=J1 A H st.live hE i;have fin:∀ {O2:List Nat} {A:Av} {σ:L2.St} {H:Hp} {ρ:bK},Sub O' O2=true->ST H0 A0 A (M++E) O2 σ H ρ->(∀A σ H,ST H0 A0 A E O' σ H ρ->T.nx σ H)->T.nx σ H:=λhs st k=>by
  obtain⟨B,ac⟩:=(st.less (E':=E) λq hq=>VZ _ hq).shut (Sub.mem hs);exact k B _ _ ac
 by_cases F:i<items.length
 ·have ed:items[i]?=some items[i]:=by simp[F]
  obtain⟨af,hy⟩:=go _ ed;rw[XY F]at e;obtain⟨ρ1,eg,e⟩:=bind_some e;obtain⟨o,eo,e⟩:=bind_some e;refine .inr ⟨af,λY H'=>∃ρ2 B,ST H0 A0 B (M++E) O1 Y H' ρ2/\c4 g b (items.drop (i+1)) ρ2=some N,λY H' ⟨ρ2,B,G,e2⟩=>⟨items.length-(i+1),by lia,rfl,F,ρ2,B,G,e2⟩,λx H' y=>?_⟩;obtain⟨x2,r2⟩:=hy x H' y;refine⟨H0,A0,A,M++E,ρ,_,ρ1,st.mono x2,r2,eg,λal s1=>⟨H0,A0,A,M++E,ρ1,o,s1,eo,?_⟩⟩;cases o with
  | nx ρ2=>exact λB U H2 G=>⟨ρ2,B,G,e⟩
  | ct ρ2=>exact λB U H2 G=>⟨ρ2,B,G,e⟩
  | bk ρ2=>cases e;exact λB U H2 G=>fin h3 G p
  | rt d=>cases e;exact p
 ·have ae:i=items.length:=by lia
  subst ae;rw[List.drop_length]at e;cases e;exact .inl ⟨W (T5 _),fin h2 st p⟩
end
noncomputable def fA(cells:List (Str×Addr)):List (Str×V9)->List (Str×Addr)->List (Str×Addr)
 | [],cs=>cs
 | (x,k)::r,cs=>fA cells r (if k == .free then(x,(cells.lookup x).getD 0)::cs else cs)
theorem nF:∀(names:List (Str×V9)) (cs:List (Str×Addr)),(∀y∈names,y.2=.free->∃c,env.cells.lookup y.1=some c)->
  (forIn names cs (λ(p:Str×V9) (r:List (Str×Addr))=>if(p.2 == .free)=true then(do let c <- cellOf env p.1;pure (XJ ((p.1,c)::r)))else(pure (XJ r):Sem _)))=(pure (fA env.cells names cs):Sem _)
 | [],cs,_=>by simp[fA]
 | (x,k)::r,cs,h=>by
  have ih:=λcs=>nF r cs λy F=>h y (UN _ F)
  rw[List.forIn_cons];by_cases e:(k == WP)=true
  ·have G:k=.free:=by simpa using e
   obtain⟨c,B⟩:=h (x,k) (UW ..) G;have q:env.cells.lookup x=some c:=B;simp only[e,if_true,fA];have:cellOf env x=pure c:=by unfold cellOf;rw[q]
   rw[this];simp only[pure_bind,q,Option.getD_some];exact ih _
  ·simp only[e,fA]
   simp only[WO,if_false,pure_bind];exact ih _
theorem E7(h:∀y∈scope.names,y.2=.free->∃c,env.cells.lookup y.1=some c):closureFor scope env=pure (fA env.cells scope.names []):=by
 have:=nF scope.names [] h;unfold closureFor;simp only[bind_pure];exact this
theorem rV:∀ {names:List (Str×V9)} {cs:List (Str×Addr)} {c:Addr},(fA cells names cs).lookup x=some c->(∃q,cs.lookup x=some q/\c=q)\/((x,WP)∈names/\c=(cells.lookup x).getD 0)
 | [],cs,c,h=>.inl ⟨c,h,rfl⟩
 | (y,k)::r,cs,c,h=>by
  rw[fA]at h;rcases rV h with⟨q,h1,h2⟩|⟨h1,h2⟩
  ·by_cases e:(k == WP)=true
   ·rw[if_pos e,YO]at h1
    by_cases ex:(x == y)=true
    ·rw[ex]at h1
     have B:x=y:=by simpa using ex
     have F:k=.free:=by simpa using e
     subst B F;cases h1;exact .inr ⟨UW ..,h2⟩
    ·rw[YQ]at ex
     rw[ex]at h1;exact .inl ⟨q,h1,h2⟩
   ·rw[if_neg e]at h1
    exact .inl ⟨q,h1,h2⟩
  ·exact .inr ⟨UN _ h1,h2⟩
theorem rT:∀ {names:List (Str×V9)} {cs:List (Str×Addr)},((x,WP)∈names\/∃c,cs.lookup x=some c)->∃c,(fA cells names cs).lookup x=some c
 | [],cs,h=>h.elim (λh=>nomatch h) id
 | (y,k)::r,cs,h=>by
  rw[fA];apply rT;rcases h with h|⟨c,h⟩
  ·rcases List.mem_cons.mp h with e|e
   ·cases e
    refine .inr ⟨(cells.lookup x).getD 0,?_⟩;simp[YO]
   ·exact .inl e
  ·right
   by_cases e:(k == WP)=true
   ·rw[if_pos e,YO]
    by_cases ex:(x == y)=true
    ·rw[ex];exact⟨_,rfl⟩
    ·rw[YQ]at ex;rw[ex];exact⟨c,h⟩
   ·rw[if_neg e];exact⟨c,h⟩
theorem cR{q:Type}{v:q}:∀ {l:List (Str×q)},l.lookup x=some v->(x,v)∈l
 | (y,w)::r,h=>by
  rw[YO]at h;by_cases ex:(x == y)=true
  ·rw[ex]at h;cases h;rw[show x=y by simpa using ex];exact UW ..
  ·rw[YQ]at ex;rw[ex]at h;exact UN _ (cR h)
noncomputable def DP(names q:List (Str×V9)):Bool:=
 names.all λy=>y.2 != .cell && (y.2 != .local || names.lookup y.1 == some .local) && (y.2 != .free || q.lookup y.1 == some .cell)
theorem C5{X:Cx}{N:List Str}{scope:Scope}{n:Nat}(hk:scope.kind=.function)(h:DP scope.names X.env.scope.names=true)(hc:X.env.cells=XB n X.env.scope.names []):My.Clo X N scope (fA X.env.cells scope.names []):=by
 have h':=List.all_eq_true.mp h;have Y:∀y∈scope.names,y.2≠.cell:=λy F=>by
  have:=h' y F;simp only[UR]at this;simpa using this.1.1
 have c2:∀y∈scope.names,y.2=.local->scope.names.lookup y.1=some .local:=λy F e=>by
  have:=h' y F;simp only[UR,Bool.or_eq_true]at this;rcases this.1.2 with z|z
  ·rw[e]at z;exact absurd z (by decide)
  ·simpa using z
 have c3:∀y∈scope.names,y.2=.free->∃c,X.env.cells.lookup y.1=some c:=λy F e=>by
  have:=h' y F;simp only[UR,Bool.or_eq_true]at this;rcases this.2 with z|z
  ·rw[e]at z;exact absurd z (by decide)
  ·rw[hc];exact lX (sc:=X.env.scope) (by simpa using z)
 have B:∀x,((VW scope X.env).names.lookup x=some .cell\/(VW scope X.env).names.lookup x=some .free)->(x,WP)∈scope.names:=λx G=>by
  have M:∀U,(U=NameKind.cell\/U=WP)->(x,U)∈(VW scope X.env).names->(x,WP)∈scope.names:=λU W hm=>by
   obtain⟨⟨y,k⟩,F,e⟩:=List.mem_map.mp hm;dsimp only at e;by_cases q:(k == WP && X.env.scope.kind == .function && X.env.kindOf y == some .cell)=true
   ·rw[if_pos q]at e
    have:k=.free:=by simp only[UR]at q;simpa using q.1.1
    cases e;subst this;exact F
   ·rw[if_neg q]at e
    cases e;rcases W with z|z
    ·exact absurd z (Y _ F)
    ·subst z;exact F
  rcases G with G|G
  ·exact M _ (.inl rfl) (cR G)
  ·exact M _ (.inr rfl) (cR G)
 refine⟨E7 c3,hk,Y,c2,λx c e=>?_,λx G=>rT (.inl (B x G))⟩;rcases rV e with⟨c',z,_⟩|⟨z1,z2⟩
 ·cases z
 ·obtain⟨c0,J⟩:=c3 _ z1 rfl
  have J:X.env.cells.lookup x=some c0:=J;rw[z2,J];rfl
noncomputable def cM(X:Cx)(scope:Scope):List Str->List (Option Nat)->Prop
 | [],[]=>True
 | _::N,none::ms=>cM X scope N ms
 | x::N,some i::ms=>(X.N[i]?=some x/\((VW scope X.env).names.lookup x == some NameKind.local)=false/\(X.env.kindOf x=some .cell\/X.env.kindOf x=some .free))/\cM X scope N ms
 | _,_=>False
noncomputable def tZ{q:Type}(ms:List (Option Nat))(σ:List (Option q)):List (Option q):=ms.map λo=>o.bind λi=>(σ[i]?).join
theorem eN:∀ {N:List Str} {ms:List (Option Nat)},cM X scope N ms->ms.length=N.length/\∀(j:Nat) (x:Str) (i:Nat),N[j]?=some x->ms[j]?=some (some i)->X.N[i]?=some x/\(VW scope X.env).names.lookup x≠some .local/\(X.env.kindOf x=some .cell\/X.env.kindOf x=some .free)
 | [],[],_=>⟨rfl,λj x i h _=>by simp at h⟩
 | y::N,none::ms,h=>by
  obtain⟨l,g⟩:=eN (N:=N) (ms:=ms) h;refine⟨by simp[l],λj x i h1 h2=>?_⟩;cases j with
  | zero=>simp at h2
  | succ j=>exact g j x i (by simpa using h1) (by simpa using h2)
 | y::N,some k::ms,h=>by
  obtain⟨l,g⟩:=eN (N:=N) (ms:=ms) h.2;refine⟨by simp[l],λj x i h1 h2=>?_⟩;cases j with
  | zero=>simp at h1 h2;subst h1 h2;exact⟨h.1.1,λz=>by have:=h.1.2.1;rw[z]at this;exact absurd this (by decide),h.1.2.2⟩
  | succ j=>exact g j x i (by simpa using h1) (by simpa using h2)
 | [],_::_,h=>h.elim
 | _::_,[],h=>h.elim
theorem vZ{q:Type}{ms:List (Option Nat)}{σ:List (Option q)}{j:Nat}{v:q}(h:(tZ ms σ)[j]?=some (some v)):∃i:Nat,ms[j]?=some (some i)/\σ[i]?=some (some v):=by
 unfold tZ at h;rw[UA]at h;obtain⟨o,F,B⟩:=map_some h;cases o with
 | none=>cases B
 | some i=>exact⟨i,F,kS B⟩
theorem BW{N:List Str}{ms:List (Option Nat)}(h:cM X scope N ms)(σ:L2.St):My.Start X N scope σ (tZ ms σ):=by
 obtain⟨l,g⟩:=eN h;refine⟨by unfold tZ;rw[T2];exact l,λj x v h1 h2 _=>?_⟩;obtain⟨i,B,q⟩:=vZ h2;obtain⟨a,b,c⟩:=g j x i h1 B;exact⟨b,i,a,q,c⟩
theorem ST.inner{E:List Fact}{O:List Nat}(s:ST H0 A0 A E O σ H ρ)(ms:List (Option Nat))(n:∀i,some i∈ms->i∉O):ST H0 A0 A E [] (tZ ms σ) H (tZ ms ρ) where
 ex:=s.ex
 sub:=s.sub
 l0:=s.l0
 live:=s.live
 len:=by simp[tZ]
 val:=λj d h _=>by
  obtain⟨i,q,B⟩:=vZ h;obtain⟨v,F,r⟩:=s.val i d B (n i (UJ q));refine⟨v,?_,r⟩;unfold tZ;rw[UA,q];show some ((σ[i]?).join)=_;rw[F];rfl
 own:=λj d _ h=>nomatch h
 inj:=λi j d d' a hi=>nomatch hi
 ext:=s.ext
def bR(g:Gv)(c:Bv)(f:Ev):List D->bK->Option (List D)
 | [],_=>some []
 | x::xs,ρ=>(g x ρ).bind λρ1=>(c ρ1).bind λb=>if b=true then(f ρ1).bind λd=>(bR g c f xs ρ1).bind λds=>some (d::ds)else bR g c f xs ρ1
def kA(ms:List (Option Nat))(it:Lv)(g:Gv)(c:Bv)(f:Ev):Ev:=λρ=>(it ρ).bind λitems=>if aV items.length then(bR g c f items (tZ ms ρ)).map .lst else none
def D3:Bv:=λ_=>some true
theorem BF:My.AE X [] (tDT O D3):=λpins s σ H Q I ⟨H0,A0,A,E,ρ,b,st,e,q⟩=>My.G5 pins s σ H Q I (by cases e;exact q H (Ext.refl _ _))
theorem AZ(h:kB X O c g):My.AE X [c] (tDT O g):=My.GO h
section
variable {X:Cx}{O:List Nat}
theorem sV(a1:cM X scope N ms)(hn:(ms.all λo=>match o with|some i=>!O.contains i|none=>true)=true)(σ:L2.St)(H:Hp)(Q:VK) :
  tF O (kA ms it g c f) σ H Q->My.DJ (tDI O it) (tDG [] g) (tDT [] c) (tD Rep [] f) (My.Start X N scope) σ H Q:=λ⟨H0,A0,A,E,ρ,d,st,e,q⟩=>by
 obtain⟨items,e1,e⟩:=bind_some e;by_cases hz:aV items.length=true
 case neg=>rw[if_neg hz]at e;cases e
 rw[if_pos hz]at e;obtain⟨ds,e2,rfl⟩:=map_some e;have bc:∀i,some i∈ms->i∉O:=λi hi z=>by
  have:=List.all_eq_true.mp hn _ hi;simp only[Bool.not_eq_true']at this;have z':O.contains i=true:=by simpa using z
  rw[z']at this;cases this
 refine⟨tZ ms σ,BW a1 σ,H0,A0,A,E,ρ,items,st,e1,λJ H1 E1 x1 az J1 D hD=>?_⟩;have ax:=(st.mono x1).live;have nA:¬ A D:=λz=>ax D z hD
 have n0:H D=none:=x1.free hD
 -- the state of the block: the list that grows stands outside all that is borne
 refine⟨λi m ak us H2=>m=items.length-i/\i<=items.length/\∃ρ2 B rest,ST H0 A0 (λb=>A b\/b=D) (E1++E) [] ak H2 ρ2/\H2 D=some (.lst us)/\Ext A H H2/\RepL (λb=>A b\/b=D) H2 B us/\bR g c f (items.drop i) ρ2=some rest/\B++rest=ds/\B.length<=i,⟨items.length,by simp,UZ _,tZ ms ρ,[],ds,?_,aJ,x1.trans (Ext.new hD),.nil,e2,rfl,T5 _⟩,?_⟩
 ·have s1:=((st.mono x1).both az).inner ms bc
  have up:∀a,(A a\/a=D)->A a\/H1 a=none:=λa G=>G.imp id λz=>by rw[z];exact hD
  refine⟨s1.ex.trans (Ext.new hD),λa G=>.inl (s1.sub a G),s1.l0,λa G=>?_,s1.len,λi d h n=>?_,(λi d _ h=>nomatch h),(λi j d d' a hi=>nomatch hi),λp hp=>Fact.ext (Ext.new hD) (Fact.av up (s1.ext p hp))⟩
  ·rcases G with G|G
   ·rw[aC (λz=>by subst z;exact nA G)];exact s1.live a G
   ·subst G;rw[aJ];exact λz=>nomatch z
  ·obtain⟨v,h1,h2⟩:=s1.val i d h n
   exact⟨v,h1,(h2.av up).ext (Ext.new hD)⟩
 ·rintro i m ak us H2 ⟨rfl,bm,ρ2,B,rest,s2,ag,x2,ac,M,ed,a4⟩
  obtain⟨am,go⟩:=J1 _ H2 s2.live (λp hp=>s2.ext p (YT _ hp)) i;by_cases W:i<items.length
  ·have eg:items[i]?=some items[i]:=by simp[W]
   obtain⟨bb,hy⟩:=go _ eg;rw[XY W]at M;obtain⟨U,e3,M⟩:=bind_some M;obtain⟨b,e4,M⟩:=bind_some M;have an:us.length<TQ:=by
    rw[ac.length];exact ZD a4 (U9 W (dF hz))
   refine .inr ⟨bb,an,λx H3 y=>?_⟩;obtain⟨x3,r3⟩:=hy x H3 y;refine⟨H0,A0,_,E1++E,ρ2,_,U,s2.mono x3,r3,e3,λb1 s3=>⟨H0,A0,_,E1++E,U,b,s3,e4,λH5 x5=>?_⟩⟩;have aa:=x3.trans x5;have ao:H5 D=some (.lst us):=aa.ow D _ (.inr rfl) ag;have aj:Ext A H H5:=x2.trans (aa.mono λa G=>.inl G);cases b with
   | false=>
    rw[if_neg T3]at M;exact QY ⟨ao,items.length-(i+1),by lia,rfl,W,U,B,rest,s3.mono x5,ao,aj,ac.ext aa,M,ed,by lia⟩
   | true=>
    rw[if_pos rfl]at M;refine Q3 ?_;obtain⟨d,e6,M⟩:=bind_some M;obtain⟨ah,e7,M⟩:=bind_some M;cases M;refine⟨H0,A0,_,E1++E,U,d,s3.mono x5,e6,λv H6 x6 r6=>?_⟩;have ap:=aa.trans x6;have ad:H6 D=some (.lst us):=ap.ow D _ (.inr rfl) ag;refine⟨ad,items.length-(i+1),by lia,rfl,W,U,B++[d],ah,?_,aJ,?_,((ac.ext ap).append (.cons r6 .nil)).put (.inr rfl) ad trivial,e7,by rw[<- ed];simp,by rw[VB];show B.length+1<=i+1;lia⟩
    ·have Y:=s3.mono (x5.trans x6)
     have ba:H0 D=none:=st.ex.free n0;have F:∀b,H0 b≠none->b≠D:=λb hb z=>hb (by rw[z];exact ba)
     refine⟨⟨λb w r=>eZ (F b (by rcases r with r|⟨_,r⟩ <;> (rw[r];exact λz=>nomatch z))) (Y.ex.rd b w r),λb xs k r=>?_,λb w n r=>?_,λb q w r=>?_⟩,Y.sub,Y.l0,λa G=>?_,Y.len,λi d h n=>?_,(λi d _ h=>nomatch h),(λi j d d' a hi=>nomatch hi),λp hp=>Fact.put (.inr rfl) ad trivial (Y.ext p hp)⟩
     ·rw[aC (F b (by rw[r];exact λz=>nomatch z))];exact Y.ex.kp b xs k r
     ·rw[aC (F b (by rw[r];exact λz=>nomatch z))];exact Y.ex.ow b w n r
     ·rw[aC (F b (by rw[r];exact λz=>nomatch z))];exact Y.ex.fz b q w r
     ·by_cases z:a=D
      ·subst z;rw[aJ];exact λz=>nomatch z
      ·rw[aC z];exact Y.live a G
     ·obtain⟨v,h1,h2⟩:=Y.val i d h n
      exact⟨v,h1,h2.put (.inr rfl) ad trivial⟩
    ·have ab:Ext A H H6:=aj.trans (x6.mono λa G=>.inl G)
     have F:∀b,H b≠none->b≠D:=λb hb z=>hb (by rw[z];exact n0)
     exact⟨λb w r=>eZ (F b (by rcases r with r|⟨_,r⟩ <;> (rw[r];exact λz=>nomatch z))) (ab.rd b w r),
      λb xs k r=>by rw[aC (F b (by rw[r];exact λz=>nomatch z))];exact ab.kp b xs k r,
      λb w n r=>by rw[aC (F b (by rw[r];exact λz=>nomatch z))];exact ab.ow b w n r,
      λb q w r=>by rw[aC (F b (by rw[r];exact λz=>nomatch z))];exact ab.fz b q w r⟩
  ·have a0:i=items.length:=by lia
   subst a0;rw[List.drop_length]at M;cases M;rw[X8]at ed;subst ed;exact .inl ⟨am (T5 _),q D H2 x2 n0 nA (.lst ag ac)⟩
theorem EI
  (M:X.calm=true) (B:My.Clo X N scope cl) (q:cM X scope N ms) (U:(ms.all λo=>match o with|some i=>!O.contains i|none=>true)=true) (hi:PDI X O tg iter it) (F:∀C s H fp,vU (My.aR X N scope cl C s H fp) [] tg g)
  (J:∀C s H fp,My.AE (My.aR X N scope cl C s H fp) ifs (tDT [] c)) (G:∀C s H fp,PD (My.aR X N scope cl C s H fp) [] elt f) (hs:∀x,WK iter X.env x=pure x:=by intro _;rfl) :
  PF X O (.ListComp elt [⟨tg,iter,ifs,0⟩] scope pos) (kA ms it g c f):=PE.mono (My.GK M B hi F J G hs) (sV q U)
def aE(n:Nat)(ds:List D):bK:=ds.map some++UF (n-ds.length) none
def bA(n:Nat)(f:Sv)(ds:List D):Option D:=(f (aE n ds)).bind λo=>match o with
 | .rt d=>some d
 | .nx _=>some .non
 | _=>none
theorem ST.begun(q:Live A H)(r:RepL A H ds vs):ST H A A [] [] (L2.start N vs) H (aE N.length ds) where
 ex:=Ext.refl _ _
 sub:=λ_ h=>h
 l0:=q
 live:=q
 len:=by unfold L2.start aE;simp[r.length]
 val:=λi d h _=>by
  unfold aE at h;by_cases hi:i<ds.length
  ·rw[XC (by simpa using hi),UA]at h
   obtain⟨d',M,J⟩:=map_some h;cases J;obtain⟨v,G,F⟩:=r.get' M;refine⟨v,?_,F⟩;unfold L2.start;rw[XC (by rw[T2,r.length];exact hi),UA,G];rfl
  ·rw[Y1 (by simpa using hi),zae]at h
   split at h <;> cases h
 own:=λi d _ h=>nomatch h
 inj:=λi j d d' a hi=>nomatch hi
 ext:=λp B=>nomatch B
theorem IE{P:TN}{w:World}{K:TK}{mg:Str->Option Value}{base:Heap}{x:Str}{st:Stmt}{N ps:List Str}{k:Nat}{f:Sv}{O':List Nat}(Df:My.DefAt K mg x st ps)(S:FnScope N ps (aF st))
  (h:∀(J:Addr) (F:Value) (A:TZ) (B:List Env) (s:TH) (H:Hp) (E:XK),Room k (A.deeper (U4 x (aF st) s.heap.objs.size J F))->∃g,PSDs (iW tY P w K mg base N x (aF st) J F A B s H E).nox ⟨[],[]⟩ [] (bB st) g O'/\g=f) :
  Fn P w K mg base x (k+1) ps (bA N.length f):=by
 refine My.BodyOk.ok (λJ F A B s H vs Q E hr G=>?_) Df S (λvs H Q E G=>by obtain⟨A,ds,d,_,_,e,_⟩:=G;exact e);obtain⟨U,ds,d,lv,r,e,eF,q⟩:=G;obtain⟨o,eo,M⟩:=bind_some eF;obtain⟨g,Y,rfl⟩:=h J F A B s H E hr;refine⟨_,Y,H,U,U,[],_,o,ST.begun lv r,eo,?_⟩;cases o with
 | nx ρ=>cases M;exact λA2 W H2 s2=>q .non H2 s2.ex .non
 | rt d'=>cases M;exact λv H2 x2 r2=>q v H2 x2 r2
 | bk _=>cases M
 | ct _=>cases M
noncomputable def CW(K:TK):Bool:=K.all λp=>match p.2.cls with
 | .type "list" => false
 | _=>true
theorem zC{K:TK}(h:CW K=true){a:Addr}{o:Obj}(e:K.lookup a=some o):o.cls≠.type "list" := λz=>by
 have m:∀ {K:TK},K.lookup a=some o->(a,o)∈K:=by
  intro K;induction K with
  | nil=>intro e;cases e
  | cons p r ih=>
   intro e;rw[YO]at e;by_cases q:(a == p.1)=true
   ·rw[q]at e;cases e;rw[show a=p.1 by simpa using q];exact UW ..
   ·rw[YQ]at q;rw[q]at e;exact UN _ (ih e)
 have:=List.all_eq_true.mp h _ (m e);dsimp only at this;rw[z]at this;exact absurd this (by decide)
theorem LD{P:TN}{w:World}{K:TK}{mg:Str->Option Value}{base:Heap}{st:Stmt}{N:List Str}{k:Nat}{f:Sv}{O':List Nat}(hK:CW K=true)
  (h:∀(J:Addr) (F:Value) (A:TZ) (B:List Env) (s:TH) (H:Hp) (E:XK),Room k (A.deeper (U4 "law" (aF st) s.heap.objs.size J F))->∃g,PSDs (iW tY P w K mg base N "law" (aF st) J F A B s H E).nox ⟨[],[]⟩ [] (bB st) g O'/\g=f)
  (hv:∀ns:List Int,ns.length<=63->bA N.length f [.lst (ns.map .int)]=some (.bl true)):My.BodyOk P w K mg base "law" st N k (My.tK K):=by
 refine λJ F A B s H vs Q E hr U=>?_
 obtain⟨a,ns,rfl,W,hl,q⟩:=U;have hR:Rd H a (.lst (ns.map V.int)):=by
  rcases W with W|⟨o,_,_,e,c,_⟩
  ·exact W
  ·exact absurd c (zC hK e)
 have lv:Live (λ_=>False) H:=λa h=>h.elim
 have G:∀ns:List Int,RepL (λ_=>False) H (ns.map .int) (ns.map V.int):=λns=>by
  induction ns with
  | nil=>exact .nil
  | cons n ns ih=>exact .cons (.int n) ih
 obtain⟨o,eo,M⟩:=bind_some (hv ns hl);obtain⟨g,hg,rfl⟩:=h J F A B s H E hr;refine⟨_,hg,H,λ_=>False,λ_=>False,[],_,o,ST.begun lv (.cons (.lst (λz=>z) hR (G ns)) .nil),eo,?_⟩;cases o with
 | nx ρ=>cases M
 | rt d'=>cases M;exact λv H2 x2 Y=>by cases Y;exact q _
 | bk _=>cases M
 | ct _=>cases M
end
mutual
def fD:D->Option My.Dx
 | .non=>some .non
 | .bl b=>some (.bl b)
 | .int i=>some (.int i)
 | .str x=>some (.str x)
 | .tup l=>(gU l).map .tup
 | .lst l=>(gU l).map .lst
 | .dK _=>none
 | .dT _=>none
def gU:List D->Option (List My.Dx)
 | []=>some []
 | d::ds=>(fD d).bind λx=>(gU ds).bind λxs=>some (x::xs)
end
mutual
theorem kH:∀ {d e:D} {x:My.Dx},fD d=some x->fD e=some x->d=e
 | .non,e,x,h,k=>by cases h;cases e <;> simp[fD]at k <;> first|rfl|(obtain⟨_,_,z⟩:=k;cases z)
 | .bl b,e,x,h,k=>by cases h;cases e <;> simp[fD]at k <;> first|(rw[k])|(obtain⟨_,_,z⟩:=k;cases z)
 | .int b,e,x,h,k=>by cases h;cases e <;> simp[fD]at k <;> first|(rw[k])|(obtain⟨_,_,z⟩:=k;cases z)
 | .str b,e,x,h,k=>by cases h;cases e <;> simp[fD]at k <;> first|(rw[k])|(obtain⟨_,_,z⟩:=k;cases z)
 | .tup l,e,x,h,k=>by
  rw[fD]at h;obtain⟨xs,h1,rfl⟩:=map_some h;cases e with
  | tup m=>
   rw[fD]at k;obtain⟨ys,B,q⟩:=map_some k;cases q;rw[l9 h1 B]
  | lst m=>rw[fD]at k;obtain⟨ys,B,q⟩:=map_some k;cases q
  | _=>simp[fD]at k
 | .lst l,e,x,h,k=>by
  rw[fD]at h;obtain⟨xs,h1,rfl⟩:=map_some h;cases e with
  | lst m=>
   rw[fD]at k;obtain⟨ys,B,q⟩:=map_some k;cases q;rw[l9 h1 B]
  | tup m=>rw[fD]at k;obtain⟨ys,B,q⟩:=map_some k;cases q
  | _=>simp[fD]at k
 | .dK _,e,x,h,k=>by rw[fD]at h;cases h
 | .dT _,e,x,h,k=>by rw[fD]at h;cases h
theorem l9:∀ {d e:List D} {x:List My.Dx},gU d=some x->gU e=some x->d=e
 | [],e,x,h,k=>by
  rw[gU]at h;cases h;cases e with
  | nil=>rfl
  | cons e es=>
   rw[gU]at k;obtain⟨_,_,k⟩:=bind_some k;obtain⟨_,_,k⟩:=bind_some k;cases k
 | d::ds,e,x,h,k=>by
  rw[gU]at h;obtain⟨y,h1,h⟩:=bind_some h;obtain⟨ys,h2,h⟩:=bind_some h;cases h;cases e with
  | nil=>rw[gU]at k;cases k
  | cons e es=>
   rw[gU]at k;obtain⟨z,q,k⟩:=bind_some k;obtain⟨zs,B,k⟩:=bind_some k;cases k;rw[kH h1 q,l9 h2 B]
end
mutual
theorem p6{K:TK}{A:Av}{H:Hp}:∀ {d:D} {x:My.Dx} {v:V},fD d=some x->Rep A H d v->My.Rep K H x v
 | .non,x,v,h,r=>by cases h;cases r;rw[My.Rep]
 | .bl b,x,v,h,r=>by cases h;cases r;rw[My.Rep]
 | .int b,x,v,h,r=>by cases h;cases r;rw[My.Rep]
 | .str b,x,v,h,r=>by cases h;cases r;rw[My.Rep]
 | .tup l,x,v,h,r=>by
  rw[fD]at h;obtain⟨xs,h1,rfl⟩:=map_some h;cases r with
  | tup hh rl=>rw[My.Rep];exact⟨_,_,rfl,.inl (.inl hh),iE h1 rl⟩
 | .lst l,x,v,h,r=>by
  rw[fD]at h;obtain⟨xs,h1,rfl⟩:=map_some h;cases r with
  | lst n hh rl=>rw[My.Rep];exact⟨_,_,rfl,.inl hh,iE h1 rl⟩
 | .dK _,x,v,h,r=>by rw[fD]at h;cases h
 | .dT _,x,v,h,r=>by rw[fD]at h;cases h
theorem iE{K:TK}{A:Av}{H:Hp}:∀ {d:List D} {x:List My.Dx} {v:List V},gU d=some x->RepL A H d v->My.RepL K H x v
 | [],x,v,h,r=>by rw[gU]at h;cases h;cases r;rw[My.RepL]
 | d::ds,x,v,h,r=>by
  rw[gU]at h;obtain⟨y,h1,h⟩:=bind_some h;obtain⟨ys,h2,h⟩:=bind_some h;cases h;cases r with
  | cons r rs=>rw[My.RepL];exact⟨_,_,rfl,p6 h1 r,iE h2 rs⟩
end
theorem eX{K:TK}{A:Av}{H:Hp}{d:D}{x:My.Dx}{v:V}(h:fD d=some x)(r:RepB A H d v):My.Rep K H x v:=by
 cases r with
 | of r=>exact p6 h r
 | lst hh rl=>
  rw[fD]at h;obtain⟨xs,h1,rfl⟩:=map_some h;rw[My.Rep];exact⟨_,_,rfl,.inl hh,iE h1 rl⟩
 | dK=>rw[fD]at h;cases h
 | dT=>rw[fD]at h;cases h
def fB(d:D):Bool:=match fD d with
 | some x=>x.nb && decide (x.dep<=60)
 | none=>false
noncomputable def D5:D->Bool
 | .tup _=>true | .lst _=>true|_=>false
noncomputable def IA:D->D->Bool
 | .non,.non=>true | .non,.int _=>true | .int _,.non=>true | .non,.bl _=>true | .bl _,.non=>true | .non,.str _=>true | .str _,.non=>true
 | .int _,.int _=>true | .bl _,.bl _=>true | .str _,.str _=>true
 | .int _,.str _=>true | .str _,.int _=>true | .bl _,.str _=>true | .str _,.bl _=>true
 | _,_=>false
open Classical in
def AD(d e:D):Option Bool:=if IA d e=true\/(D5 d=true/\D5 e=true/\fB d=true/\fB e=true)then some (decide (d=e))else none
def vV(d e:D):Option D:=(AD d e).map .bl
def xW(d e:D):Option D:=(AD d e).map λb=>.bl (!b)
theorem CD(h:IA d e=true)(r:RepB A H d v)(s:RepB A H e w):MV v w=true/\(v=w↔d=e):=by
 cases d <;> cases e <;> first
  | (cases h;done)
  | (have:=r.non_inv;subst this;have:=s.non_inv;subst this;exact⟨rfl,by simp⟩)
  | (have:=r.non_inv;subst this;have:=s.int_inv;subst this;exact⟨rfl,by simp⟩)
  | (have:=r.non_inv;subst this;have:=s.bl_inv;subst this;exact⟨rfl,by simp⟩)
  | (have:=r.non_inv;subst this;have:=s.str_inv;subst this;exact⟨rfl,by simp⟩)
  | (have:=r.int_inv;subst this;have:=s.non_inv;subst this;exact⟨rfl,by simp⟩)
  | (have:=r.int_inv;subst this;have:=s.int_inv;subst this;exact⟨rfl,by simp⟩)
  | (have:=r.int_inv;subst this;have:=s.str_inv;subst this;exact⟨rfl,by simp⟩)
  | (have:=r.bl_inv;subst this;have:=s.non_inv;subst this;exact⟨rfl,by simp⟩)
  | (have:=r.bl_inv;subst this;have:=s.bl_inv;subst this;exact⟨rfl,by simp⟩)
  | (have:=r.bl_inv;subst this;have:=s.str_inv;subst this;exact⟨rfl,by simp⟩)
  | (have:=r.str_inv;subst this;have:=s.non_inv;subst this;exact⟨rfl,by simp⟩)
  | (have:=r.str_inv;subst this;have:=s.int_inv;subst this;exact⟨rfl,by simp⟩)
  | (have:=r.str_inv;subst this;have:=s.bl_inv;subst this;exact⟨rfl,by simp⟩)
  | (have:=r.str_inv;subst this;have:=s.str_inv;subst this;exact⟨rfl,by simp⟩)
section
variable {X:Cx}{O:List Nat}
theorem OpR.orM(h:OpR X f r)(h':OpR X f r')(x:∀a b H Q,r2 a b H Q->r a b H Q\/r' a b H Q):OpR X f r2:=OpR.mono (OpR.or h h') x
theorem jB(h:fB d=true):∃x,fD d=some x/\x.nb=true/\x.dep<=60:=by
 unfold fB at h;cases e:fD d with
 | none=>rw[e]at h;cases h
 | some x=>rw[e]at h;simp only[UR,decide_eq_true_eq]at h;exact⟨x,rfl,h.1,h.2⟩
theorem xK(h:D5 d=true)(e:fD d=some x):x.seq=true:=by
 cases d with
 | tup l=>rw[fD]at e;obtain⟨xs,_,rfl⟩:=map_some e;rfl
 | lst l=>rw[fD]at e;obtain⟨xs,_,rfl⟩:=map_some e;rfl
 | _=>cases h
theorem OL(hu:X.A.units+64<cLine):dR X (TY .Eq) vV:=OpR.orM N5 (My.LK hu) <| by
 rintro x y H Q ⟨A,dx,W,d,lv,U,N,e,q⟩;obtain⟨b,G,rfl⟩:=map_some e;unfold AD at G;split at G
 case isFalse=>cases G
 rename_i hc;cases G;rcases hc with hs|⟨s1,s2,k1,Y⟩
 ·left
  obtain⟨h1,h2⟩:=CD hs U N;refine⟨h1,?_⟩;have:decide (x=y)=@decide (dx=W) (V6 _):=decide_eq_decide.mpr h2;rw[this];exact q _ H (Ext.refl _ _) (.bl _)
 ·right
  obtain⟨M,F,a2,a3⟩:=jB k1;obtain⟨J,B,b2,b3⟩:=jB Y;refine⟨M,J,eX F U,eX B N,xK s1 F,xK s2 B,a2,b2,a3,?_⟩;have:@decide (M=J) (V6 _)=@decide (dx=W) (V6 _):=decide_eq_decide.mpr ⟨λz=>kH F (z ▸ B),λz=>by subst z;rw[F]at B;exact UL B⟩;show Q (.bl (@decide (M=J) (V6 _))) H;rw[this];exact q _ H (Ext.refl _ _) (.bl _)
theorem NY(hu:X.A.units+64<cLine):dR X (TY .NotEq) xW:=OpR.orM NP (My.LB hu) <| by
 rintro x y H Q ⟨A,dx,W,d,lv,U,N,e,q⟩;obtain⟨b,G,rfl⟩:=map_some e;unfold AD at G;split at G
 case isFalse=>cases G
 rename_i hc;cases G;rcases hc with hs|⟨s1,s2,k1,Y⟩
 ·left
  obtain⟨h1,h2⟩:=CD hs U N;refine⟨h1,?_⟩;have:decide (x=y)=@decide (dx=W) (V6 _):=decide_eq_decide.mpr h2;rw[this];exact q _ H (Ext.refl _ _) (.bl _)
 ·right
  obtain⟨M,F,a2,a3⟩:=jB k1;obtain⟨J,B,b2,b3⟩:=jB Y;refine⟨M,J,eX F U,eX B N,xK s1 F,xK s2 B,a2,b2,a3,?_⟩;have:@decide (M=J) (V6 _)=@decide (dx=W) (V6 _):=decide_eq_decide.mpr ⟨λz=>kH F (z ▸ B),λz=>by subst z;rw[F]at B;exact UL B⟩;show Q (.bl (!@decide (M=J) (V6 _))) H;rw[this];exact q _ H (Ext.refl _ _) (.bl _)
noncomputable def iT:D->Bool
 | .non=>true|_=>false
def HJ(d e:D):Option D:=if iT e then some (.bl (iT d))else none
def xS(d e:D):Option D:=if iT e then some (.bl (!iT d))else none
theorem wK(r:RepB A H d v):decide (v=.non)=iT d:=by
 cases d with
 | non=>have:=r.non_inv;subst this;rfl
 | bl b=>have:=r.bl_inv;subst this;rfl
 | int b=>have:=r.int_inv;subst this;rfl
 | str b=>have:=r.str_inv;subst this;rfl
 | tup l=>obtain⟨_,_,rfl,_⟩:=r.tup_inv;rfl
 | lst l=>obtain⟨_,_,rfl,_⟩:=r.lst_inv;rfl
 | dK l=>obtain⟨_,_,rfl,_⟩:=r.dK_inv;rfl
 | dT l=>obtain⟨_,_,rfl,_⟩:=r.dT_inv;rfl
theorem LS:dR X (TY .Is) HJ:=OpR.mono KO <| by
 rintro x y H Q ⟨A,dx,B,d,J,F,G,e,q⟩;unfold HJ at e;cases B with
 | non=>cases e;have:=G.non_inv;subst this;exact⟨rfl,by rw[wK F];exact q _ H (Ext.refl _ _) (.bl _)⟩
 | _=>cases e
theorem EX:dR X (TY .IsNot) xS:=OpR.mono GX <| by
 rintro x y H Q ⟨A,dx,B,d,J,F,G,e,q⟩;unfold xS at e;cases B with
 | non=>cases e;have:=G.non_inv;subst this;exact⟨rfl,by rw[wK F];exact q _ H (Ext.refl _ _) (.bl _)⟩
 | _=>cases e
theorem Inv.lstR(I:Inv X pins σ H s)(B:Rd H l (.lst xs)):xs.length<=TQ/\∃(q:List Value) (n:Nat),Vals xs q/\xs.length=q.length/\s.heap.get? l=some {cls:=.type "list",data:=.seq q.toArray n}:=by
 obtain⟨hz,q,n,r,e⟩:=(show ObjOk X.prog X.w H s.heap l (.lst xs)from B.ok I.hok);exact⟨hz,q,n,r,r.length,e⟩
def OO:R2:=λx y H Q=>∃l b xs zs,x=.ref l/\y=.ref b/\Rd H l (.lst xs)/\Rd H b (.lst zs)/\xs.length+zs.length<=TQ/\∀p,H p=none->Q (.ref p) (upd H p (.lst (xs++zs)))
theorem EN:OpR X (UQ .Add) OO:=by
 intro pins s σ H x y v u Q I N J h;obtain⟨l,b,xs,zs,rfl,rfl,G,U,hz,q⟩:=h;cases N;cases J;obtain⟨z,F,n,r,hl,e⟩:=Inv.lstR I G;obtain⟨z2,B,n2,Y,M,W⟩:=Inv.lstR I U;refine PySem.P.add_list e W ?_ (by rw[T6,T6];lia);have ea:F.toArray++B.toArray=(F++B).toArray:=by simp
 rw[ea];exact⟨.ref _,_,I.lnew (t':=s.toks) (r.append Y) (by rw[VB];lia),rfl,q _ I.fresh⟩
end
section
variable {X:Cx}{O:List Nat}
theorem RepL.nil_iff(r:RepL A H ds vs):vs=[]↔ds=[]:=by cases r <;> simp
def oS:D->D->Option D
 | .int i,.int j=>some (.int (i+j))
 | .str i,.str j=>if aV (i.length+j.length)then some (.str (i++j))else none
 | .lst l,.lst m=>if aV (l.length+m.length)then some (.lst (l++m))else none
 | .tup (a::l),.tup m=>if aV (l.length+1+m.length)then some (.tup (a::l++m))else none
 | _,_=>none
theorem JT:dR X (UQ .Add) oS:=OpR.mono (OpR.or (OpR.or KU uL) (OpR.or EN FF)) <| by
 rintro x y H Q ⟨A,dx,G,d,U,N,M,e,q⟩;cases dx with
 | int i=>
  cases G with
  | int j=>cases e;have:=N.int_inv;subst this;have:=M.int_inv;subst this;exact .inl (.inl ⟨i,j,rfl,rfl,q _ H (Ext.refl _ _) (.int _)⟩)
  | _=>cases e
 | str i=>
  cases G with
  | str j=>
   simp only[oS]at e;by_cases hz:aV (i.length+j.length)=true
   ·rw[if_pos hz]at e;cases e;have:=N.str_inv;subst this;have:=M.str_inv;subst this
    exact .inl (.inr ⟨i,j,rfl,rfl,dF hz,q _ H (Ext.refl _ _) (.str _)⟩)
   ·rw[if_neg hz]at e;cases e
  | _=>cases e
 | lst l=>
  cases G with
  | lst m=>
   simp only[oS]at e;by_cases hz:aV (l.length+m.length)=true
   ·rw[if_pos hz]at e;cases e
    obtain⟨a,xs,rfl,h1,B⟩:=N.lst_inv;obtain⟨b,ys,rfl,h2,J⟩:=M.lst_inv;exact .inr (.inl ⟨a,b,xs,ys,rfl,rfl,h1,h2,by rw[B.length,J.length];exact dF hz,λp F=>q _ _ (Ext.new F) (.lst (λz=>U p z F) (.inl aJ) ((B.append J).ext (Ext.new F)))⟩)
   ·rw[if_neg hz]at e;cases e
  | _=>cases e
 | tup l=>
  cases l with
  | nil=>cases G <;> cases e
  | cons a0 l=>
   cases G with
   | tup m=>
    simp only[oS]at e;by_cases hz:aV (l.length+1+m.length)=true
    ·rw[if_pos hz]at e;cases e
     obtain⟨a,xs,rfl,h1,B⟩:=N.tup_inv;obtain⟨b,ys,rfl,h2,J⟩:=M.tup_inv;refine .inr (.inr ⟨a,b,xs,ys,rfl,rfl,.inl (.inl h1),.inl (.inl h2),λz=>(by have:=B.nil_iff.mp z;cases this),by rw[B.length,J.length];exact dF hz,λz=>?_,λ_ p F=>q _ _ (Ext.new F) (.tup aJ ((B.append J).ext (Ext.new F)))⟩);refine q _ H (Ext.refl _ _) (.tup h1 ?_);have:=J.nil_iff.mp z;subst this;rw[X8];exact B
    ·rw[if_neg hz]at e;cases e
   | _=>cases e
 | _=>cases G <;> cases e
noncomputable def bS:List D->Option (List Int)
 | []=>some []
 | .int i::ds=>(bS ds).map (i::·)
 | _=>none
theorem bQ:∀ {ds:List D} {ns:List Int} {vs:List V},bS ds=some ns->RepL A H ds vs->vs=ns.map V.int
 | [],ns,vs,h,r=>by cases h;cases r;rfl
 | .int i::ds,ns,vs,h,r=>by
  obtain⟨ms,h1,rfl⟩:=map_some h;cases r with
  | cons r rs=>cases r;rw[bQ h1 rs];rfl
def M9:D->D->Option D
 | .int i,.int j=>some (.bl (decide (i<j)))
 | .tup l,.tup m=>(bS l).bind λns=>(bS m).map λms=>.bl (HT.lexLt ns ms)
 | _,_=>none
theorem IZ(J:X.A.units<cLine):dR X (TY .Lt) M9:=OpR.mono (OpR.or OI (KG J)) <| by
 rintro x y H Q ⟨A,dx,B,d,Y,G,F,e,q⟩;cases dx with
 | int i=>
  cases B with
  | int j=>cases e;have:=G.int_inv;subst this;have:=F.int_inv;subst this;exact .inl ⟨i,j,rfl,rfl,q _ H (Ext.refl _ _) (.bl _)⟩
  | _=>cases e
 | tup l=>
  cases B with
  | tup m=>
   obtain⟨ns,U,e⟩:=bind_some e;obtain⟨ms,N,rfl⟩:=map_some e;obtain⟨a,xs,rfl,h1,M⟩:=G.tup_inv;obtain⟨b,ys,rfl,h2,W⟩:=F.tup_inv;have:=bQ U M;subst this;have:=bQ N W;subst this;exact .inr ⟨a,b,ns,ms,rfl,rfl,.inl (.inl h1),.inl (.inl h2),q _ H (Ext.refl _ _) (.bl _)⟩
  | _=>cases e
 | _=>cases B <;> cases e
open Classical in
def HH(x y:D):Option Bool:=match y with
 | .dK _=>(dG y x).map (·.isSome)
 | .dT _=>(dG y x).map (·.isSome)
 | .lst l=>if fB x=true/\l.all fB=true then some (l.any λd=>decide (d=x))else none
 | .tup l=>if fB x=true/\l.all fB=true then some (l.any λd=>decide (d=x))else none
 | _=>none
def P8(x y:D):Option D:=(HH x y).map .bl
open Classical in
theorem sJ(I:Inv X pins σ H s)(hu:Ar.units+60<cLine)(kx:fB x=true)(rx:RepB A H x v)(ru:RelV v u)(kl:l.all fB=true)(rl:RepL A H l xs)(W:Vals xs B) :
  ∃f:Value->Bool,(∀y∈B,YB Ar s y u (f y))/\B.any f=l.any λd=>decide (d=x):=by
 obtain⟨F,G,a2,a3⟩:=jB kx;have N:My.Rep X.K H F v:=eX G rx;let g:Value->Bool:=λy=>decide (∃w z,RelV w y/\My.Rep X.K H z w/\z=F)
 have one:∀ {d:D} {w:V} {y:Value},fB d=true->Rep A H d w->RelV w y->g y=decide (d=x)/\YB Ar s y u (g y):=by
  intro d w y kd rd M;obtain⟨z,Y,b2,b3⟩:=jB kd;have J:My.Rep X.K H z w:=p6 Y rd;have e:g y=decide (z=F):=by
   refine decide_eq_decide.mpr ⟨λ⟨w',z',q1,q2,q3⟩=>?_,λe=>⟨w,z,M,J,e⟩⟩;have:=RelV.inj M q1;subst this;rw[My.Rep.inj I _ _ _ J q2,q3]
  have U:decide (z=F)=decide (d=x):=decide_eq_decide.mpr ⟨λq=>kH Y (q ▸ G),λq=>by subst q;rw[Y]at G;exact UL G⟩;refine⟨e.trans U,?_⟩;rw[e];exact My.p7 I 60 Ar z F w v y u b3 hu b2 a2 J N M ru
 refine⟨g,?_,?_⟩
 ·intro y hy
  obtain⟨j,hj⟩:=List.mem_iff_getElem?.mp hy;have ad:=W.length;have aq:j<B.length:=(List.getElem?_eq_some_iff.mp hj).1;have hx:xs[j]?=some (xs[j]'(by lia)):=U8 (by lia);obtain⟨u',e1,r1⟩:=W.get hx;rw[hj]at e1;cases e1;obtain⟨d,U,r2⟩:=rl.get hx;exact(one (List.all_eq_true.mp kl _ (UJ U)) r2 r1).2
 ·have all:∀(l:List D) (xs:List V) (B:List Value),l.all fB=true->RepL A H l xs->Vals xs B->B.any g=l.any λd=>decide (d=x):=by
   intro l;induction l with
   | nil=>intro xs B _ r v;cases r;cases v;rfl
   | cons d l ih=>
    intro xs B k r v;cases r with
    | cons h t=>
     cases v with
     | cons r rs=>
      rw[XF,UR]at k;rw[VQ,VQ,(one k.1 h r).1,ih _ _ k.2 t rs]
  exact all l xs B kl rl W
theorem NN(hu:X.A.units+64<cLine):dR X (TY .In) P8:=by
 intro pins s σ H x y v u Q I rv N h;obtain⟨A,dx,dy,d,lv,U,M,e,q⟩:=h;obtain⟨b,B,rfl⟩:=map_some e;have fin:∀k,k=b->EP X pins σ Q (.bool k) s:=λk hk=>⟨.bl b,H,I,by rw[hk];rfl,q _ H (Ext.refl _ _) (.bl _)⟩
 have aa:X.A.units+1<cLine:=by lia
 have dict:∀o,dG dy dx=some o->o.isSome=b->wpAny (model X.prog X.w) X.A (TY .In v u) (EP X pins σ Q) X.xe s:=λo G F=>by
  obtain⟨a,ov,rfl,_,g,e3⟩:=l6 G M U;cases N;refine QU aa I g rv λs' I'=>⟨.bl b,H,I',?_,q _ H (Ext.refl _ _) (.bl _)⟩
  have:ov.isSome=b:=by rw[<- F];rcases e3 with⟨rfl,rfl⟩|⟨_,_,rfl,rfl,_⟩ <;> rfl
  rw[this];rfl
 cases dy with
 | dK l=>obtain⟨o,G,F⟩:=map_some B;exact dict o G F
 | dT l=>obtain⟨o,G,F⟩:=map_some B;exact dict o G F
 | lst l=>
  simp only[HH]at B;split at B
  case isFalse=>cases B
  rename_i hc;cases B;obtain⟨a,xs,rfl,h1,r1⟩:=M.lst_inv;cases N;obtain⟨W,r,pl,hz⟩:=I.list (.inl h1);obtain⟨f,Y,J⟩:=sJ (Ar:=X.A.in1) I (by show X.A.units+1+60<cLine;lia) hc.1 U rv hc.2 r1 r;refine SeqAt.in_listAt f (My.PlainL.isList pl) (λw hw=>Y w (by simpa using hw)) (fin _ ?_);rw[<- J];simp
 | tup l=>
  simp only[HH]at B;split at B
  case isFalse=>cases B
  rename_i hc;cases B;obtain⟨a,xs,rfl,h1,r1⟩:=M.tup_inv;cases N;obtain⟨W,r,pl,hz⟩:=I.tuple (.inl (.inl h1));obtain⟨f,Y,J⟩:=sJ (Ar:=X.A.in1) I (by show X.A.units+1+60<cLine;lia) hc.1 U rv hc.2 r1 r;refine SeqAt.in_tupleAt f pl (λw hw=>Y w (by simpa using hw)) (fin _ ?_);rw[<- J];simp
 | _=>cases B
def gW:List D->Option D
 | [.lst l]=>some (.int l.length)
 | [.tup l]=>some (.int l.length)
 | [.str z]=>if aV z.length then some (.int z.length)else none
 | [.dK l]=>some (.int l.length)
 | _=>none
theorem KL:e9 X (.builtin "len") gW:=by
 intro pins s σ H xs G Q I r h;obtain⟨A,ds,d,W,B,e,q⟩:=h
 match ds,B,e with
 | [.lst l],B,e=>
  cases e;obtain⟨v,rfl,h1⟩:=B.one;obtain⟨a,xs,rfl,h2,F⟩:=h1.lst_inv;exact lK pins s σ H _ G Q I r ⟨_,_,rfl,.inl ⟨xs,.inl h2,rfl⟩,by rw[F.length];exact q _ H (Ext.refl _ _) (.int _)⟩
 | [.tup l],B,e=>
  cases e;obtain⟨v,rfl,h1⟩:=B.one;obtain⟨a,xs,rfl,h2,F⟩:=h1.tup_inv;exact lK pins s σ H _ G Q I r ⟨_,_,rfl,.inr ⟨xs,.inl (.inl h2),rfl⟩,by rw[F.length];exact q _ H (Ext.refl _ _) (.int _)⟩
 | [.str z],B,e=>
  simp only[gW]at e;by_cases hz:aV z.length=true
  ·rw[if_pos hz]at e;cases e
   obtain⟨v,rfl,h1⟩:=B.one;have:=h1.str_inv;subst this;exact lK pins s σ H _ G Q I r ⟨_,_,rfl,⟨dF hz,rfl⟩,q _ H (Ext.refl _ _) (.int _)⟩
  ·rw[if_neg hz]at e;cases e
 | [.dK l],B,e=>
  cases e;obtain⟨v,rfl,h1⟩:=B.one;obtain⟨a,xs,rfl,h2,U,F⟩:=h1.dK_inv;obtain⟨u,rfl,N⟩:=vals1 r;cases N;have M:xs.length=l.length:=by have:=congrArg V0 U;simpa using this
  exact OC I h2 λt s' J=>⟨.int xs.length,H,J,⟨t,rfl⟩,by rw[M];exact q _ H (Ext.refl _ _) (.int _)⟩
 | [],_,e=>cases e
 | [.non],_,e=>cases e
 | [.bl _],_,e=>cases e
 | [.int _],_,e=>cases e
 | [.dT _],_,e=>cases e
 | _::_::_,_,e=>simp[gW]at e
noncomputable def xI:List D->Option D
 | [.int i,.int j]=>some (.int (if j<i then j else i))
 | _=>none
noncomputable def xM:List D->Option D
 | [.int i,.int j]=>some (.int (if j>i then j else i))
 | _=>none
theorem sA{ds:List D}{g:Int->Int->D}(h:(match ds with|[.int i,.int j]=>some (g i j)|_=>none)=some d):∃i j,ds=[.int i,.int j]/\d=g i j:=by
 split at h
 ·cases h;exact⟨_,_,rfl,rfl⟩
 ·cases h
theorem FY(B:X.calm=true):e9 X (.builtin "min") xI:=CallR.mono (yF B) <| by
 rintro xs H Q ⟨A,ds,d,F,r,e,q⟩;obtain⟨i,j,rfl,rfl⟩:=sA (g:=λi j=>.int (if j<i then j else i)) e;obtain⟨v,w,rfl,h1,h2⟩:=r.two;have:=h1.int_inv;subst this;have:=h2.int_inv;subst this;exact⟨i,j,rfl,q _ H (Ext.refl _ _) (.int _)⟩
theorem GD(B:X.calm=true):e9 X (.builtin "max") xM:=CallR.mono (zP B) <| by
 rintro xs H Q ⟨A,ds,d,F,r,e,q⟩;obtain⟨i,j,rfl,rfl⟩:=sA (g:=λi j=>.int (if j>i then j else i)) e;obtain⟨v,w,rfl,h1,h2⟩:=r.two;have:=h1.int_inv;subst this;have:=h2.int_inv;subst this;exact⟨i,j,rfl,q _ H (Ext.refl _ _) (.int _)⟩
noncomputable def gN:List D->Option D
 | [.lst l]=>some (.tup l)
 | [.tup l]=>some (.tup l)
 | _=>none
noncomputable def cA:List D->Option D
 | [.lst l]=>some (.lst l)
 | [.tup l]=>some (.lst l)
 | _=>none
theorem wG{ds:List D}{g:List D->D}(h:(match ds with|[.lst l]=>some (g l)|[.tup l]=>some (g l)|_=>none)=some d):∃l,(ds=[.lst l]\/ds=[.tup l])/\d=g l:=by
 split at h
 ·cases h;exact⟨_,.inl rfl,rfl⟩
 ·cases h;exact⟨_,.inr rfl,rfl⟩
 ·cases h
theorem rN:e9 X (.type "tuple") gN:=CallR.mono mU <| by
 rintro xs H Q ⟨A,ds,d,J,r,e,q⟩;obtain⟨l,G,rfl⟩:=wG (g:=.tup) e;rcases G with rfl|rfl
 ·obtain⟨v,rfl,h1⟩:=r.one
  obtain⟨a,xs,rfl,h2,B⟩:=h1.lst_inv;exact⟨a,xs,rfl,.inl ⟨.inl h2,λp F=>q _ _ (Ext.new F) (.tup aJ (B.ext (Ext.new F)))⟩⟩
 ·obtain⟨v,rfl,h1⟩:=r.one
  obtain⟨a,xs,rfl,h2,B⟩:=h1.tup_inv;exact⟨a,xs,rfl,.inr ⟨.inl (.inl h2),q _ H (Ext.refl _ _) (.tup h2 B)⟩⟩
theorem FL:DL X (.type "list") cA:=CallR.mono pL <| by
 rintro xs H Q ⟨A,ds,d,G,r,e,q⟩;obtain⟨l,J,rfl⟩:=wG (g:=.lst) e;rcases J with rfl|rfl
 ·obtain⟨v,rfl,h1⟩:=r.one
  obtain⟨a,xs,rfl,h2,F⟩:=h1.lst_inv;exact⟨a,xs,rfl,.inl (.inl h2),λp B=>q p _ (Ext.new B) B (λz=>G p z B) (.lst aJ (F.fresh B))⟩
 ·obtain⟨v,rfl,h1⟩:=r.one
  obtain⟨a,xs,rfl,h2,F⟩:=h1.tup_inv;exact⟨a,xs,rfl,.inr (.inl (.inl h2)),λp B=>q p _ (Ext.new B) B (λz=>G p z B) (.lst aJ (F.fresh B))⟩
end
section
variable {X:Cx}{O:List Nat}
noncomputable def R5:D->String
 | .non => "NoneType" | .bl _ => "bool" | .int _ => "int" | .str _ => "str" | .tup _ => "tuple" | .lst _ => "list" | .dK _ => "dict" | .dT _ => "dict"
def QQ(K:TK):List V->Hp->VK->Prop:=λxs H Q=>∃A d x n b,xs=[x,.ty n]/\RepB A H d x/\X6 K (.type (R5 d)) (.type n)=some b/\Q (.bl b) H
theorem BZ:CallR X (.builtin "isinstance") (QQ X.K):=by
 intro pins s σ H xs M Q I r h;obtain⟨A,d,x,n,b,rfl,B,e,q⟩:=h;have F:∀t,TyOf X.K H x t->t=.type (R5 d)->wpAny (model X.prog X.w) X.A (call (.builtin "isinstance") M) (EP X pins σ Q) X.xe s:=λt W U=>by
  subst U;exact My.AM pins s σ H _ M Q I r ⟨x,n,_,b,rfl,W,e,q⟩
 cases d with
 | non=>have:=B.non_inv;subst this;exact F _ .non rfl
 | bl c=>have:=B.bl_inv;subst this;exact F _ (.bl c) rfl
 | int c=>have:=B.int_inv;subst this;exact F _ (.int c) rfl
 | str c=>have:=B.str_inv;subst this;exact F _ (.str c) rfl
 | tup l=>obtain⟨a,xs,rfl,h1,_⟩:=B.tup_inv;exact F _ (.tup h1) rfl
 | lst l=>
  obtain⟨a,xs,rfl,h1,_⟩:=B.lst_inv;rcases h1 with h1|⟨o,h1⟩
  ·exact F _ (.lst h1) rfl
  ·exact F _ (.frz h1) rfl
 | dK l=>
  obtain⟨a,xs,rfl,h1,_⟩:=B.dK_inv;obtain⟨u,N,rfl,G,J⟩:=vals2 r;cases G;cases J;obtain⟨_,_,vs,_,p⟩:=(show ObjOk X.prog X.w H s.heap a (.dK xs)from h1.ok I.hok);obtain⟨o,es,ep,h1,h2,_⟩:=p;exact VO YZ I.kIn ⟨o,h1,h2.1⟩ e (λz=>nomatch z) λtk=>⟨.bl b,H,I.tok tk,rfl,q⟩
 | dT l=>
  obtain⟨a,xs,rfl,h1,_⟩:=B.dT_inv;obtain⟨u,N,rfl,G,J⟩:=vals2 r;cases G;cases J;obtain⟨_,_,xs,_,o,es,ep,h1,h2,_⟩:=(show ObjOk X.prog X.w H s.heap a (.dT xs)from h1.ok I.hok);exact VO YZ I.kIn ⟨o,h1,h2.1⟩ e (λz=>nomatch z) λtk=>⟨.bl b,H,I.tok tk,rfl,q⟩
noncomputable def mQ(n:String)(d:D):Bool:=match d with
 | .non=>false
 | .bl _=>n == "bool" || n == "int"
 | .int _=>n == "int"
 | .str _=>n == "str"
 | .tup _=>n == "tuple"
 | .lst _=>n == "list"
 | .dK _=>n == "dict"
 | .dT _=>n == "dict"
def P1(n:String):Prop:=∀(K:TK) (d:D),X6 K (.type (R5 d)) (.type n)=some (mQ n d)
theorem FJ:P1 "int" := λK d=>by cases d <;> rfl
theorem A7:P1 "bool" := λK d=>by cases d <;> rfl
theorem kit_tuple:P1 "tuple" := λK d=>by cases d <;> rfl
def D4(n:String)(f:Ev):Ev:=λρ=>(f ρ).map λd=>.bl (mQ n d)
theorem u6(B:P1 n)(M:Gl X "isinstance")(W:X.mg "isinstance" = none)(G:Gl X x)(F:X.mg x=none)(hb:UM x=some (.type n))(U:PB X O e f)(hn:x ≠ "__name__" := by decide)(N:(x == ("__debug__" : Str))=false:=by decide)
  (h1:TL [e,.Name x p2] X.env=(false,eval e X.env)::TL [.Name x p2] X.env:=by rfl) (h2:(UD pos (TL [.Name x p2] X.env)).any (·.1)=false:=by rfl) (J:TL [.Name x p2] X.env=(false,eval (.Name x p2) X.env)::TL [] X.env:=by rfl) :
  PD X O (.Call (.Name "isinstance" p) [e,.Name x p2] [] pos) (D4 n f):=
 PE.mono (lW BZ M W My.boot_isinstance (dE U (dE (EV (v:=.ty n) G F hb rfl hn N) jD J) h1) (by decide) (by decide) h1 h2) <| by
  rintro σ H Q ⟨H0,A0,A,E,ρ,d,st,e,q⟩;obtain⟨x,ex,rfl⟩:=map_some e;exact⟨H0,A0,A,E,ρ,x,st,ex,λv H1 x1 Y=>⟨A,x,v,n,_,rfl,Y,B _ _,q _ H1 x1 (.bl _)⟩⟩
def mD:List Key->Option (List Int)
 | []=>some []
 | .inl i::ks=>(mD ks).map (i::·)
 | _=>none
theorem oE:∀ {k:List Key} {ns:List Int},mD k=some ns->k=ns.map T9
 | [],ns,h=>by cases h;rfl
 | .inl i::ks,ns,h=>by obtain⟨ms,h1,rfl⟩:=map_some h;rw[oE h1];rfl
theorem jM:∀ns:List Int,mD (ns.map T9)=some ns
 | []=>rfl
 | n::ns=>by rw[T1,mD,jM ns];rfl
def intKeys{α:Type}:List (List Key×α)->Option (List (List Int×α))
 | []=>some []
 | p::l=>(mD p.1).bind λns=>(intKeys l).map λr=>(ns,p.2)::r
def IK{α:Type}(p:List Int×α):List Key×α:=(p.1.map T9,p.2)
theorem kP{q:Type}:∀ {l:List (List Key×q)} {m:List (List Int×q)},intKeys l=some m->l=m.map IK
 | [],m,h=>by cases h;rfl
 | p::l,m,h=>by
  obtain⟨ns,h1,h⟩:=bind_some h;obtain⟨r,h2,rfl⟩:=map_some h;rw[T1,kP h2];congr 1;show p=(ns.map T9,p.2);rw[<- oE h1]
theorem jK{q:Type}:∀m:List (List Int×q),intKeys (m.map IK)=some m
 | []=>rfl
 | p::m=>by rw[T1,intKeys,show(IK p).1=p.1.map T9 from rfl,jM,jK m];rfl
theorem uF{xs:List (List Key×V)}{m:List (List Int×D)}(e:xs.map (·.1)=(m.map IK).map (·.1)):∃ps:List (List Int×V),xs=ps.map My.kI/\ps.map (·.1)=m.map (·.1):=by
 induction m generalizing xs with
 | nil=>cases xs with
  | nil=>exact⟨[],rfl,rfl⟩
  | cons _ _=>cases e
 | cons p m ih=>cases xs with
  | nil=>cases e
  | cons x xs=>
   rw[T1,T1,T1]at e;injection e with e1 e2
   obtain⟨ps,h1,h2⟩:=ih e2;refine⟨(p.1,x.2)::ps,?_,by rw[T1,T1,h2]⟩;rw[T1,<- h1];congr 1;show x=(p.1.map T9,x.2);rw[<- show x.1=p.1.map T9 from e1]
def ins{α:Type}(p:List Int×α):List (List Int×α)->List (List Int×α)
 | []=>[p]
 | q::r=>if HT.lexLt p.1 q.1=true then p::q::r else q::ins p r
def bJ{α:Type}:List (List Int×α)->List (List Int×α)
 | []=>[]
 | p::r=>ins p (bJ r)
theorem ins_map{B F:Type}(f:B->F)(p:List Int×B):∀l:List (List Int×B),(ins p l).map (λx=>(x.1,f x.2))=ins (p.1,f p.2) (l.map λx=>(x.1,f x.2))
 | []=>rfl
 | q::r=>by
  rw[ins,T1,ins];by_cases h:HT.lexLt p.1 q.1=true
  ·rw[if_pos h,if_pos h];rfl
  ·rw[if_neg h,if_neg h,T1,ins_map f p r]
theorem fF{q B:Type}(f:q->B):∀l:List (List Int×q),(bJ l).map (λx=>(x.1,f x.2))=bJ (l.map λx=>(x.1,f x.2))
 | []=>rfl
 | p::r=>by rw[bJ,ins_map,fF f r,T1,bJ]
theorem lJ{B:Type}(p:List Int×B):∀l:List (List Int×B),(ins p l).Perm (p::l)
 | []=>.refl _
 | q::r=>by
  rw[ins];by_cases h:HT.lexLt p.1 q.1=true
  ·rw[if_pos h]
  ·rw[if_neg h];exact((lJ p r).cons q).trans (.swap ..)
theorem cV{q:Type}:∀l:List (List Int×q),(bJ l).Perm l
 | []=>.refl _
 | p::r=>(lJ p (bJ r)).trans ((cV r).cons p)
def fH{q:Type}(l:List (List Int×q)):Prop:=l.Pairwise λa b=>HT.lexLt a.1 b.1=true
theorem lH{G:Type}(p:List Int×G):∀l:List (List Int×G),(∀q∈l,q.1≠p.1)->fH l->fH (ins p l)
 | [],_,_=>by rw[ins];exact List.pairwise_singleton _ _
 | q::r,hn,h=>by
  rw[ins];have F:=List.pairwise_cons.mp h;by_cases c:HT.lexLt p.1 q.1=true
  ·rw[if_pos c]
   refine List.pairwise_cons.mpr ⟨λx B=>?_,h⟩;rcases List.mem_cons.mp B with e|e
   ·rw[e];exact c
   ·exact My.qN _ _ _ c (F.1 x e)
  ·rw[if_neg c]
   refine List.pairwise_cons.mpr ⟨λx B=>?_,lH p r (λy J=>hn y (UN _ J)) F.2⟩;rcases List.mem_cons.mp ((lJ p r).subset B)with e|e
   ·rw[e]
    rcases My.fL p.1 q.1 (λz=>hn q (UW ..) z.symm)with z|z
    ·exact absurd z c
    ·exact z
   ·exact F.1 x e
theorem iD{B:Type}:∀l:List (List Int×B),(l.map (·.1)).Nodup->fH (bJ l)
 | [],_=>YE
 | p::r,h=>by
  rw[T1,List.nodup_cons]at h;refine lH p _ (λq F z=>h.1 ?_) (iD r h.2);exact List.mem_map.mpr ⟨q,(cV r).subset F,z⟩
theorem m5{q:Type}{l m:List (List Int×q)}(h1:fH l)(h2:fH m)(B:l.Perm m):l=m:=by
 refine List.Perm.eq_of_pairwise (le:=λ(a b:List Int×q)=>HT.lexLt a.1 b.1=true) (λa b _ _ x y=>?_) h1 h2 B;have:=My.qN _ _ _ x y;rw[My.pX]at this;cases this
theorem rK{m:List (List Int×D)}{ps B:List (List Int×V)}(F:(ps.map (·.1)).Nodup)(h:PP A H (m.map IK) (ps.map My.kI))(hs:My.qJ B)(W:B.Perm ps):U2 (λ(p:List Int×D) (q:List Int×V)=>p.1=q.1/\Rep A H p.2 q.2) (bJ m) B:=by
 -- both by one list of triples
 have M:∀ {m:List (List Int×D)} {ps:List (List Int×V)},PP A H (m.map IK) (ps.map My.kI)->∃ts:List (List Int×(D×V)),m=ts.map (λt=>(t.1,t.2.1))/\ps=ts.map (λt=>(t.1,t.2.2))/\∀t∈ts,Rep A H t.2.1 t.2.2:=by
  intro m;induction m with
  | nil=>intro ps h;cases ps with
   | nil=>exact⟨[],rfl,rfl,λ_ h=>nomatch h⟩
   | cons _ _=>cases h
  | cons p m ih=>intro ps h;cases ps with
   | nil=>cases h
   | cons q ps=>
    cases h with
    | cons h t=>
     obtain⟨ts,N,U,J⟩:=ih t;have ek:p.1=q.1:=My.iN.mp h.1;refine⟨(p.1,(p.2,q.2))::ts,by rw[T1,<- N],by rw[T1,<- U];congr 1;rw[ek],λt G=>?_⟩;rcases List.mem_cons.mp G with e|e
     ·rw[e];exact h.2
     ·exact J t e
 obtain⟨ts,N,U,J⟩:=M h;have Y:bJ m=(bJ ts).map λt=>(t.1,t.2.1):=by rw[N,fF]
 have d2:B=(bJ ts).map λt=>(t.1,t.2.2):=by
  have s1:fH (bJ ps):=iD ps F;have:=m5 (l:=B) (m:=bJ ps) hs s1 (W.trans (cV ps).symm);rw[this,U,fF]
 rw[Y,d2];refine My.dU _ λt G=>⟨rfl,J t ((cV ts).subset G)⟩
theorem sY:∀ns:List Int,RepL A H (ns.map .int) (ns.map V.int)
 | []=>.nil
 | n::ns=>.cons (.int n) (sY ns)
theorem JU{o:Expr}{name:Str}{id:String}{r:V->List V->Hp->VK->Prop}{to:TE}{apos cpos:Pos}(F:Slot "dict" name id)(J:typeOf (.builtin id)=pure (.type "method_descriptor"))(W:MtR X id r)(U:PE X o to)
  (B:XG o name X.env (eval o X.env)=eval o X.env:=by rfl) (q:(apos.endLine == cpos.line)=true:=by rfl):PE X (.Call (.Attribute o name apos) [] [] cpos) (λσ H Q=>to σ H λx H1=>∃a,x=.ref a/\M6 H1 a/\r x [] H1 Q):=by
 intro pins s σ H Q I h;refine wpAny_Call_method0_late B q (bE (U pins s σ H _ I h) λv N ⟨x,H1,M,Y,a,ex,G,q1⟩=>?_);subst ex;cases Y;obtain⟨h1,h2,_⟩:=vP M G;exact⟨"dict",id,zaw,F,J,h1,h2,Y9 rfl (PySem.evalArgs_none (W pins N σ H1 (.ref a) [] (.ref a) [] Q M rfl .nil q1))⟩
def oX(g:D->Option D)(f:Ev):Ev:=λρ=>(f ρ).bind g
def lP:D->Option D
 | .dT l=>(intKeys l).bind λm=>if m.length<64 then some (.lst ((bJ m).map λp=>.tup [.tup (p.1.map .int),p.2]))else none
 | _=>none
theorem uU(hc:X.calm=true)(hu:X.A.units+64<cLine)(hg:Gl X "sorted")(hm:X.mg "sorted" = none)(ho:PB X O o f)
  (hp:∀ {to:TE},PE X o to->PE X (.Call (.Attribute o "items" apos) [] [] cpos) (λσ H Q=>to σ H λx H1=>∃a,x=.ref a/\M6 H1 a/\My.CC x [] H1 Q))
  (he:TL [.Call (.Attribute o "items" apos) [] [] cpos] X.env=(false,eval (.Call (.Attribute o "items" apos) [] [] cpos) X.env)::TL [] X.env:=by rfl) (Y:(UD pos (TL [] X.env)).any (·.1)=false:=by rfl) :
  PF X O (.Call (.Name "sorted" p) [.Call (.Attribute o "items" apos) [] [] cpos] [] pos) (oX lP f):=by
 have J:CallR X (.builtin "sorted") (λxs H Q=>∃A r a ys m,xs=[.ref r]/\Live A H/\H r=some (.ext λh=>h.IsItemsView r a)/\Rd H a (.dT ys)/\ys.map (·.1)=(m.map IK).map (·.1)/\RepL A H ((m.map IK).map (·.2)) (ys.map (·.2))/\m.length<64/\∀a H',Ext A H H'->H a=none->¬ A a->Own (λb=>A b\/b=a) H' (.lst ((bJ m).map λp=>.tup [.tup (p.1.map .int),p.2])) a->Q (.ref a) H'):=by
  intro pins s σ H xs B Q I r h;obtain⟨A,r',a,ys,m,rfl,lv,F,h2,M,r3,G,q⟩:=h;obtain⟨ps,rfl,e4⟩:=uF M;obtain⟨_,_,U,_⟩:=My.DC I h2;have ah:ps.length=m.length:=by have:=congrArg V0 e4;simpa using this
  refine My.pO hc hu pins s σ H _ B Q I r ⟨r',a,ps,rfl,F,h2,by lia,λla B N H2 sm n0 h3 pr pm so=>?_⟩;have sb:=rK (A:=A) (H:=H) U (mK M r3) so pm;have up:∀ {d:D} {v:V},Rep A H d v->Rep (λb=>A b\/b=la) H2 d v:=λr=>by
   have r1:Rep (λb=>A b\/b=la) H _ _:=r.av λb hb=>hb.imp id λz=>by rw[z];exact n0
   exact r1.ext (Ext.same sm)
  have W:∀ {ts:List (List Int×D)} {N:List (List Int×V)} {B:List V},U2 (λ(p:List Int×D) (q:List Int×V)=>p.1=q.1/\Rep A H p.2 q.2) ts N->U2 (My.R0 H2) B N->RepL (λb=>A b\/b=la) H2 (ts.map λp=>.tup [.tup (p.1.map .int),p.2]) B:=by
   intro ts N B h;induction h generalizing B with
   | nil=>intro h;cases h;exact .nil
   | cons h t ih=>
    intro h';cases h' with
    | cons h' t'=>
     obtain⟨a,b,rfl,ha,hb⟩:=h';exact .cons (.tup ha (.cons (.tup hb (by rw[h.1];exact sY _)) (.cons (up h.2) .nil))) (ih t')
  exact q la H2 (Ext.same sm) n0 (λz=>lv la z n0) (.lst h3 (W sb pr))
 refine PE.mono (lW J hg hm My.boot_sorted (dE (hp ho) jD he) (by decide) (by decide) he Y) λσ H Q ⟨H0,A0,A,E,ρ,d,st,e,q⟩=>?_
 obtain⟨x,ex,e⟩:=bind_some e;cases x with
 | dT l=>
  obtain⟨m,e1,e⟩:=bind_some e;split at e
  case isFalse=>cases e
  rename_i G;cases e;have el:=kP e1;subst el;refine⟨H0,A0,A,E,ρ,_,st,ex,λv H1 x1 r1=>?_⟩;obtain⟨a,ys,rfl,h2,M,r3⟩:=r1.dT_inv;refine⟨a,rfl,.inr ⟨ys,h2⟩,a,ys,rfl,rfl,h2,λr F=>⟨A,r,a,ys,m,rfl,Live.ext (st.mono x1).live (Ext.new F),aJ,eZ (λz=>?_) h2,M,r3.ext (Ext.new F),G,λa' H' x' n na o=>?_⟩⟩
  ·subst z;rcases h2 with h2|⟨_,h2⟩ <;> (rw[F]at h2;cases h2)
  ·have x2:=(x1.trans (Ext.new F)).trans x'
   exact q a' H' x2 ((x1.trans (Ext.new F)).free n) na o
 | _=>cases e
end
def gR:D->Option Int->Option Int->Option D
 | .tup l,lo,hi=>some (.tup (cutD l lo hi))
 | .lst l,lo,hi=>some (.lst (cutD l lo hi))
 | _,_,_=>none
theorem RO:SlR X (rS gR):=SlR.mono (SlR.or QO (SlR.mono RK λx lo hi H Q (h:rS OS x lo hi H Q)=>by
  obtain⟨A,dx,d,B,F,e,q⟩:=h;exact⟨A,dx,d,B,F,e,λa H' x n J o=>q _ H' x ((o.av (A':=A) λb G=>.inl (.inl G)).rep J)⟩)) λx lo hi H Q ⟨A,dx,d,B,F,e,q⟩=>by
 cases dx with
 | tup l=>exact .inl ⟨A,_,d,B,F,e,q⟩
 | lst l=>exact .inr ⟨A,_,d,B,F,e,q⟩
 | _=>cases e
section
variable {ρ:bK}{f g:Ev}{d x y:D}{i j:Int}{k:Nat}
@[simp] theorem q_seq{f g:Sv}:bT f g ρ=(f ρ).bind λo=>match o with | .nx ρ'=>g ρ'|o=>some o:=rfl
@[simp] theorem q_set:eD k f ρ=(f ρ).map λd=>.nx (ρ.set k (some d)):=rfl
@[simp] theorem q_if{c:Bv}{f g:Sv}:tW c f g ρ=(c ρ).bind λb=>if b=true then f ρ else g ρ:=rfl
@[simp] theorem q_rt:MZ f ρ=(f ρ).map .rt:=rfl
@[simp] theorem q_nx:HQ ρ=some (.nx ρ):=rfl
@[simp] theorem q_bad:HK ρ=none:=rfl
@[simp] theorem q_asg{g:Gv}:HD f g ρ=(f ρ).bind λd=>(g d ρ).map .nx:=rfl
@[simp] theorem q_for{f:Lv}{g:Gv}{b:Sv}:nB f g b ρ=(f ρ).bind λitems=>c4 g b items ρ:=rfl
@[simp] theorem q_drop:DN f ρ=(f ρ).map λ_=>.nx ρ:=rfl
@[simp] theorem q_app:DS k f ρ=(aL k ρ).bind λx=>match x with
 | .lst l=>(f ρ).bind λd=>if aV l.length then some (.nx (ρ.set k (some (.lst (l++[d])))))else none
 | _=>none:=rfl
@[simp] theorem q_put:MQ k f g ρ=(g ρ).bind λe=>(aL k ρ).bind λx=>(f ρ).bind λq=>(AA x q e).map λd=>.nx (ρ.set k (some d)):=rfl
@[simp] theorem q_var:aL k ρ=(ρ[k]?).join:=rfl
@[simp] theorem q_c:eC d ρ=some d:=rfl
@[simp] theorem q_op:bU o f g ρ=(f ρ).bind λx=>(g ρ).bind λy=>o x y:=rfl
@[simp] theorem q_call:aW F l ρ=(l ρ).bind F:=rfl
@[simp] theorem q_lnil:bO ρ=some []:=rfl
@[simp] theorem q_lcons:aK f l ρ=(f ρ).bind λx=>(l ρ).bind λxs=>some (x::xs):=rfl
@[simp] theorem q_tup:gT l ρ=(l ρ).map .tup:=rfl
@[simp] theorem q_lst:zY l ρ=(l ρ).map .lst:=rfl
@[simp] theorem q_bind:oX o f ρ=(f ρ).bind o:=rfl
@[simp] theorem q_bof:mS f ρ=(f ρ).bind tX:=rfl
@[simp] theorem q_asB:tX (.bl b)=some b:=rfl
@[simp] theorem q_asI:MY (.int i)=some i:=rfl
@[simp] theorem q_bnot:DW c ρ=(c ρ).map (!·):=rfl
@[simp] theorem q_band:G7 a b ρ=(a ρ).bind λx=>if x=true then b ρ else some false:=rfl
@[simp] theorem q_bor:PX a b ρ=(a ρ).bind λx=>if x=true then some true else b ρ:=rfl
@[simp] theorem q_and:PL f g ρ=(f ρ).bind λx=>(tX x).bind λb=>if b=true then g ρ else some (.bl false):=rfl
@[simp] theorem q_not:OX f ρ=(f ρ).bind λx=>(tX x).map λb=>.bl (!b):=rfl
@[simp] theorem q_neg:G8 f ρ=(f ρ).bind λd=>(MY d).map λi=>.int (-i):=rfl
@[simp] theorem q_isi:D4 n f ρ=(f ρ).map λd=>.bl (mQ n d):=rfl
@[simp] theorem q_get2:IJ a b c ρ=(a ρ).bind λd=>(b ρ).bind λk=>(c ρ).bind λe=>(dG d k).map λo=>o.getD e:=rfl
@[simp] theorem q_sl:IL o f a b ρ=(f ρ).bind λx=>(a ρ).bind λlo=>(b ρ).bind λhi=>o x lo hi:=rfl
@[simp] theorem q_oN:tP ρ=some none:=rfl
@[simp] theorem q_oS:mO f ρ=(f ρ).bind λd=>(MY d).map some:=rfl
@[simp] theorem q_lR:lR o l ρ=(l ρ).bind o:=rfl
@[simp] theorem q_lSeq:DV f ρ=(f ρ).bind λd=>match d with
 | .lst l=>some l
 | .tup l=>some l
 | .dT l=>some (l.map λp=>.tup (p.1.map z9))
 | _=>none:=rfl
@[simp] theorem q_comp{ms:List (Option Nat)}{it:Lv}{g:Gv}{c:Bv}:kA ms it g c f ρ=(it ρ).bind λitems=>if aV items.length then(bR g c f items (tZ ms ρ)).map .lst else none:=rfl
@[simp] theorem q_yes:D3 ρ=some true:=rfl
@[simp] theorem q_name:bX k d ρ=some (ρ.set k (some d)):=rfl
@[simp] theorem q_gnil:tO [] ρ=some ρ:=rfl
@[simp] theorem q_gcons{g:Gv}{h:xY}{ds:List D}:dZ g h (d::ds) ρ=(g d ρ).bind λρ'=>h ds ρ':=rfl
@[simp] theorem q_gtup:mN n h (.tup l) ρ=if l.length=n then h l ρ else none:=rfl
@[simp] theorem q_sub:HE (.int i) (.int j)=some (.int (i-j)):=rfl
@[simp] theorem q_addI:oS (.int i) (.int j)=some (.int (i+j)):=rfl
@[simp] theorem q_ltI:M9 (.int i) (.int j)=some (.bl (decide (i<j))):=rfl
@[simp] theorem q_gtI:MW (.int i) (.int j)=some (.bl (decide (j<i))):=rfl
@[simp] theorem q_geI:MN (.int i) (.int j)=some (.bl (decide (j<=i))):=rfl
@[simp] theorem q_eqI:vV (.int i) (.int j)=some (.bl (decide (i=j))):=by
 unfold vV AD;rw[if_pos (.inl rfl)];simp
@[simp] theorem q_neI:xW (.int i) (.int j)=some (.bl (!decide (i=j))):=by
 unfold xW AD;rw[if_pos (.inl rfl)];simp
@[simp] theorem q_eqB:vV (.bl a) (.bl b)=some (.bl (decide (a=b))):=by
 unfold vV AD;rw[if_pos (.inl rfl)];simp
@[simp] theorem q_neB:xW (.bl a) (.bl b)=some (.bl (!decide (a=b))):=by
 unfold xW AD;rw[if_pos (.inl rfl)];simp
theorem bH(h:0<j):eB (.int i) (.int j)=some (.int (i%j)):=if_pos h
theorem gD(h:0<j)(h2:j<1073741824):qQ (.int i) (.int j)=some (.int (i/j)):=if_pos ⟨h,h2⟩
theorem tL(h:0<=j)(h2:j<=1000000)(q:i.natAbs<2^64):vS (.int i) (.int j)=some (.int (i^j.toNat)):=if_pos ⟨h,h2,q⟩
@[simp] theorem q_isN:HJ d .non=some (.bl (iT d)):=rfl
@[simp] theorem q_notN:xS d .non=some (.bl (!iT d)):=rfl
@[simp] theorem q_lenL:gW [.lst l]=some (.int l.length):=rfl
@[simp] theorem q_lenT:gW [.tup l]=some (.int l.length):=rfl
@[simp] theorem q_min:xI [.int i,.int j]=some (.int (if j<i then j else i)):=rfl
@[simp] theorem q_max:xM [.int i,.int j]=some (.int (if j>i then j else i)):=rfl
@[simp] theorem q_tuL:gN [.lst l]=some (.tup l):=rfl
@[simp] theorem q_tuT:gN [.tup l]=some (.tup l):=rfl
@[simp] theorem q_liL:cA [.lst l]=some (.lst l):=rfl
@[simp] theorem q_liT:cA [.tup l]=some (.lst l):=rfl
@[simp] theorem q_slT{l:List D}{lo hi:Option Int}:gR (.tup l) lo hi=some (.tup (cutD l lo hi)):=rfl
@[simp] theorem q_slL{l:List D}{lo hi:Option Int}:gR (.lst l) lo hi=some (.lst (cutD l lo hi)):=rfl
@[simp] theorem q_itL:aO (.lst l) (.int i)=c7 l i:=rfl
@[simp] theorem q_itT:aO (.tup l) (.int i)=c7 l i:=rfl
@[simp] theorem q_itD:aO (.dT l) d=(dG (.dT l) d).join:=rfl
@[simp] theorem isi_int_int:mQ "int" (.int i)=true:=rfl
@[simp] theorem isi_bool_int:mQ "bool" (.int i)=false:=rfl
@[simp] theorem isi_tuple_tup:mQ "tuple" (.tup l)=true:=rfl
@[simp] theorem isi_list_lst:mQ "list" (.lst l)=true:=rfl
end
def turn(g:Gv)(b:Sv)(x:D):Sv:=λρ=>(g x ρ).bind b
theorem qM(I:Nat->bK->Prop)(h0:I 0 ρ)(hs:∀i x ρ,items[i]?=some x->I i ρ->∃ρ',turn g b x ρ=some (.nx ρ')/\I (i+1) ρ'):∃ρ',c4 g b items ρ=some (.nx ρ')/\I items.length ρ':=by
 have B:∀(m:List D) (k:Nat) (ρ:bK),items.drop k=m->k<=items.length->I k ρ->∃ρ',c4 g b m ρ=some (.nx ρ')/\I items.length ρ':=by
  intro m;induction m with
  | nil=>
   intro k ρ e M h;have:items.length<=k:=by rw[List.drop_eq_nil_iff]at e;exact e
   have:k=items.length:=by lia
   subst this;exact⟨ρ,rfl,h⟩
  | cons x m ih=>
   intro k ρ e M h;have q:k<items.length:=by
    rcases Nat.lt_or_ge k items.length with z|z
    ·exact z
    ·rw[List.drop_eq_nil_iff.mpr z]at e;cases e
   rw[XY q]at e;injection e with e1 e2
   obtain⟨ρ',h1,h2⟩:=hs k x ρ (by rw[<- e1];simp[q]) h;obtain⟨ρ2,F,G⟩:=ih (k+1) ρ' e2 q h2;refine⟨ρ2,?_,G⟩;unfold turn at h1;obtain⟨ρ1,N,J⟩:=bind_some h1;unfold c4;rw[N];show(b ρ1).bind _=_;rw[J];exact F
 exact B items 0 ρ rfl (UZ _) h0
theorem aP(h:f (aE n ds)=some (.rt d)):bA n f ds=some d:=by
 unfold bA;rw[h];rfl
theorem JQ(h:f (aE n ds)=some (.nx ρ)):bA n f ds=some .non:=by
 unfold bA;rw[h];rfl
theorem aD(h:f ρ=some (.nx ρ')):bT f g ρ=g ρ':=by
 unfold bT;rw[h];rfl
theorem KZ(h:f ρ=some (.rt d)):bT f g ρ=some (.rt d):=by
 unfold bT;rw[h];rfl
theorem QK(h:c ρ=some true):tW c f g ρ=f ρ:=by
 unfold tW;rw[h];rfl
theorem QG(h:c ρ=some false):tW c f g ρ=g ρ:=by
 unfold tW;rw[h];rfl
theorem aY(h:f ρ=some d):eD k f ρ=some (.nx (ρ.set k (some d))):=by
 unfold eD;rw[h];rfl
theorem D2(h:f ρ=some d):MZ f ρ=some (.rt d):=by
 unfold MZ;rw[h];rfl
theorem cG{f:Lv}{g:Gv}{b rest:Sv}{ρ:bK}{items:List D}{q:Option Out}(B:f ρ=some items)(I:Nat->bK->Prop)(h0:I 0 ρ)(hs:∀i x ρ,items[i]?=some x->I i ρ->∃ρ',turn g b x ρ=some (.nx ρ')/\I (i+1) ρ')(k:∀ρ',I items.length ρ'->rest ρ'=q):bT (nB f g b) rest ρ=q:=by
 obtain⟨ρ',e,h⟩:=qM (g:=g) (b:=b) I h0 hs;rw[aD (by rw[q_for,B];exact e)];exact k ρ' h
open My (look put bI mP j8)
def kD(t:My.Tm):List Key×D:=(t.1.map T9,.int t.2)
noncomputable def tupI(k:List Int):D:=.tup (k.map .int)
def gE(t:My.Tm):D:=.tup [tupI t.1,.int t.2]
theorem nM:∀k:List Int,D0 (k.map .int)=some (k.map T9)
 | []=>rfl
 | i::k=>by rw[T1,D0,nM k];rfl
@[simp] theorem asT_tupI(k:List Int):EC (tupI k)=some (k.map T9):=nM k
theorem K7(cs:List My.Tm)(k:List Int):cN (cs.map kD) (k.map T9:List Key)=(look cs k).map D.int:=by
 induction cs with
 | nil=>rfl
 | cons t cs ih=>
  rw[T1];by_cases e:t.1=k
  ·have:(kD t).1=k.map T9:=by show t.1.map T9=_;rw[e]
   simp[cN,look,V2,this,e,kD]
  ·have:¬ (kD t).1=k.map T9:=by show ¬ t.1.map T9=_;rw[My.iN];exact e
   have a:cN (kD t::cs.map kD) (k.map T9)=cN (cs.map kD) (k.map T9):=by simp[cN,V2,this]
   rw[a,ih];simp[look,V2,e]
theorem LR(cs:List My.Tm)(k:List Int)(c:Int):putD (cs.map kD) (k.map T9:List Key) (.int c)=(put cs k c).map kD:=by
 unfold putD put;have e:((cs.map kD).any λB=>decide (B.1=(k.map T9:List Key)))=cs.any λt=>decide (t.1=k):=by
  rw[List.any_map];congr 1;funext t;exact decide_eq_decide.mpr (My.iN (a:=t.1) (b:=k))
 rw[e];by_cases h:(cs.any λt=>decide (t.1=k))=true
 ·rw[if_pos h,if_pos h,VM,VM]
  congr 1;funext t;show(if t.1.map T9=(k.map T9:List Key)then((t.1.map T9:List Key),D.int c)else kD t)=kD (if t.1=k then(t.1,c)else t);by_cases z:t.1=k
  ·rw[if_pos z,if_pos (My.iN.mpr z)];rfl
  ·rw[if_neg z,if_neg (λq=>z (My.iN.mp q))]
 ·rw[if_neg h,if_neg h,VX]
  rfl
@[simp] theorem look_kD(cs:List My.Tm)(k:List Int):dG (.dT (cs.map kD)) (tupI k)=some ((look cs k).map D.int):=by
 show(EC (tupI k)).map _=_;rw[asT_tupI,TU,K7]
theorem GV(k:List Int)(c:Int)(h:cs.length<=1000000):AA (.dT (cs.map kD)) (tupI k) (.int c)=some (.dT ((put cs k c).map kD)):=by
 show(EC (tupI k)).bind _=_;rw[asT_tupI,TR,if_pos (by rw[aV,T2];exact decide_eq_true h),LR]
theorem uZ(cs:List My.Tm):intKeys (cs.map kD)=some (cs.map λt=>(t.1,D.int t.2)):=by
 have:=jK (cs.map λt=>(t.1,D.int t.2));rw[VM]at this;exact this
theorem xG(a b:List Int):M9 (tupI a) (tupI b)=some (.bl (HT.lexLt a b)):=by
 have h:∀k:List Int,bS (k.map .int)=some k:=λk=>by
  induction k with
  | nil=>rfl
  | cons i k ih=>rw[T1,bS,ih];rfl
 show(bS (a.map .int)).bind _=_;rw[h a,TR,h b];rfl
theorem uE(h:cs.length<64):lP (.dT (cs.map kD))=some (.lst ((bJ cs).map gE)):=by
 show(intKeys (cs.map kD)).bind _=_;rw[uZ,TR,if_pos (by rw[T2];exact h)];have:(bJ (cs.map λt=>(t.1,D.int t.2)))=(bJ cs).map λt=>(t.1,D.int t.2):=(fF D.int cs).symm
 rw[this,VM];rfl
theorem sG{ns:List Int}{k:Int}(h0:0<=k)(h:k<(ns.length:Int)):∃c,c7 (ns.map D.int) k=some (.int c)/\ns[k.toNat]?=some c:=by
 obtain⟨j,rfl⟩:∃j:Nat,k=(j:Int):=⟨k.toNat,by lia⟩;have q:j<ns.length:=by lia
 exact⟨ns[j],b7 (by simp[q]),by simp[q]⟩
noncomputable def oU:D->Option (List D)
 | .lst l=>some l
 | .tup l=>some l
 | _=>none
theorem F4{A:Av}{H:Hp}{K:TK}{d:D}{l:List D}{v:V}(h:oU d=some l)(r:Rep A H d v):∃t a xs,v=.ref a/\My.HP K t H a xs/\RepL A H l xs/\∀A' H',Rep A' H' d v->∃ys,My.HP K t H' a ys/\RepL A' H' l ys:=by
 cases d with
 | lst m=>
  cases h;obtain⟨a,xs,rfl,h1,B⟩:=RepB.lst_inv (.of r);refine⟨false,a,xs,rfl,.inl h1,B,λA' H' q=>?_⟩;obtain⟨G,ys,e,h2,F⟩:=RepB.lst_inv (.of q);cases e;exact⟨ys,.inl h2,F⟩
 | tup m=>
  cases h;obtain⟨a,xs,rfl,h1,B⟩:=RepB.tup_inv (.of r);refine⟨true,a,xs,rfl,.inl (.inl h1),B,λA' H' q=>?_⟩;obtain⟨G,ys,e,h2,F⟩:=RepB.tup_inv (.of q);cases e;exact⟨ys,.inl (.inl h2),F⟩
 | _=>cases h
@[simp] theorem q_seqL:oU (.lst l)=some l:=rfl
@[simp] theorem q_seqT:oU (.tup l)=some l:=rfl
theorem L3(h1:-A<a)(h2:a<A)(q:-B<b)(F:b<B):-(A*B)<a*b/\a*b<A*B:=by
 have e:(a*b).natAbs<(A*B).natAbs:=by
  rw[Int.natAbs_mul,Int.natAbs_mul];exact Nat.mul_lt_mul_of_lt_of_le (by lia) (by lia) (by lia)
 have G:0<=A*B:=Int.mul_nonneg (by lia) (by lia)
 lia
end P
namespace P
end P
namespace P
open PySem PySem.Spec PyProof.Rows L2
@[simp] theorem q_chain:d6 g g' fa fb fc ρ=(fa ρ).bind λx=>(fb ρ).bind λy=>(g x y).bind λz=>(tX z).bind λb=>if b=true then(fc ρ).bind λw=>g' y w else some (.bl false):=rfl
noncomputable def pick{α:Type}(l:List α)(lo hi st:Option Int):List α:=(sliceRange (WF lo hi st l.length).1 (WF lo hi st l.length).2.1 (WF lo hi st l.length).2.2).filterMap (l[·]?)
section
variable {X:Cx}{O:List Nat}
end
end P
namespace My
open PySem PySem.Spec PyProof.Rows L2 PySem.SeqAt
section
variable {X:Cx}
theorem Inv.gone(I:Inv X pins σ H s)(f:fM X pins H C)(hs:UI C s.heap h'):Inv X pins σ H {s with heap:=h'}:=by
 obtain⟨f0,W,Y,G,J,U⟩:=f;refine I.call' (s':={s with heap:=h'}) (ch:=[C]) rfl ⟨λb o e n F B=>?_,λb o e n F B=>?_,λ_ _ _ n _=>n,λb o e B=>?_,λ_ _ q=>q,λ_ _ _ q=>q,λ_ ps q=>⟨#[],by simpa using q⟩⟩ ?_ I.bare λb F=>?_
 ·exact(hs.2 b (λz=>B (z ▸ List.mem_singleton.mpr rfl))).trans e
 ·exact⟨o.slots,(hs.2 b (λz=>B (z ▸ List.mem_singleton.mpr rfl))).trans e⟩
 ·exact⟨o,(hs.2 b (λz=>B (z ▸ List.mem_singleton.mpr rfl))).trans e⟩
 ·intro b N e
  refine(I.hok b N e).stay (λc w' M q=>(hs.2 c ?_).trans q) (λ_ q=>q) λ_ _ q=>q
  rintro rfl;rcases M with z|z
  ·subst z;rw[f0]at e;cases e
  ·rw[f0]at z;cases z
 ·rw[List.mem_singleton.mp F]
  exact⟨G,W,J,U⟩
theorem FT(hN:X.N.Nodup)(ac:X.N[i]?=some x)(hx:Loc X.env.scope x)
  (hc:X.calm=true) (F:Clo X N scope cl) (hi:PI X tg iter wi) (hg:∀C s H fp,PG (aR X N scope cl C s H fp) tg g) (ht:∀C s H fp,AE (aR X N scope cl C s H fp) ifs tt) (he:∀C s H fp,PE (aR X N scope cl C s H fp) elt te)
  (hs:∀x,WK iter X.env x=pure x:=by intro _;rfl) (U:U5 (.ListComp elt [⟨tg,iter,ifs,0⟩] scope pos) (some (.Name x pos')) spos.line X.env=pure true:=by rfl)
  (hf:X.fn x=true\/X.env.scope.names.lookup x=some .local:=by first|exact .inl rfl|exact .inr rfl) :
  PS X (.Assign [.Name x pos'] (.ListComp elt [⟨tg,iter,ifs,0⟩] scope pos) spos) (DT (DJ wi g tt te (Start X N scope)) (j7 i)):=by
 intro pins s σ H D I h;obtain⟨aw,sS,hw⟩:=h;rw[exec_Assign_Name_used _ _ _ _ U];refine TF (YW (TF ?_));show wpAny _ X.A (do let _ <- comprehension (.ListComp elt [⟨tg,iter,ifs,0⟩] scope pos) scope X.env _ (newList []) false (eval iter X.env) (some (VA (.Name x pos') X.env))) _ _ s;refine TF (U7 (wpAny_comprehension_free (use:=some (VA (.Name x pos') X.env)) (Q:=λ_ s'=>SP X pins D .next s') rfl hs F.clos F.kind F.names
  (bE (hi pins s σ H _ I hw) λv s1 h1=>bE h1 λaz s2 h2=>?_)) (λ_ s' hq=>TJ (TJ hq)) λ_ _ e=>e)
 obtain⟨it,fp,tn,J,H2,e,I2,T,W,f2,q2⟩:=h2;subst e;refine nY (wi:=wi) (Q:=λv H1=>j7 i v σ H1 D.nx) (RR:=λad C=>compPost (model X.prog X.w) X.A X.xe (some (VA (.Name x pos') X.env)) (λ_ s'=>SP X pins D .next s') ad C) hc F hg ht he I2 T W f2 sS q2 ?_
 intro s3 s5 H3 G ap D1 I3 f3 I5 q;obtain⟨m,hn,_⟩:=id I5.loc;have I6:Inv X pins σ G s5:=comp_back I3 f3 I5 (Heap.SameBut.refl _ _);have M:fM X pins G s3.heap.objs.size:=I3.fpOk (T5 _) I5.free;show wpAny _ X.A (VA (.Name x pos') X.env (.ref D1)) _ _ s5;refine wpAny_assign_Name (oD (v:=.ref D1) I6 hN ac hx rfl (λs7 I7 ⟨a,Y,B⟩=>?_) hf);have ne:s3.heap.objs.size≠a:=λz=>by
  rcases B with B|B
  ·exact M.2.1 (z.trans B)
  ·exact M.2.2.2.2.1 x a B z.symm
 exact⟨m,Heap.Ns.sameBut hn Y ne,λh' aa=>⟨_,G,Inv.gone I7 M aa,q⟩⟩
end
end My
namespace P
open PySem PySem.Spec PyProof.Rows L2 PySem.SeqAt
section
variable {X:Cx}{O O':List Nat}{L:Lp}
theorem uM(G:PS X (.Assign [.Name x pos'] e pos) (DT (tD Rep O f) (j7 i)))(h:Sub O' (O.filter (· != i))=true):PSD X L O (.Assign [.Name x pos'] e pos) (eD i f) O':=
 PS.mono G <| by
  rintro T σ H ⟨H0,A0,A,E,ρ,M,st,e,p⟩;obtain⟨d,U,rfl⟩:=map_some e;refine⟨H0,A0,A,E,ρ,d,st,U,λv H' x r=>?_⟩;have F:=(st.mono x).more r;obtain⟨A',B⟩:=F.shut (O':=O') λj J=>(Sub.er h J).1
  exact p A' _ H' ((B.put (B.ext _ (UW ..)) λz=>(Sub.er h z).2 rfl).less λq N=>UN _ N)
theorem NX:tD Rep O f σ H Q->tF O f σ H Q:=λ⟨H0,A0,A,E,ρ,d,st,e,q⟩=>
 ⟨H0,A0,A,E,ρ,d,st,e,λa H' x n F o=>q _ H' x ((o.av (A':=A) λb B=>.inl (.inl B)).rep F)⟩
theorem BS(hN:X.N.Nodup)(B:X.N[i]?=some x)(hx:Loc X.env.scope x)
  (W:X.calm=true) (G:My.Clo X N scope cl) (F:cM X scope N ms) (hn:(ms.all λo=>match o with|some i=>!O.contains i|none=>true)=true) (hi:PDI X O tg iter it) (J:∀C s H fp,vU (My.aR X N scope cl C s H fp) [] tg g)
  (U:∀C s H fp,My.AE (My.aR X N scope cl C s H fp) ifs (tDT [] c)) (M:∀C s H fp,PD (My.aR X N scope cl C s H fp) [] elt f) (h:Sub O' (O.filter (· != i))=true:=by rfl) (hs:∀x,WK iter X.env x=pure x:=by intro _;rfl)
  (q:U5 (.ListComp elt [⟨tg,iter,ifs,0⟩] scope pos) (some (.Name x pos')) spos.line X.env=pure true:=by rfl) (Y:X.fn x=true\/X.env.scope.names.lookup x=some .local:=by first|exact .inl rfl|exact .inr rfl) :
  PSD X L O (.Assign [.Name x pos'] (.ListComp elt [⟨tg,iter,ifs,0⟩] scope pos) spos) (eD i (kA ms it g c f)) O':=
 uM (PS.mono (My.FT hN B hx W G hi J U M hs q Y) λT σ H w=>sV F hn _ _ _ (NX w)) h
end
end P
namespace My
open PySem PySem.Spec PyProof.Rows L2 PySem.SeqAt
def MO(K:TK)(n:Nat)(t:HN):TG:=λv σ H Q=>∃a xs,v=.ref a/\(SqT K H a xs\/SqL K H a xs)/\xs.length=n/\t xs σ H Q
theorem gP(J:X.calm=true)(h:PGs X es t)
  (N:(UO es X.env).length=n:=by rfl) (B:(UO es X.env).findIdx? (·.1)=none:=by rfl):PG X (.Tuple es k pos) (MO X.K n t):=by
 intro pins s σ H v u Q I r hw;obtain⟨a,xs,e1,q,G,hw⟩:=hw;subst e1;rcases q with q|q
 ·exact u9 J h N B pins s σ H _ u Q I r ⟨a,xs,rfl,q,G,hw⟩
 ·cases r
  obtain⟨F,M,U,hz⟩:=I.list q;have hsz:(UO es X.env).length=F.toArray.size:=by simp[N,<- G,M.length]
  rw[assign_Tuple];refine TF (YW ?_);unfold unpack;rw[hsz,B];refine TF (VG (PySem.W.kun_itemsOf (I.ok.hd J) (My.PlainL.isList U) λh' Y=>?_));have I1:Inv X pins σ H {s with heap:=h'}:=I.kept (t':=s.toks) λb o e=>Y b o (UE (TX e)) e
  exact h pins _ σ H xs _ Q I1 (by simpa using M) hw
end My
namespace P
open PySem PySem.Spec PyProof.Rows L2 PySem.SeqAt
def dP(n:Nat)(k:xY):Gv:=λd ρ=>match d with
 | .tup l=>if l.length=n then k l ρ else none
 | .lst l=>if l.length=n then k l ρ else none
 | _=>none
theorem fG(G:PG X tg (My.MO X.K n (tDGs O k))):vU X O tg (dP n k):=PG.mono G <| by
 rintro v σ H Q ⟨H0,A0,A,E,ρ,d,ρ',st,r,e,q⟩;cases d with
 | tup l=>
  obtain⟨a,xs,rfl,h,F⟩:=RepB.tup_inv (.of r);by_cases B:l.length=n
  ·simp only[dP,if_pos B]at e
   exact⟨a,xs,rfl,.inl (.inl (.inl h)),by rw[F.length];exact B,H0,A0,A,E,ρ,l,ρ',st,F,e,q⟩
  ·simp only[dP,if_neg B]at e;cases e
 | lst l=>
  obtain⟨a,xs,rfl,h,F⟩:=RepB.lst_inv (.of r);by_cases B:l.length=n
  ·simp only[dP,if_pos B]at e
   exact⟨a,xs,rfl,.inr (.inl h),by rw[F.length];exact B,H0,A0,A,E,ρ,l,ρ',st,F,e,q⟩
  ·simp only[dP,if_neg B]at e;cases e
 | _=>cases e
@[simp] theorem q_gseqT:dP n h (.tup l) ρ=if l.length=n then h l ρ else none:=rfl
@[simp] theorem q_gseqL:dP n h (.lst l) ρ=if l.length=n then h l ρ else none:=rfl
end P
namespace P
open PySem PySem.Spec PyProof.Rows L2
theorem i9{f:Lv}{g:Gv}{b rest:Sv}{ρ:bK}{items:List D}{R:D->Prop}(q:f ρ=some items)(I:Nat->bK->Prop)(h0:I 0 ρ)(hs:∀i x ρ,items[i]?=some x->I i ρ->∃ρ',turn g b x ρ=some (.nx ρ')/\I (i+1) ρ')(k:∀ρ',I items.length ρ'->∃d,rest ρ'=some (.rt d)/\R d):∃d,bT (nB f g b) rest ρ=some (.rt d)/\R d:=by
 obtain⟨ρ',e,h⟩:=qM (g:=g) (b:=b) I h0 hs;rw[aD (by rw[q_for,q];exact e)];exact k ρ' h
theorem d7{n:Nat}{ds:List D}{R:D->Prop}(h:∃d,f (aE n ds)=some (.rt d)/\R d):∃d,bA n f ds=some d/\R d:=by
 obtain⟨d,e,r⟩:=h;exact⟨d,aP e,r⟩
end P
namespace My
open PySem PySem.Spec PyProof.Rows L2 PySem.SeqAt
end My
namespace P
open PySem PySem.Spec PyProof.Rows L2 PySem.SeqAt
section
variable {X:Cx}
end
end P
namespace My
open PySem PySem.Spec PyProof.Rows L2 PySem.SeqAt
end My
namespace P
open PySem PySem.Spec PyProof.Rows L2 PySem.SeqAt
end P
namespace My
open PySem PySem.Spec PyProof.Rows L2
section
variable {X:Cx}
theorem AJ{ns:List Int}{q:List Value}(r:Vals (ns.map V.int) q){i:Nat}(h:q[i]?=some v):∃t,v=.int ((ns[i]?).getD 0) t:=by
 have F:=r.length;rw[T2]at F;have hi:i<ns.length:=by rw[F];exact(List.getElem?_eq_some_iff.mp h).1
 have e:(ns.map V.int)[i]?=some (.int ns[i]):=by simp[hi]
 obtain⟨u,B,G⟩:=r.get e;rw[h]at B;cases B;obtain⟨t,rfl⟩:=G;exact⟨t,by simp[hi]⟩
theorem FN:OpR X (UQ .Add) (λx y H Q=>∃a b ys,x=.ref a/\y=.ref b/\SqT X.K H a []/\SqT X.K H b ys/\Q (.ref b) H):=by
 intro pins s σ H x y v u Q I rx ry h;obtain⟨a,b,ys,rfl,rfl,ha,hb,q⟩:=h;cases rx;cases ry;obtain⟨ab,r1,p1,_⟩:=I.tuple ha;obtain⟨B,r2,p2,_⟩:=I.tuple hb;have e1:ab=[]:=r1.nil_iff.mpr rfl;subst e1;obtain⟨⟨cls,dd,data,sl⟩,ho,hc,n,hd⟩:=p1;obtain⟨⟨M,Y,F,aa⟩,G,ad,n2,W⟩:=p2;have ac:cls=.type "tuple" := hc;have U:data=.seq #[] n:=hd;have N:M=.type "tuple" := ad;have J:F=.seq B.toArray n2:=W;subst ac U N J;exact concat_meets ⟨_,ho,rfl⟩ ⟨_,G,rfl⟩ zam seq_tuple_add zan zao (zap _ _)
  (tuple_addW0 a b #[] B.toArray n n2 dd Y sl aa rfl) ⟨ho,G,.ref b,H,I,rfl,q⟩
def N8:R2:=λx y H Q=>∃l k xs,x=.ref l/\y=.int k/\Rd H l (.lst xs)/\-(2^63)<=k/\k<2^63/\xs.length*k.toNat<=TQ /\
 ∀p,H p=none->Q (.ref p) (upd H p (.lst (UF k.toNat xs).flatten))
theorem FV:OpR X (UQ .Mult) N8:=by
 intro pins s σ H x y v u Q I rx ry h;obtain⟨l,k,xs,rfl,rfl,hH,h1,h2,hz,q⟩:=h;cases rx;obtain⟨t,rfl⟩:=ry;obtain⟨z,B,n,r,hl,e⟩:=P.Inv.lstR I hH;have J:B.toArray.size*k.toNat<=TQ:=by rw[T6,<- hl];exact hz
 have W:¬ B.toArray.size*k.toNat>(2^63-1)/8:=by
  have:(TQ:Nat)<=(2^63-1)/8:=by decide
  lia
 have N:¬ (!Builtin.List.listFitsIndex k)=true:=by
  rw[fitsIndex_both h1 h2];exact T3
 have G:¬ ZC (B.toArray.size*k.toNat)=true:=by
  rw[tI J];exact T3
 have M:List.foldl (λx1 Y=>x1++Y) #[] (UF (if B.toArray.isEmpty=true then 0 else k.toNat) B.toArray)=(UF k.toNat B).flatten.toArray:=by
  have f0:∀m:Nat,List.foldl (λx1 Y=>x1++Y) #[] (UF m B.toArray)=(UF m B).flatten.toArray:=λm=>by
   have:=foldl_rep B m [];rw[List.nil_append]at this;exact this
  rw[f0];cases B with
  | nil=>simp
  | cons a r'=>rw[if_neg (by simp)]
 refine wpAny_binaryOp_repeat_ref (T := "list") (U := "int") (by decide) ⟨_,e,rfl⟩ (λs'=>YC s' k t) noFill_list_mul F.fills_int_mul F.slot_int_rmul repeat_list F.slot_int_index.lookup
  (call_meets F.slot_int_rmul (YC s k t) F.entry_int_rmul (F.args_int_rmul_2 _ _) (int___rmul___int_list k t l B.toArray n)
   ⟨e,rfl,⟨_,e,rfl⟩,call_meets F.slot_list_mul ⟨_,e,rfl⟩ F.entry_list_mul (F.args_list_mul_2 _ _) (AutoListH.list___mul___list_int_3 l B.toArray n k t N W G) ⟨e,?_⟩⟩)
 rw[M];exact⟨.ref _,_,I.lnew (t':=s.toks) (r.rep k.toNat) (by rw[len_rep,Nat.mul_comm];exact hz),rfl,q _ I.fresh⟩
def sH:V->List V->Hp->VK->Prop:=λx vs H Q=>∃l b xs zs,x=.ref l/\vs=[.ref b]/\H l=some (.lst xs)/\Rd H b (.lst zs)/\xs.length+zs.length<=TQ/\Q .non (upd H l (.lst (xs++zs)))
theorem t6:QC X "list.extend" sH:=by
 intro pins s σ H x vs v us Q I rx U h;obtain⟨l,b,xs,zs,rfl,rfl,M,hB,hz,q⟩:=h;cases rx;obtain⟨u,rfl,Y⟩:=U.one;cases Y;obtain⟨z,G,n,r,hl,e⟩:=I.lstM M;obtain⟨z2,B,N,r2,W,e2⟩:=P.Inv.lstR I hB;have hsz:G.toArray.size+B.toArray.size<=TQ:=by rw[T6,T6];lia
 have J:¬ (!G.toArray.isEmpty && ZC (G.toArray.size+B.toArray.size))=true:=by
  rw[tI hsz,Bool.and_false];exact T3
 refine call_meets F.slot_list_extend ⟨_,e,rfl⟩ F.entry_list_extend (F.args_list_extend_2 _ _)
  (AutoSeq1.list_extend_list_list_0 l G.toArray n b B.toArray N J (by rw[T6];lia) (by lia)) ⟨e,e2,?_⟩
 refine⟨.non,_,I.lset (its':=G++B) M e (by simp) (r.append r2) ?_,rfl,q⟩;rw[VB]
 lia
end
end My
namespace P
open PySem PySem.Spec PyProof.Rows L2
theorem aA{q B:Type}(a:q)(f:q->Option B):(some a).bind f=f a:=by rw[TR]
theorem aI{q B:Type}(a:q)(f:q->B):(some a).map f=some (f a):=by rw[TU]
section
variable {X:Cx}{O O':List Nat}{L:Lp}
noncomputable def zV:List D->Option D
 | [.int i]=>some (.int i)
 | [.bl b]=>some (.int (if b then 1 else 0))
 | _=>none
theorem J6:e9 X (.type "int") zV:=CallR.mono zE <| by
 rintro xs H Q ⟨A,ds,d,F,r,e,q⟩;unfold zV at e;split at e
 ·cases e
  obtain⟨v,rfl,B⟩:=r.one;cases B.int_inv;exact .inl ⟨_,rfl,q _ H (Ext.refl _ _) (.int _)⟩
 ·cases e
  obtain⟨v,rfl,B⟩:=r.one;cases B.bl_inv;exact .inr ⟨_,rfl,q _ H (Ext.refl _ _) (.int _)⟩
 ·cases e
@[simp] theorem q_intB:zV [.bl b]=some (.int (if b then 1 else 0)):=rfl
@[simp] theorem q_intI:zV [.int i]=some (.int i):=rfl
theorem dC:∀ns:List Int,bS (ns.map .int)=some ns
 | []=>rfl
 | n::ns=>by rw[T1,bS,dC ns];rfl
def MT:D->D->Option D
 | .lst l,.int k=>if b6 k=true/\aV (l.length*k.toNat)=true then some (.lst (UF k.toNat l).flatten)else none
 | _,_=>none
theorem RepL.rep(r:RepL A H ds vs):∀k:Nat,RepL A H (UF k ds).flatten (UF k vs).flatten
 | 0=>.nil
 | k+1=>by rw[WV,WV,W3,W3];exact r.append (RepL.rep r k)
theorem DA(N:PB X O a fa)(B:PB X O b fb):PF X O (.BinOp a .Mult b pos) (bU MT fa fb):=
 PE.mono (II My.FV N B) <| by
  rintro σ H Q ⟨H0,A0,A,E,ρ,d,st,e,q⟩;obtain⟨x,ex,e⟩:=bind_some e;obtain⟨y,Y,e⟩:=bind_some e;refine⟨H0,A0,A,E,ρ,x,st,ex,λv H1 G U=>⟨H0,A0,A,E,ρ,y,st.mono G,Y,λw H2 F r2=>?_⟩⟩;unfold MT at e;split at e
  ·rename_i _ l k _
   by_cases hz:b6 k=true/\aV (l.length*k.toNat)=true
   ·rw[if_pos hz]at e
    cases e;obtain⟨p,xs,rfl,M,J⟩:=(U.ext F).lst_inv;cases r2.int_inv;have hk:=cY hz.1;refine⟨p,k,xs,rfl,rfl,M,by lia,by lia,by rw[J.length];exact dF hz.2,λb B=>?_⟩;have n0:H b=none:=(G.trans F).free B;have W:¬ A b:=λz=>(st.mono (G.trans F)).live b z B
    exact q b _ ((G.trans F).trans (Ext.new B)) n0 W (.lst aJ ((J.rep k.toNat).fresh B))
   ·rw[if_neg hz]at e;cases e
  ·cases e
@[simp] theorem q_rep:MT (.lst l) (.int k)=if b6 k=true/\aV (l.length*k.toNat)=true then some (.lst (UF k.toNat l).flatten)else none:=rfl
def b5(x y:D):Option D:=match x,y with
 | .tup l,.tup m=>if aV (l.length+m.length)then some (.tup (l++m))else none
 | x,y=>oS x y
theorem FS:dR X (UQ .Add) b5:=OpR.mono (OpR.or JT My.FN) <| by
 rintro x y H Q ⟨A,dx,N,d,G,F,B,e,q⟩;unfold b5 at e;split at e
 ·rename_i l m
  cases l with
  | nil=>
   by_cases hz:aV (([]:List D).length+m.length)=true
   ·rw[if_pos hz]at e
    cases e;obtain⟨a,xs,rfl,h1,J⟩:=F.tup_inv;obtain⟨b,ys,rfl,h2,M⟩:=B.tup_inv;cases J;exact .inr ⟨a,b,ys,rfl,rfl,.inl (.inl h1),.inl (.inl h2),q _ H (Ext.refl _ _) (.tup h2 M)⟩
   ·rw[if_neg hz]at e;cases e
  | cons a l=>
   refine .inl ⟨A,_,_,d,G,F,B,?_,q⟩;rw[<- e];rfl
 ·exact .inl ⟨A,_,_,d,G,F,B,e,q⟩
@[simp] theorem q_addAI:b5 (.int i) (.int j)=some (.int (i+j)):=rfl
@[simp] theorem q_addAT:b5 (.tup l) (.tup m)=if aV (l.length+m.length)then some (.tup (l++m))else none:=rfl
@[simp] theorem q_addAL:b5 (.lst l) (.lst m)=if aV (l.length+m.length)then some (.lst (l++m))else none:=rfl
@[simp] theorem q_addAS:b5 (.str l) (.str m)=if aV (l.length+m.length)then some (.str (l++m))else none:=rfl
def PN(i:Nat)(f:Ev):Sv:=λρ=>(aL i ρ).bind λx=>match x with
 | .lst l=>(f ρ).bind λd=>match d with
  | .lst m=>if aV (l.length+m.length)then some (.nx (ρ.set i (some (.lst (l++m)))))else none
  | _=>none
 | _=>none
theorem uO(ho:PE X o (gX i))(he:PD X O e f)(F:mem O i=true)(N:PE X (.Call (.Attribute o "extend" apos) [e] [] cpos) (QB X.K "list" My.sH (gX i) (xP (tD Rep O f) MK)))
  (hs:U5 (.Call (.Attribute o "extend" apos) [e] [] cpos) none pos.line X.env=pure false:=by rfl) (h:Sub O' O=true:=by rfl):PSD X L O (.Expr (.Call (.Attribute o "extend" apos) [e] [] cpos) pos) (PN i f) O':=
 PS.mono (p8 N hs) <| by
  rintro T σ H ⟨H0,A0,A,E,ρ,W,st,e,p⟩;obtain⟨x,ex,e⟩:=bind_some e;cases x with
  | lst l=>
   obtain⟨d,ed,e⟩:=bind_some e;cases d with
   | lst m=>
    dsimp only at e;by_cases hz:aV (l.length+m.length)=true
    ·rw[if_pos hz]at e
     cases e;obtain⟨a,M,q,Y,e4⟩:=st.own i _ (aX ex) (e8 F);cases e4 with
     | lst h4 r4=>
      refine⟨_,M,.inl ⟨rfl,_,SqL.of h4⟩,H0,A0,A,E,ρ,_,st,ed,λv H' x r=>?_⟩;obtain⟨b,zs,rfl,U,G⟩:=RepB.lst_inv (.of r);refine⟨a,b,_,zs,rfl,rfl,x.ow _ _ q h4,U,by rw[r4.length,G.length];exact dF hz,?_⟩;have J:=x.ow _ _ q h4;obtain⟨A',B⟩:=((st.mono x).write (o:=.lst _) (aX ex) (e8 F) M q Y J trivial (.lst aJ (((r4.ext x).append G).put q J trivial))).shut (Sub.mem h);exact p A' σ _ B
    ·rw[if_neg hz]at e;cases e
   | _=>cases e
  | _=>cases e
def eY(c:Bv)(b:Sv):Nat->bK->Option Out
 | 0,_=>none
 | n+1,ρ=>(c ρ).bind λt=>if t=true then(b ρ).bind λo=>match o with
   | .nx ρ'=>eY c b n ρ'
   | .ct ρ'=>eY c b n ρ'
   | .bk ρ'=>some (.nx ρ')
   | .rt d=>some (.rt d)
  else some (.nx ρ)
def qD(c:Bv)(b:Sv):Sv:=λρ=>eY c b 100000 ρ
theorem yV(Y:W9 (model X.prog X.w) X.A X.env X.xe)(hc:kB X O1 c g)(hb:PSDs X ⟨Ob,O1⟩ O1 body b O1)(h1:Sub O1 O=true)(h2:Sub O' O1=true)(W:Sub O' Ob=true) :
  PSD X L O (.While c body [] pos) (qD g b) O':=PS.mono (BM Y hc hb) λT σ H ⟨H0,A0,A,E,ρ,G,st,e,p⟩=>by
 obtain⟨A1,N⟩:=st.shut (Sub.mem h1);refine⟨λm σ H=>∃ρ A,ST H0 A0 A E O1 σ H ρ/\eY g b m ρ=some G,⟨100000,ρ,A1,N,e⟩,?_⟩;rintro m σ H ⟨ρ,A,st,e⟩;cases m with
 | zero=>cases e
 | succ m=>
  obtain⟨t,et,e⟩:=bind_some e;refine⟨H0,A0,A,E,ρ,t,st,et,λH1 U=>?_⟩;have fin:∀ {O2:List Nat} {A:Av} {σ:L2.St} {H:Hp} {ρ:bK},Sub O' O2=true->ST H0 A0 A E O2 σ H ρ->(∀A σ H,ST H0 A0 A E O' σ H ρ->T.nx σ H)->T.nx σ H:=λhs st k=>by
   obtain⟨q,M⟩:=st.shut (Sub.mem hs);exact k q _ _ M
  cases t with
  | true=>
   rw[if_pos rfl]at e;dsimp only;rw[if_pos rfl];obtain⟨o,eo,e⟩:=bind_some e;refine⟨λJ H'=>∃ρ2 q,ST H0 A0 q E O1 J H' ρ2/\eY g b m ρ2=some G,λJ H' ⟨ρ2,q,B,e2⟩=>⟨m,zaF m,ρ2,q,B,e2⟩,H0,A0,A,E,ρ,o,st.mono U,eo,?_⟩;cases o with
   | nx ρ2=>exact λq F H2 B=>⟨ρ2,q,B,e⟩
   | ct ρ2=>exact λq F H2 B=>⟨ρ2,q,B,e⟩
   | bk ρ2=>cases e;exact λq F H2 B=>fin W B p
   | rt d=>cases e;exact p
  | false=>
   rw[if_neg T3]at e;dsimp only;rw[if_neg T3];cases e;exact fin h2 (st.mono U) p
end
theorem GN{P:TN}{w:World}{K:TK}{mg:Str->Option Value}{base:Heap}{x:Str}{st:Stmt}{N ps:List Str}{k:Nat}(G:My.DefAt K mg x st ps)(S:FnScope N ps (aF st)):Fn P w K mg base x (k+1) ps (λ_=>none):=
 My.BodyOk.ok (k:=k) (N:=N) (λU J A B s H vs Q E Y ⟨M,ds,d,W,r,e,F,q⟩=>nomatch F) G S (λvs H Q E ⟨M,ds,d,_,_,e,F,_⟩=>nomatch F)
def vR(n:Nat)(b:(List D->Option D)->Sv):Nat->List D->Option D
 | 0=>λ_=>none
 | m+1=>bA n (b (vR n b m))
end P
namespace My
open PySem PySem.Spec PyProof.Rows L2
open AutoSeq1 (wpAny_loadPart')
theorem yJ(l:Addr)(items:Array Value)(n:Nat)(B:Option Addr)(M:Array (Option Value)) :
  Meets (VP.«enumerate.__new__» ⟨[.type "enumerate",.ref l],[]⟩) (λ_ R s=>s.heap.get? l=some {cls:=.type "tuple",dict:=B,data:=.seq items n,slots:=M} /\
   R (.ok (.ret (.ref (s.heap.push {cls:=.type "tuple_iterator",data:=.fields #[.ref l,.int 0 0]}).objs.size)))
    {s with heap:=(s.heap.push {cls:=.type "tuple_iterator",data:=.fields #[.ref l,.int 0 0]}).push {cls:=.type "enumerate",data:=.fields #[.none,.bool false,.ref s.heap.objs.size,UY 0,.none,.none]} }):=
 .of_wp λprog w A R s h=>by
  obtain⟨J,g,d,tk,os⟩:=s;obtain⟨q,h⟩:=h;have G:=sub_enumerate;have F:Heap.IsTuple (Shared.heap ⟨J,g,d,tk,os⟩) l items:=⟨_,q,rfl,n,rfl⟩
  wp_walk using VJ q
  refine wpAny_stack_any λst=>TJ ?_
  split
  ·rename_i c _ _ _ _ _
   cases(c == WQ "enumerate")
   ·wp_walk using VJ q,X4 F
    exact⟨_,rfl,h⟩
   ·wp_walk using VJ q,X4 F
    exact⟨_,rfl,h⟩
  ·wp_walk using VJ q,X4 F
   exact⟨_,rfl,h⟩
section
variable {prog:TN}{w:World}{A:TZ}{E:Value->TH->Prop}{s:TH}
theorem yI(hl:SSq t s.heap l xs)
  (h:∀h',V7 h' (s.heap.objs.size+1) s.heap.objs.size 0 .none->SIt t h' s.heap.objs.size l 0->(∀b o,s.heap.get? b=some o->h'.get? b=some o)->Q (.ref (s.heap.objs.size+1)) {s with heap:=h'}) :
  wpAny (model prog w) A (call (.type "enumerate") [.ref l]) Q E s:=by
 obtain⟨⟨cls,J,data,W⟩,U,hc,n,Y⟩:=hl;have M:cls=.type (SC t):=hc;have N:data=.seq xs n:=Y;subst M N;have hz:(s.heap.push (RY t l)).objs.size=s.heap.objs.size+1:=YK ..;have fin:V7 ((s.heap.push (RY t l)).push {cls:=.type "enumerate",data:=.fields #[.none,.bool false,.ref s.heap.objs.size,UY 0,.none,.none]}) (s.heap.objs.size+1) s.heap.objs.size 0 .none:=by
  have:=UC (s.heap.push (RY t l)) (o:={cls:=.type "enumerate",data:=.fields #[.none,.bool false,.ref s.heap.objs.size,UY 0,.none,.none]}) rfl;rw[hz]at this;exact this
 have q:=h _ fin ⟨_,T4 _ (UC _ rfl),rfl,rfl⟩ λb o x=>T4 _ (T4 _ x)
 cases t with
 | false=>
  refine callType_new F.called_enumerate (by decide) (F.typeCall_enumerate_1 _) (F.newCall_enumerate_1 _) (λG=>F.args_object_init_2 G _) F.entry_enumerate_new (meets_enumerate_newL l xs n J W) ⟨U,?_⟩;have B:(s.heap.push {cls:=.type "list_iterator",data:=.fields #[.ref l,.int 0 0]}).objs.size=s.heap.objs.size+1:=hz;show _/\_;rw[B];exact⟨⟨_,fin,rfl⟩,q⟩
 | true=>
  refine callType_new F.called_enumerate (by decide) (F.typeCall_enumerate_1 _) (F.newCall_enumerate_1 _) (λG=>F.args_object_init_2 G _) F.entry_enumerate_new (yJ l xs n J W) ⟨U,?_⟩;have B:(s.heap.push {cls:=.type "tuple_iterator",data:=.fields #[.ref l,.int 0 0]}).objs.size=s.heap.objs.size+1:=hz;show _/\_;rw[B];exact⟨⟨_,fin,rfl⟩,q⟩
theorem yA{t:Bool}{e it l:Addr}{i:Nat}{items:Array Value}{x al:Value}{Q:Value->TH->Prop}
  (he:V7 s.heap e it i al) (az:SIt t s.heap it l i) (hl:SSq t s.heap l items) (hx:items[i]?=some x) (ak:e≠it)
  (hQ:∀h', IsEnumOut h' e it ((i:Int)+1) x s.heap.objs.size -> SIt t h' it l (i+1) ->
   h'.get? s.heap.objs.size=some {cls:=.type "tuple",data:=.seq #[.int i s.toks,x]}->h'.objs.size=s.heap.objs.size+1->
   (∀b o,b≠e->b≠it->s.heap.get? b=some o->h'.get? b=some o)->Q (.ref s.heap.objs.size) {s with heap:=h',toks:=s.toks+1}) :
  wpAny (model prog w) A (VP.«enumerate.__next__» ⟨[.ref e],[]⟩) (λfin s'=>∃v,fin=.done (.ret v)/\Q v s') E s:=by
 obtain⟨hp,g,d,tk,os⟩:=s;show wpAny _ _ (field (.ref e) 2 >>= _) _ _ _;refine TF (U6 he rfl (x:=.ref it) rfl ?_);refine TF (next_item az hl hx λU aj G=>?_);replace G:UI it hp U:=G;have ac:V7 U e it i al:=(G.2 e ak).trans he;show wpAny _ _ (field (.ref e) 3 >>= _) _ _ ⟨U,g,d,tk,os⟩;refine TF (U6 ac rfl (x:=UY i) rfl ?_);show wpAny _ _ (field (.ref e) 4 >>= _) _ _ ⟨U,g,d,tk,os⟩;refine TF (U6 ac rfl (x:=.none) rfl ?_);show wpAny _ _ (mkInt i >>= _) _ _ ⟨U,g,d,tk,os⟩;refine TF (wpAny_mkInt ?_);show wpAny _ _ (XQ (.ref e) 3 (UY ((i:Int)+1)) >>= _) _ _ ⟨U,g,d,tk+1,os⟩;refine TF (V5 ac (by simp) λad Y J=>?_);replace J:UI e U ad:=J;replace Y:V7 ad e it ((i:Int)+1) al:=Y;show wpAny _ _ (XQ (.ref e) 4 .none >>= _) _ _ ⟨ad,g,d,tk+1,os⟩;refine TF (V5 Y (by simp) λW aa N=>?_);replace N:UI e ad W:=N;replace aa:V7 W e it ((i:Int)+1) al:=aa;show wpAny _ _ (newTuple [.int i tk,x] >>= _) _ _ ⟨W,g,d,tk+1,os⟩;refine TF (ZQ ?_);have ab:V7 (W.push {cls:=.type "tuple",data:=.seq #[.int i tk,x]}) e it ((i:Int)+1) al:=T4 _ aa;generalize hh₄:W.push {cls:=.type "tuple",data:=.seq #[.int i tk,x]}=h₄ at ab;have hsz:W.objs.size=hp.objs.size:=by rw[N.1,J.1,G.1]
 have au:e<hp.objs.size:=TX he;have aw:h₄.get? hp.objs.size=some {cls:=.type "tuple",data:=.seq #[.int i tk,x]}:=by rw[<- hh₄,<- hsz];exact UC _ rfl
 have aq:h₄.objs.size=hp.objs.size+1:=by rw[<- hh₄,YK,hsz]
 have ar:∀b o,b≠e->b≠it->hp.get? b=some o->h₄.get? b=some o:=λb o ag as hb=>by
  rw[<- hh₄];exact T4 _ (N.extBut b o ag (J.extBut b o ag (G.extBut b o as hb)))
 have ap:SIt t h₄ it l (i+1):=by
  rw[<- hh₄];exact aj.to λo q=>T4 _ (N.extBut it o (UH ak) (J.extBut it o (UH ak) q))
 show wpAny _ _ (zaP (.ref e) >>= _) _ _ ⟨h₄,g,d,tk+1,os⟩;rw[hsz];clear hh₄ aa N Y J ac G aj hsz W ad U;refine TF ?_
 ·unfold zaP
  refine TF (U6 ab rfl (x:=.none) rfl (TJ ?_));simp only[if_true];refine TF (XX ?_);refine TF (U6 ab rfl (x:=al) rfl ?_);refine TF (V5 ab (by simp) λai ae B=>?_);replace B:UI e h₄ ai:=B;replace ae:V7 ai e it ((i:Int)+1) x:=ae;show wpAny _ _ (zaQ (.ref e) (.ref hp.objs.size) >>= _) _ _ ⟨ai,g,d,tk+1,os⟩;refine TF ?_
  ·unfold zaQ
   refine TF (V5 ae (by simp) λan af M=>?_);replace M:UI e ai an:=M;replace af:IsEnumOut an e it ((i:Int)+1) x hp.objs.size:=af;refine V5 af (by simp) λam ah F=>?_
   replace F:UI e an am:=F;replace ah:IsEnumOut am e it ((i:Int)+1) x hp.objs.size:=ah;refine TF (XS (TJ ⟨_,rfl,hQ am ah ?_ ?_ ?_ ?_⟩))
   ·exact ap.to λo q=>F.extBut it o (UH ak) (M.extBut it o (UH ak) (B.extBut it o (UH ak) q))
   ·exact F.extBut _ _ (UX au) (M.extBut _ _ (UX au) (B.extBut _ _ (UX au) aw))
   ·rw[F.1,M.1,B.1,aq]
   ·exact λb o ag as hb=>F.extBut b o ag (M.extBut b o ag (B.extBut b o ag (ar b o ag as hb)))
theorem zI{t:Bool}{e it l:Addr}{i:Nat}{items:Array Value}{x B:Value}{Q:Option Value->TH->Prop}
  (J:V7 s.heap e it i B) (G:SIt t s.heap it l i) (N:SSq t s.heap l items) (U:items[i]?=some x) (q:e≠it)
  (M:∀h', IsEnumOut h' e it ((i:Int)+1) x s.heap.objs.size -> SIt t h' it l (i+1) ->
   h'.get? s.heap.objs.size=some {cls:=.type "tuple",data:=.seq #[.int i s.toks,x]}->h'.objs.size=s.heap.objs.size+1->
   (∀b o,b≠e->b≠it->s.heap.get? b=some o->h'.get? b=some o)->Q (some (.ref s.heap.objs.size)) {s with heap:=h',toks:=s.toks+1}) :
  wpAny (model prog w) A (U3 (.ref e)) Q E s:=by
 have hT:s.TypeIs (.ref e) "enumerate" := ⟨_,J,rfl⟩;unfold U3;exact TF (XO (WC (name:=WD "__next__") hT ZW
  (VL ZW hT F.entry_enumerate_next
   (yA J G N U q λh' a b c d k=>TJ (M h' a b c d k)) (F.args_enumerate_next_1 _))))
theorem BQ{t:Bool}{i:Nat}{items:Array Value}{Q:Option Value->TH->Prop}(M:A.handled=none)
  (J:V7 s.heap e it i old) (B:SIt t s.heap it l i) (U:SSq t s.heap l items) (hx:items[i]?=none)
  (N:∀h',YJ it s.heap h'->Q none {s with heap:=h'}):wpAny (model prog w) A (U3 (.ref e)) Q E s:=by
 have hT:s.TypeIs (.ref e) "enumerate" := ⟨_,J,rfl⟩;unfold U3;refine TF (XO (WC (name:=WD "__next__") hT ZW
  (VL ZW hT F.entry_enumerate_next ?_ (F.args_enumerate_next_1 _))))
 show wpAny _ _ (field (.ref e) 2 >>= _) _ _ _;refine TF (U6 J rfl (x:=.ref it) rfl ?_);refine TF (next_end M B U hx λh' x G q=>?_);obtain⟨o,W,Y⟩:=q;refine TF (zaB (T := "StopIteration") (b:=true) ⟨o,W,Y⟩ isSubtype_stop ?_);exact TJ (N _ G)
end
def SJ(K:TK)(t:Bool)(l:Addr):It:=
 ⟨λi H => ∃xs, HP K t H l xs /\ i<xs.length, λi H x H' => ∃p u, x = .ref p /\ H p = none /\ H' = upd H p (.tup [.int (i:Int), u]) /\ ∀xs, HP K t H l xs -> xs[i]? = some u,
  λi H=>∃xs,HP K t H l xs/\xs.length<=i⟩
theorem yK{P:TN}{w:World}{K:TK}{ac:List Expr}{x1}{tp:Pos}(t:Bool){e it l:Addr}(aa:e≠it) :
  Turn P w K (.Tuple ac x1 tp) (SJ K t l) [e,it] e (λi h=>(∃J,V7 h e it (i:Nat) J)/\SIt t h it l i) where
 mem:=by simp
 obj:=by
  rintro i h ⟨⟨J,M⟩,⟨o1,e1,_,d1⟩⟩ c B;simp only[U0,U1,or_false]at B;rcases B with rfl|rfl
  ·exact⟨_,M,λv q=>by cases q⟩
  ·exact⟨o1,e1,λv q=>by rw[d1]at q;cases q⟩
 keep:=λi h h' ⟨⟨J,M⟩,N⟩ k=>⟨⟨J,k e (by simp) _ M⟩,N.to λo q=>k it (by simp) o q⟩
 item:=by
  intro X hP hw hK B i pins s σ H E I Y st hg;subst hP hw hK;obtain⟨⟨J,M⟩,N⟩:=st;obtain⟨xs,q1,ak⟩:=hg;obtain⟨ab,r1,p1⟩:=vC I q1;have e1:xs[i]?=some xs[i]:=by simp[ak]
  obtain⟨u,eu,ru⟩:=r1.get e1;refine zI M N p1 (x:=u) (by simpa using eu) aa λh' a1 a2 a3 a4 U=>⟨_,rfl,?_⟩
  refine wpAny_letOwnedTupleGo_enum (s:={s with heap:=h',toks:=s.toks+1}) a1 λh2 aj sb=>?_
  have zz:∀c,c∈[e,it]->c<s.heap.objs.size:=λc B=>by
   simp only[U0,U1,or_false]at B;rcases B with rfl|rfl
   ·exact TX M
   ·obtain⟨o,q,_⟩:=N;exact TX q
  have W:∀c o,c≠e->h'.get? c=some o->h2.get? c=some o:=λc o B q=>sb.extBut _ _ B q
  have I1:Inv X pins σ H {s with heap:=h2,toks:=s.toks+1}:=k5 I Y λc o B q=>by
   simp only[U0,U1,or_false,not_or]at B;exact W c o B.1 (U c o B.1 B.2 q)
  have F:H s.heap.objs.size=none:=I.fresh;have ah:h2.get? s.heap.objs.size=some {cls:=.type "tuple",data:=.seq #[.int i s.toks,u]}:=W _ _ (UX (zz e (by simp))) a3;have I2:Inv X pins σ (upd H s.heap.objs.size (.tup [.int (i:Int),xs[i]])) {s with heap:=h2,toks:=s.toks+1}:=by
   have ao:HOk X.prog X.w (upd H s.heap.objs.size (.tup [.int (i:Int),xs[i]])) h2:=λc ob q=>by
    by_cases B:c=s.heap.objs.size
    ·subst B;rw[aJ]at q;cases q
     exact⟨by show 2<=TQ;decide,[.int i s.toks,u],.cons ⟨_,rfl⟩ (.cons ru .nil),_,ah,rfl,0,rfl,rfl⟩
    ·rw[aC B]at q
     exact(I1.hok c ob q).stay (λ_ _ _ q=>q) (λd q=>by rw[aC (a6 q F)];exact q) λd ag q=>by rw[aC (a6 q F)];exact q
   refine I.call' (s':={s with heap:=h2,toks:=s.toks+1}) (ch:=[e,it]) rfl ⟨λc o q _ _ G=>?_,λc o q _ _ G=>⟨o.slots,?_⟩,λc o q n G=>by rw[aC (UE (TX q))];exact n,λc o q G=>⟨o,?_⟩,λc ag q=>by rw[aC (a6 q F)];exact q,λc o' u' q=>by rw[aC (a6 q F)];exact q,λc ps q=>⟨#[],by rw[aC (a6 q F),q];simp⟩⟩ ao I.bare λb hb=>?_
   ·simp only[U0,U1,or_false,not_or]at G
    exact W c o G.1 (U c o G.1 G.2 q)
   ·simp only[U0,U1,or_false,not_or]at G
    exact W c o G.1 (U c o G.1 G.2 q)
   ·simp only[U0,U1,or_false,not_or]at G
    exact W c o G.1 (U c o G.1 G.2 q)
   ·obtain⟨_,f1,_,f3,f4,f5⟩:=Y b hb
    exact⟨f3,f1,f4,f5⟩
  refine⟨.ref s.heap.objs.size,_,I2,rfl,⟨_,_,rfl,F,rfl,λba g1=>by rw[<- GG I q1 g1];exact e1⟩,⟨⟨_,aj⟩,a2.to λo q=>W _ o (UH aa) q⟩,λc B=>?_⟩;rw[aC (UE (zz c B))];exact(Y c B).1
 done:=by
  intro X hP hw hK B i pins s σ H E I Y st hg;subst hP hw hK;obtain⟨⟨J,M⟩,N⟩:=st;obtain⟨xs,q1,aq⟩:=hg;obtain⟨ab,r1,p1⟩:=vC I q1;have n1:=r1.length;refine BQ (I.ok.hd B) M N p1 (by simp;lia) λh' U=>⟨rfl,k5 (t':=s.toks) I Y λc o B q=>?_⟩
  simp only[U0,U1,or_false,not_or]at B;exact U c o B.2 q
 self:=λ_ _ _ _ _ st h=>let ⟨⟨_,M⟩,_⟩:=st;wpAny_pyIter_enum M h
theorem boot_enumerate:UM "enumerate" = some (.type "enumerate"):=by first|rfl|decide +kernel
def OQ(K:TK)(ta:TA):TI:=λσ H R=>ta σ H λvs H1=>∃t l xs,vs=[.ref l]/\HP K t H1 l xs/\R (SJ K t l) H1
theorem F7{X:Cx}{B:List Expr}{x1}{tp:Pos}{a:Expr}{ta:TA}{p pos:Pos}(Y:Gl X "enumerate")(hm:X.mg "enumerate" = none)(ha:PA X [a] ta)(hs:TL [a] X.env=[(false,eval a X.env)]:=by rfl) :
  PI X (.Tuple B x1 tp) (.Call (.Name "enumerate" p) [a] [] pos) (OQ X.K ta):=by
 intro pins s σ H R I h;refine Call_ (jA I Y hm boot_enumerate (YY (bE (ha pos pins s σ H _ I h) λus M ⟨vs,H1,G,r1,N⟩=>?_) (by rw[hs];rfl) rfl));obtain⟨t,l,xs,rfl,N,q⟩:=N;obtain⟨u,rfl,ru⟩:=vals1 r1;cases ru;obtain⟨W,_,p1⟩:=vC G N;refine yI p1 λh' U J k=>?_
 refine wpAny_pyIter_enum U ?_;have D:M.heap.objs.size+1≠M.heap.objs.size:=by lia
 refine⟨_,[_,_],_,_,H1,rfl,G.kept (t':=M.toks) k,yK t D,⟨⟨_,U⟩,J⟩,λc F=>G.fpOk ?_ (G.hok.fresh ?_),q⟩
 ·simp only[U0,U1,or_false]at F
  rcases F with rfl|rfl <;> lia
 ·simp only[U0,U1,or_false]at F
  rcases F with rfl|rfl <;> lia
end My
namespace P
open PySem PySem.Spec PyProof.Rows L2
noncomputable def eA:Nat->List D->List D
 | _,[]=>[]
 | k,x::xs=>.tup [.int (k:Int),x]::eA (k+1) xs
def xV(f:Lv):Lv:=λρ=>(f ρ).bind λds=>match ds with
 | [a]=>(oU a).map (eA 0)
 | _=>none
theorem fE:∀ {xs:List D} {k i:Nat} {d:D},(eA k xs)[i]?=some d->∃x,xs[i]?=some x/\d=.tup [.int ((k+i:Nat):Int),x]
 | [],k,i,d,h=>by simp[eA]at h
 | x::xs,k,0,d,h=>by simp[eA]at h;exact⟨x,rfl,h.symm⟩
 | x::xs,k,i+1,d,h=>by
  obtain⟨y,B,q⟩:=fE (xs:=xs) (k:=k+1) (i:=i) (by simpa[eA]using h);exact⟨y,by simpa using B,by rw[q];congr 4;lia⟩
theorem i5:∀(xs:List D) (k:Nat),(eA k xs).length=xs.length
 | [],_=>rfl
 | x::xs,k=>by simp[eA,i5 xs]
theorem CA{M}(hg:Gl X "enumerate")(hm:X.mg "enumerate" = none)(ha:tV X O [a] f)(hs:TL [a] X.env=[(false,eval a X.env)]:=by rfl) :
  PDI X O (.Tuple elts M tp) (.Call (.Name "enumerate" p) [a] [] pos) (xV f):=PI.mono (My.F7 hg hm ha hs) λσ H R ⟨H0,A0,A,E,ρ,items,st,e,q⟩=>by
 obtain⟨ds,e1,e⟩:=bind_some e;refine⟨H0,A0,A,E,ρ,ds,st,e1,λvs H1 M r1=>?_⟩;split at e
 case h_2=>cases e
 rename_i da;obtain⟨xs,e2,rfl⟩:=map_some e;obtain⟨v,rfl,U⟩:=r1.one;obtain⟨t1,G,us,rfl,q1,_,k1⟩:=F4 (K:=X.K) e2 U;refine⟨t1,G,us,rfl,q1,q _ H1 [.rep da (.ref G)] M (λp hp=>?_) ?_⟩
 ·rw[List.mem_singleton.mp hp];exact U
 ·intro A' H' lv hE i
  have a1:Rep A' H' da (.ref G):=hE (.rep da (.ref G)) (UW ..);obtain⟨B,J,F⟩:=k1 A' H' a1;refine⟨λhi=>⟨B,J,by rw[F.length];rw[i5]at hi;exact hi⟩,λd hd=>?_⟩;obtain⟨x,ex,rfl⟩:=fE hd;obtain⟨u,N,ru⟩:=F.get' ex;refine⟨⟨B,J,(List.getElem?_eq_some_iff.mp N).1⟩,λx' H2 ⟨p,u',e4,n,e5,Y⟩=>?_⟩;subst e4 e5;have W:=Y B J;rw[N]at W;cases W;rw[YR];exact⟨Ext.new n,.tup aJ (.cons (.int _) (.cons (ru.ext (Ext.new n)) .nil))⟩
@[simp] theorem q_enum:xV f ρ=(f ρ).bind λds=>match ds with
 | [a]=>(oU a).map (eA 0)
 | _=>none:=rfl
end P
namespace P
open L2
structure Ro where
 j:Int
 k:Int
 a:Int
 b:Int
 p:Int
structure GR(M many:Int)(rs:List Ro):Prop where
 len:rs.length<=12
 jk:∀r∈rs,0<=r.j/\r.j<r.k/\r.k<many
 ab:∀r∈rs,(0<=r.a/\r.a<M)/\0<=r.b/\r.b<M
 pr:∀r∈rs,0<=r.p/\r.p<=10^30
noncomputable def eG(rs:List Ro)(n:Int):Option Ro:=if 0<=n then rs[n.toNat]? else none
theorem iQ(h:eG rs n=some r):r∈rs:=by
 unfold eG at h;split at h
 ·exact UJ h
 ·cases h
theorem vF(h:eG rs n=some r):0<=n/\n<(rs.length:Int):=by
 unfold eG at h;split at h
 ·rename_i h0
  have:=(List.getElem?_eq_some_iff.mp h).1
  lia
 ·cases h
def gw(rs:List Ro):Int->List Int->Option Int
 | at_,[]=>some at_
 | at_,n::w=>(eG rs n).bind λr=>if r.j=at_ then gw rs r.k w else none
theorem i3:∀ {at_:Int} {v w:List Int},gw rs at_ (v++w)=(gw rs at_ v).bind λe=>gw rs e w
 | at_,[],w=>rfl
 | at_,n::v,w=>by
  show((eG rs n).bind λr=>if r.j=at_ then gw rs r.k (v++w)else none)=_;cases e:eG rs n with
  | none=>simp[gw,e]
  | some r=>
   by_cases h:r.j=at_
   ·simp[gw,e,h,i3 (v:=v) (w:=w)]
   ·simp[gw,e,h]
theorem wR(h:gw rs at_ w=some e)(B:eG rs n=some r)(q:r.j=e):gw rs at_ (w++[n])=some r.k:=by
 rw[i3,h];simp[gw,B,q]
theorem d8:∀ {at_ e:Int} {w:List Int},gw rs at_ w=some e->∀n∈w,∃r,eG rs n=some r
 | at_,e,[],_,n,h=>nomatch h
 | at_,e,m::w,h,n,hn=>by
  unfold gw at h;cases er:eG rs m with
  | none=>rw[er]at h;cases h
  | some r=>
   rw[er]at h;simp only[ZX]at h;split at h
   ·rcases List.mem_cons.mp hn with z|z
    ·rw[z];exact⟨r,er⟩
    ·exact d8 h n z
   ·cases h
theorem dY(g:GR M many rs):∀ {at_ e:Int} {w:List Int},gw rs at_ w=some e->at_+(w.length:Int)<=e
 | at_,e,[],h=>by cases h;simp
 | at_,e,m::w,h=>by
  unfold gw at h;cases er:eG rs m with
  | none=>rw[er]at h;cases h
  | some r=>
   rw[er]at h;simp only[ZX]at h;split at h
   ·have:=dY g h
    have:=(g.jk r (iQ er)).2.1;simp only[UK];lia
   ·cases h
def aZ(rs:List Ro)(M:Int)(x:Int)(w:List Int):Int:=w.foldl (λx n=>match eG rs n with|some r=>(r.a*x+r.b)%M|none=>x) x
def pC(rs:List Ro)(M:Int)(t:Int×Int)(w:List Int):Int×Int:=w.foldl (λt n=>match eG rs n with|some r=>(t.1*r.a%M,(r.a*t.2+r.b)%M)|none=>t) t
theorem rQ(a x b M:Int):(a*(x%M)+b)%M=(a*x+b)%M:=by
 rw[ZY,ZZ,Z0 _ (Z1 M),<- ZZ,<- ZY]
theorem i8(h0:0<M):∀(w:List Int) (t:Int×Int) (x y:Int),(0<=t.1/\t.1<M)->(0<=t.2/\t.2<M)->y%M=(t.1*x+t.2)%M->
  (0<=(pC rs M t w).1/\(pC rs M t w).1<M)/\(0<=(pC rs M t w).2/\(pC rs M t w).2<M)/\aZ rs M y w%M=((pC rs M t w).1*x+(pC rs M t w).2)%M
 | [],t,x,y,h1,h2,h=>⟨h1,h2,h⟩
 | n::w,t,x,y,h1,h2,h=>by
  cases e:eG rs n with
  | none=>
   have:=i8 (rs:=rs) h0 w t x y h1 h2 h;simpa[pC,aZ,e]using this
  | some r=>
   have F:=T7 (t.1*r.a) (UT h0);have G:=T8 (t.1*r.a) h0;have B:=T7 (r.a*t.2+r.b) (UT h0);have q:=T8 (r.a*t.2+r.b) h0;have:=i8 (rs:=rs) h0 w (t.1*r.a%M,(r.a*t.2+r.b)%M) x ((r.a*y+r.b)%M) ⟨F,G⟩ ⟨B,q⟩ (by
    show(r.a*y+r.b)%M%M=(t.1*r.a%M*x+(r.a*t.2+r.b)%M)%M;rw[Z0 _ (Z1 M),<- rQ r.a y,h,rQ];have J:(t.1*r.a%M*x+(r.a*t.2+r.b)%M)%M=(t.1*r.a*x+(r.a*t.2+r.b))%M:=by
     rw[ZY,ZZ,Z0 _ (Z1 M),Z0 _ (Z1 M),<- ZZ,<- ZY]
    rw[J];congr 1;rw[Int.mul_add,<- Int.mul_assoc,Int.mul_comm r.a t.1]
    lia)
   simpa[pC,aZ,e]using this
theorem cQ(h0:0<M):∀(w:List Int) (x:Int),(0<=x/\x<M)->0<=aZ rs M x w/\aZ rs M x w<M
 | [],x,h=>h
 | n::w,x,h=>by
  cases e:eG rs n with
  | none=>have:=cQ (rs:=rs) h0 w x h;simpa[aZ,e]using this
  | some r=>
   have:=cQ (rs:=rs) h0 w ((r.a*x+r.b)%M) ⟨T7 _ (UT h0),T8 _ h0⟩;simpa[aZ,e]using this
noncomputable def fl{α:Type}(h:Nat->Ro->List α):Nat->List Ro->List α
 | _,[]=>[]
 | m,r::rs=>h m r++fl h (m+1) rs
noncomputable def sg(q:Nat->Ro->Int):Nat->List Ro->Int
 | _,[]=>0
 | m,r::rs=>q m r+sg q (m+1) rs
theorem qL{B:Type}{h:Nat->Ro->List B}{a:B}:∀ {rs:List Ro} {m:Nat},a∈fl h m rs↔∃i r,rs[i]?=some r/\a∈h (m+i) r
 | [],m=>by simp[fl]
 | r::rs,m=>by
  unfold fl;rw[List.mem_append,qL (rs:=rs) (m:=m+1)];constructor
  ·rintro(z|⟨i,q,e,z⟩)
   ·exact⟨0,r,rfl,z⟩
   ·exact⟨i+1,q,by simpa using e,by rw[show m+(i+1)=m+1+i by lia];exact z⟩
  ·rintro⟨i,q,e,z⟩
   cases i with
   | zero=>simp at e;subst e;exact .inl z
   | succ i=>exact .inr ⟨i,q,by simpa using e,by rw[show m+1+i=m+(i+1) by lia];exact z⟩
theorem nW{q:Type}{h:Nat->Ro->List q}:∀ {a b:List Ro} {m:Nat},fl h m (a++b)=fl h m a++fl h (m+a.length) b
 | [],b,m=>by simp[fl]
 | r::a,b,m=>by
  show h m r++fl h (m+1) (a++b)=(h m r++fl h (m+1) a)++_;rw[nW,List.append_assoc,UK,show m+1+a.length=m+(a.length+1) by lia]
theorem GJ{q:Type}{h:Nat->Ro->List q}{rs:List Ro}{i:Nat}{r:Ro}(e:rs[i]?=some r):fl h 0 (rs.take (i+1))=fl h 0 (rs.take i)++h i r:=by
 have hi:i<rs.length:=(List.getElem?_eq_some_iff.mp e).1;rw[WX,e,nW];have:(rs.take i).length=i:=by simp;lia
 simp[this,fl]
theorem xF{G:Type}{R:G->G->Prop}{h:Nat->Ro->List G}:∀ {rs:List Ro} {m:Nat},(∀i r,rs[i]?=some r->(h (m+i) r).Pairwise R)->(∀i j r q,i<j->rs[i]?=some r->rs[j]?=some q->∀a∈h (m+i) r,∀b∈h (m+j) q,R a b)->(fl h m rs).Pairwise R
 | [],m,_,_=>YE
 | r::rs,m,h1,h2=>by
  unfold fl;rw[List.pairwise_append];refine⟨h1 0 r rfl,xF (rs:=rs) (m:=m+1) (λi q e=>?_) (λi j q J M e N a F b B=>?_),λa F b B=>?_⟩
  ·have:=h1 (i+1) q (by simpa using e)
   rw[show m+1+i=m+(i+1) by lia];exact this
  ·rw[show m+1+i=m+(i+1) by lia]at F
   rw[show m+1+j=m+(j+1) by lia]at B;exact h2 (i+1) (j+1) q J (by lia) (by simpa using e) (by simpa using N) a F b B
  ·obtain⟨j,q,e,B⟩:=qL.mp B
   rw[show m+1+j=m+(j+1) by lia]at B;exact h2 0 (j+1) r q (by lia) rfl (by simpa using e) a F b B
def c5(rs:List Ro)(k:Int):Nat->Int->List (List Int)
 | 0,_=>[]
 | n+1,x=>if x=k then [[]]else fl (λi r=>if r.j=x/\r.k<=k then(c5 rs k n r.k).map λw=>(i:Int)::w else []) 0 rs
theorem v7{rs:List Ro}{i:Nat}:eG rs (i:Int)=rs[i]?:=by unfold eG;rw[if_pos (by lia)];simp
theorem gG{rs:List Ro}{k:Int}:∀ {n:Nat} {x:Int} {w:List Int},w∈c5 rs k n x->gw rs x w=some k
 | 0,x,w,h=>nomatch h
 | n+1,x,w,h=>by
  unfold c5 at h;split at h
  ·rename_i e
   rw[List.mem_singleton.mp h,e];rfl
  ·obtain⟨i,r,e,hw⟩:=qL.mp h
   rw[YR]at hw;split at hw
   ·rename_i hc
    obtain⟨v,q,rfl⟩:=List.mem_map.mp hw;have:=gG q;simp[gw,v7,e,hc.1,this]
   ·cases hw
theorem sM(g:GR M many rs):∀ {n:Nat} {x:Int} {w:List Int},k-x<(n:Int)->gw rs x w=some k->w∈c5 rs k n x
 | 0,x,w,hn,h=>by have:=dY g h;simp at hn;lia
 | n+1,x,w,hn,h=>by
  unfold c5;cases w with
  | nil=>cases h;rw[if_pos rfl];exact List.mem_singleton.mpr rfl
  | cons m v=>
   have q:=dY g h;simp only[UK]at q;rw[if_neg (by lia)];unfold gw at h;cases er:eG rs m with
   | none=>rw[er]at h;cases h
   | some r=>
    rw[er]at h;simp only[ZX]at h;split at h
    ·rename_i hj
     have B:=vF er;obtain⟨i,rfl⟩:∃i:Nat,m=(i:Int):=⟨m.toNat,by lia⟩;rw[v7]at er;have G:=(g.jk r (UJ er)).2.1;have F:=dY g h;refine qL.mpr ⟨i,r,er,?_⟩;rw[YR,if_pos ⟨hj,by lia⟩];exact List.mem_map.mpr ⟨v,sM g (by simp at hn;lia) h,rfl⟩
    ·cases h
theorem jX{rs:List Ro}{k:Int}:∀(n:Nat) (x:Int),(c5 rs k n x).Pairwise λa b=>HT.lexLt a b=true
 | 0,x=>YE
 | n+1,x=>by
  unfold c5;split
  ·exact List.pairwise_singleton _ _
  ·refine xF (λi r _=>?_) (λi j r G F _ _ a q b B=>?_)
   ·split
    ·rw[List.pairwise_map]
     refine(jX n r.k).imp λ{a b} h=>?_
     show(if _=_ then HT.lexLt a b else _)=true;rw[if_pos rfl];exact h
    ·exact YE
   ·split at q
    ·split at B
     ·obtain⟨u,_,rfl⟩:=List.mem_map.mp q
      obtain⟨v,_,rfl⟩:=List.mem_map.mp B;show(if _=_ then HT.lexLt u v else _)=true;rw[if_neg (by lia)];exact decide_eq_true (by lia)
     ·cases B
    ·cases q
theorem iY:∀a:List Int,HT.lexLt a a=false
 | []=>rfl
 | x::a=>by show(if x=x then HT.lexLt a a else _)=false;rw[if_pos rfl];exact iY a
theorem iG{q:Type}{h:Nat->Ro->List q}{B:Nat}:∀ {rs:List Ro} {m:Nat},(∀i r,rs[i]?=some r->(h (m+i) r).length<=B)->(fl h m rs).length<=rs.length*B
 | [],m,_=>by simp[fl]
 | r::rs,m,hb=>by
  unfold fl;rw[VB,UK,Nat.succ_mul];have h1:=hb 0 r rfl;have h2:=iG (h:=h) (B:=B) (rs:=rs) (m:=m+1) λi F e=>by
   have:=hb (i+1) F (by simpa using e);rw[show m+1+i=m+(i+1) by lia];exact this
  simp only[Nat.add_zero]at h1
  lia
theorem lZ{M many:Int}{rs:List Ro}(g:GR M many rs){k:Int}:∀(n:Nat) (x:Int) (d:Nat),k-x<=(d:Int)->(c5 rs k n x).length<=12^d
 | 0,x,d,_=>UZ _
 | n+1,x,d,hd=>by
  unfold c5;split
  ·exact Nat.one_le_pow _ _ (by decide)
  ·by_cases F:x<k
   ·obtain⟨e,rfl⟩:∃e,d=e+1:=⟨d-1,by lia⟩
    refine UV (iG (B:=12^e) λi r er=>?_) ?_
    ·split
     ·rename_i hc
      rw[T2];have q:=g.jk r (UJ er);exact lZ g n r.k e (by lia)
     ·exact UZ _
    ·rw[Nat.pow_succ,Nat.mul_comm]
     exact Nat.mul_le_mul_left _ g.len
   ·refine UV (iG (B:=0) λi r er=>?_) (by simp)
    split
    ·rename_i hc
     have q:=g.jk r (UJ er)
     lia
    ·exact UZ _
end P
namespace P
open PySem PySem.Spec PyProof.Rows L2
theorem cU(h0:0<=y)(h:y<=1000000):dX [.int y]=some (aU 0 1 y.toNat):=by
 show(if b6 y then _ else _)=_;rw[if_pos (by simp only[b6,UR,decide_eq_true_eq];lia)]
theorem AI(h:v.length+w.length<=1000000):b5 (tupI v) (tupI w)=some (tupI (v++w)):=by
 unfold tupI;rw[q_addAT,if_pos (by simp only[aV,T2];exact decide_eq_true h),VX]
noncomputable def aT(r:Ro):D:=.tup [.int r.j,.int r.k,.int r.a,.int r.b,.int r.p]
theorem qK(h:eG rs n=some r):c7 (rs.map aT) n=some (aT r):=by
 have q:=vF h;obtain⟨j,rfl⟩:∃j:Nat,n=(j:Int):=⟨n.toNat,by lia⟩;unfold eG at h;rw[if_pos (by lia)]at h;refine b7 ?_;rw[UA];simp at h;rw[h];rfl
theorem at0:c7 (a::l) 0=some a:=b7 (j:=0) rfl
theorem at1:c7 (a::b::l) 1=some b:=b7 (j:=1) rfl
theorem at2:c7 (a::b::c::l) 2=some c:=b7 (j:=2) rfl
theorem S3:c7 (a::b::c::d::l) 3=some d:=b7 (j:=3) rfl
theorem ML:aO (aT r) (.int 0)=some (.int r.j):=by simp[aT,at0]
theorem OV:aO (aT r) (.int 1)=some (.int r.k):=by simp[aT,at1]
noncomputable def M0(t:Int×Int):D:=.tup [.int t.1,.int t.2]
theorem N9:gR (aT r) (some 2) (some 4)=some (M0 (r.a,r.b)):=rfl
theorem kQ:∀(ws:List (List Int)) (o:Option D),(∀w∈ws,w.length<=1000)->bR (bX 0) D3 (bU b5 (gT (aK (aL 1) bO)) (aL 0)) (ws.map tupI) [o,some (.int t)]=some ((ws.map λw=>t::w).map tupI)
 | [],o,_=>rfl
 | w::ws,o,h=>by
  have ih:=kQ (t:=t) ws (some (tupI w)) λv B=>h v (UN _ B)
  have q:=AI (v:=[t]) (w:=w) (by have:=h w (UW ..);simp;lia);have F:D.tup [.int t]=tupI [t]:=rfl;simp only[List.singleton_append]at q;simp[-VM,bR,F,q,ih]
theorem cP(h1:-1000<=a)(h2:a<=1000)(q:-1000<=b)(B:b<=1000000):b8 [.int a,.int b]=some (aU a 1 (b-a).toNat):=by
 show(if(b6 a && b6 b)=true then _ else _)=_;rw[if_pos (by simp only[b6,UR,decide_eq_true_eq];lia)]
end P
namespace My
open PySem PySem.Spec PyProof.Rows L2
noncomputable def O7(a:Bool):String:=if a=true then "str_ascii_iterator" else "str_iterator"
noncomputable def R3(x:Str):It:=⟨λi H=>i<x.cps.size,λi H y H'=>H'=H/\∃c,x.cps[i]?=some c/\y=.str ⟨#[c]⟩,λi H=>x.cps.size<=i⟩
theorem BG{P:TN}{w:World}{K:TK}{tg:Expr}(a:Bool)(x:Str)(t:Tok)(it:Addr):Turn P w K tg (R3 x) [it] it (λi h=>h.IsStrIter it (O7 a) x t i) where
 mem:=by simp
 obj:=λi h st b q=>by
  have e:b=it:=by simpa using q
  subst e;obtain⟨o,e,c,d⟩:=st;exact⟨o,e,λv z=>by rw[d]at z;cases z⟩
 keep:=λi h h' st k=>let ⟨o,ho,r⟩:=st;⟨o,k it (by simp) o ho,r⟩
 item:=by
  intro X hP hw hK hc i pins s σ H E I U st W;subst hP hw hK;obtain⟨f0,N,f2,G,J,M⟩:=U it (by simp);have hi:i<x.cps.size:=W;have F:x.cps[i]?=some x.cps[i]:=by simp[hi]
  cases a with
  | true=>
   refine wpAny_pyNext_ascii_item st F λh' B Y=>?_
   have I1:Inv X pins σ H {s with heap:=h',toks:=s.toks+1}:=I.turned (t':=s.toks+1) (λb o q e=>(Y.2 b q).trans e) f0 N G J M;obtain⟨o,e,c,d⟩:=id B;exact⟨_,rfl,oR (s:={s with heap:=h',toks:=s.toks+1}) e c d (by decide) ⟨.str ⟨#[x.cps[i]]⟩,H,I1,⟨_,rfl⟩,⟨rfl,_,F,rfl⟩,B,λb q=>(U b q).1⟩⟩
  | false=>
   refine wpAny_pyNext_wide_item st F λh' B Y=>?_
   have I1:Inv X pins σ H {s with heap:=h',toks:=s.toks+1}:=I.turned (t':=s.toks+1) (λb o q e=>(Y.2 b q).trans e) f0 N G J M;obtain⟨o,e,c,d⟩:=id B;exact⟨_,rfl,oR (s:={s with heap:=h',toks:=s.toks+1}) e c d (by decide) ⟨.str ⟨#[x.cps[i]]⟩,H,I1,⟨_,rfl⟩,⟨rfl,_,F,rfl⟩,B,λb q=>(U b q).1⟩⟩
 done:=by
  intro X hP hw hK hc i pins s σ H E I U st W;subst hP hw hK;obtain⟨f0,N,f2,G,J,M⟩:=U it (by simp);have hi:x.cps.size<=i:=W;have F:x.cps[i]?=none:=by simp[hi]
  cases a with
  | true=>exact wpAny_pyNext_ascii_end (I.ok.hd hc) st F λh' eb=>⟨rfl,I.turned (t':=s.toks) (λb o q e=>eb b o q e) f0 N G J M⟩
  | false=>exact wpAny_pyNext_wide_end (I.ok.hd hc) st F λh' eb=>⟨rfl,I.turned (t':=s.toks) (λb o q e=>eb b o q e) f0 N G J M⟩
 self:=λ_ _ _ _ _ st h=>by
  cases a with
  | true=>exact wpAny_pyIter_striter_ascii st h
  | false=>exact wpAny_pyIter_striter_wide st h
def QI(tl:TE):TI:=λσ H R=>tl σ H λx H1=>∃y,x=.str y/\R (R3 y) H1
section
variable {X:Cx}{tg:Expr}
theorem JW{l:Expr}{tl:TE}(G:PE X l tl):PI X tg l (QI tl):=by
 intro pins s σ H R I h;refine bE (G pins s σ H _ I h) λv B ⟨x,H1,F,M,N⟩=>?_
 obtain⟨y,rfl,q⟩:=N;obtain⟨t,rfl⟩:=M;have fin:∀a:Bool,PIE X pins σ tg R (.ref B.heap.objs.size) {B with heap:=B.heap.push {cls:=.type (O7 a),data:=.fields #[.str y t,.int 0 0]} }:=λa=>by
  refine⟨B.heap.objs.size,[B.heap.objs.size],_,_,H1,rfl,F.kept (t':=B.toks) λb o e=>T4 _ e,BG a y t _,⟨_,UC _ rfl,rfl,rfl⟩,λb J=>?_,q⟩;have e:b=B.heap.objs.size:=by simpa using J
  subst e;exact F.fpOk (T5 _) (F.hok.fresh (T5 _))
 cases ha:y.cps.all (·<128)
 ·exact wpAny_pyIter_wide ha (fin false)
 ·exact wpAny_pyIter_ascii ha (fin true)
theorem x8:OpR X (TY .LtE) (λx y H Q=>∃i j,x=.str i/\y=.str j/\Q (.bl (!decide (j.cps.toList<i.cps.toList))) H):=by
 intro pins s σ H x y v u Q I B F h;obtain⟨i,j,rfl,rfl,q⟩:=h;obtain⟨t,rfl⟩:=B;obtain⟨t',rfl⟩:=F;exact PySem.P.le_str ⟨.bl _,H,I,rfl,q⟩
theorem JK{bs:List Bool}{q:List Value}(r:Vals (bs.map V.bl) q):TruthOf P w A (λi v=>q.toArray[i]?=some v) (λi=>(bs[i]?).getD false):=by
 intro i v s Q E B F;have B:q[i]?=some v:=by simpa using B
 have G:=r.length;rw[T2]at G;have hi:i<bs.length:=by rw[G];exact(List.getElem?_eq_some_iff.mp B).1
 have e:(bs.map V.bl)[i]?=some (.bl bs[i]):=by simp[hi]
 obtain⟨u,J,M⟩:=r.get e;rw[B]at J;cases J;cases M;have:(bs[i]?).getD false=bs[i]:=by simp[hi]
 dsimp only at F;rw[this]at F;exact VR F
theorem range_all(bs:List Bool):(UU bs.length).all (λi=>(bs[i]?).getD false)=bs.all id:=by
 rw[X5,YF,YF];constructor
 ·intro h b q
  obtain⟨i,hi,rfl⟩:=List.getElem_of_mem q;have:=h i (List.mem_range.mpr hi);simpa[hi]using this
 ·intro h i hi
  have hi:=List.mem_range.mp hi;simpa[hi]using h bs[i] (zaE hi)
theorem zN(hc:X.calm=true):CallR X (.builtin "all") (λxs H Q=>∃(p:Addr) (bs:List Bool),xs=[.ref p]/\SqL X.K H p (bs.map V.bl)/\Q (.bl (bs.all id)) H):=by
 intro pins s σ H xs us Q I r h;obtain⟨p,bs,rfl,hq,q⟩:=h;obtain⟨u,rfl,rx⟩:=vals1 r;cases rx;obtain⟨F,M,pl,hz⟩:=I.list hq;have G:s.heap.IsList p F.toArray:=pl.isList;obtain⟨o,W,N,n,hd⟩:=id G;have J:p≠s.heap.objs.size:=UE (TX W);refine call_all_walk (wpAny_pyIter_list G ?_);refine⟨s.heap.objs.size,_,_,_,_,_,_,rfl,Walks.list (prog:=X.prog) (w:=X.w) (A:=X.A.in1) (I.ok.hd hc) s.heap.objs.size p J F.toArray,⟨⟨_,UC _ rfl,rfl,rfl⟩,G.at λo e=>T4 _ e⟩,JK M,λh' tk Y=>?_⟩;have U:∀b o,s.heap.get? b=some o->h'.get? b=some o:=λb o e=>Y b o (λhb=>absurd (TX e) ((List.mem_singleton.mp hb) ▸ VN _)) (T4 _ e)
 have B:=M.length;rw[T2]at B;refine⟨.bl (bs.all id),H,I.kept (t':=tk) U,?_,q⟩;rw[T6,<- B,range_all];rfl
theorem sL:∀ {ss:List Str} {its:List Value},Vals (ss.map V.str) its->StrsAre its ss
 | [],_,.nil=>.nil
 | x::ss,_,.cons r t=>by
  obtain⟨k,rfl⟩:=r;exact .cons x k (sL t)
def rJoin(K:TK):V->List V->Hp->VK->Prop:=λx vs H Q=>∃(sep:Str) (p:Addr) (ss:List Str),x=.str sep/\vs=[.ref p]/\SqL K H p (ss.map V.str)/\(ss.map (·.length)).sum+ss.length*sep.length<=16777216/\Q (.str (Txt.join sep ss)) H
theorem G6:QC X "str.join" (rJoin X.K):=by
 intro pins s σ H x vs v W Q I M F h;obtain⟨sep,p,ss,rfl,rfl,U,hz,q⟩:=h;obtain⟨t,rfl⟩:=M;obtain⟨u,rfl,J⟩:=F.one;cases J;obtain⟨B,N,G,_⟩:=I.list U;exact join_list (items:=B.toArray) G.isList (by simpa using sL N) hz λt' k=>⟨.str (Txt.join sep ss),H,I.kept (t':=k) λ_ _ e=>e,⟨_,rfl⟩,q⟩
end
end My
namespace P
open PySem PySem.Spec PyProof.Rows L2
section
variable {X:Cx}{O O':List Nat}{L:Lp}
noncomputable def DU:List D->Option (List Bool)
 | []=>some []
 | .bl b::l=>(DU l).map (b::·)
 | _=>none
theorem rX:∀ {ds:List D} {ns:List Bool} {vs:List V},DU ds=some ns->RepL A H ds vs->vs=ns.map V.bl
 | [],_,_,e,.nil=>by cases e;rfl
 | d::ds,ns,_,e,.cons h t=>by
  cases d with
  | bl b=>
   obtain⟨m,q,rfl⟩:=map_some e;cases RepB.bl_inv (.of h);rw[rX q t];rfl
  | _=>cases e
theorem rP:∀bs:List Bool,DU (bs.map .bl)=some bs
 | []=>rfl
 | b::bs=>by rw[T1,DU,rP bs];rfl
def zX:List D->Option D
 | [.lst l]=>(DU l).map λbs=>.bl (bs.all id)
 | _=>none
theorem C1(B:X.calm=true):e9 X (.builtin "all") zX:=CallR.mono (My.zN B) <| by
 rintro xs H Q ⟨A,ds,d,M,r,e,q⟩;unfold zX at e;split at e
 ·obtain⟨bs,J,rfl⟩:=map_some e
  obtain⟨v,rfl,G⟩:=r.one;obtain⟨a,N,rfl,h1,F⟩:=G.lst_inv;rw[rX J F]at h1;exact⟨a,bs,rfl,.inl h1,q _ H (Ext.refl _ _) (.bl _)⟩
 ·cases e
@[simp] theorem q_all{bs:List Bool}:zX [.lst (bs.map .bl)]=some (.bl (bs.all id)):=by unfold zX;simp only[rP];rfl
noncomputable def DY:List D->Option (List Str)
 | []=>some []
 | .str b::l=>(DY l).map (b::·)
 | _=>none
theorem rO:∀ {ds:List D} {ns:List Str} {vs:List V},DY ds=some ns->RepL A H ds vs->vs=ns.map V.str
 | [],_,_,e,.nil=>by cases e;rfl
 | d::ds,ns,_,e,.cons h t=>by
  cases d with
  | str b=>
   obtain⟨m,q,rfl⟩:=map_some e;cases RepB.str_inv (.of h);rw[rO q t];rfl
  | _=>cases e
theorem oB:∀bs:List Str,DY (bs.map .str)=some bs
 | []=>rfl
 | b::bs=>by rw[T1,DY,oB bs];rfl
def oV:D->D->Option D
 | .str sep,.lst l=>(DY l).bind λss=>if(ss.map (·.length)).sum+ss.length*sep.length<=16777216 then some (.str (Txt.join sep ss))else none
 | _,_=>none
theorem F1(N:PB X O o fo)(M:PB X O e fe)(G:∀ {to:TE} {t:TA},PE X o to->PA X [e] t->PE X (.Call (.Attribute o "join" apos) [e] [] cpos) (QB X.K "str" (My.rJoin X.K) to t))(hs:TL [e] X.env=(false,eval e X.env)::TL [] X.env:=by rfl):PD X O (.Call (.Attribute o "join" apos) [e] [] cpos) (bU oV fo fe):=
 PE.mono (G N (sC M wH hs)) <| by
  rintro σ H Q ⟨H0,A0,A,E,ρ,d,st,e,q⟩;obtain⟨x,ex,e⟩:=bind_some e;obtain⟨y,Y,e⟩:=bind_some e;refine⟨H0,A0,A,E,ρ,x,st,ex,λv H1 F U=>?_⟩;unfold oV at e;split at e
  ·rename_i sep l _
   obtain⟨ss,es,e⟩:=bind_some e;by_cases hz:(ss.map (·.length)).sum+ss.length*sep.length<=16777216
   ·rw[if_pos hz]at e
    cases e;cases U.str_inv;refine⟨rfl,H0,A0,A,E,ρ,[.lst l],st.mono F,by unfold aK bO;rw[Y];rfl,λvs H2 J r2=>?_⟩;obtain⟨w,rfl,B⟩:=r2.one;obtain⟨p,us,rfl,h1,W⟩:=B.lst_inv;rw[rO es W]at h1;exact⟨sep,p,ss,rfl,rfl,.inl h1,hz,q _ H2 (F.trans J) (.str _)⟩
   ·rw[if_neg hz]at e;cases e
  ·cases e
theorem JR(h:(ss.map (·.length)).sum+ss.length*sep.length<=16777216):oV (.str sep) (.lst (ss.map .str))=some (.str (Txt.join sep ss)):=by
 unfold oV;simp only[oB,ZX];rw[if_pos h]
noncomputable def tT:D->D->Option D
 | .int i,.int j=>some (.bl (decide (i<=j)))
 | .str i,.str j=>some (.bl (!decide (j.cps.toList<i.cps.toList)))
 | _,_=>none
theorem L6:dR X (TY .LtE) tT:=OpR.mono (OpR.or ND My.x8) <| by
 rintro x y H Q ⟨A,dx,J,d,G,B,F,e,q⟩;unfold tT at e;split at e
 ·cases e
  cases B.int_inv;cases F.int_inv;exact .inl ⟨_,_,rfl,rfl,q _ H (Ext.refl _ _) (.bl _)⟩
 ·cases e
  cases B.str_inv;cases F.str_inv;exact .inr ⟨_,_,rfl,rfl,q _ H (Ext.refl _ _) (.bl _)⟩
 ·cases e
@[simp] theorem q_leAI:tT (.int i) (.int j)=some (.bl (decide (i<=j))):=rfl
@[simp] theorem q_leAS:tT (.str i) (.str j)=some (.bl (!decide (j.cps.toList<i.cps.toList))):=rfl
def HG(x y:D):Option D:=match x,y with
 | .str i,.str j=>some (.bl (!(Builtin.Str.occurrences j i 0 j.length 1).isEmpty))
 | x,y=>P8 x y
theorem MB(G:X.A.units+64<cLine):dR X (TY .In) HG:=OpR.mono (OpR.or (NN G) zK) <| by
 rintro x y H Q ⟨A,dx,M,d,J,F,B,e,q⟩;unfold HG at e;split at e
 ·cases e
  cases F.str_inv;cases B.str_inv;exact .inr ⟨_,_,rfl,rfl,q _ H (Ext.refl _ _) (.bl _)⟩
 ·exact .inl ⟨A,_,_,d,J,F,B,e,q⟩
noncomputable def signs(x:Str):List D:=x.cps.toList.map λc=>.str ⟨#[c]⟩
theorem JG:zW (My.R3 x) [] (signs x):=by
 intro A H N U i;have B:(signs x).length=x.cps.size:=by simp[signs]
 refine⟨λhi=>by rw[B]at hi;exact hi,λd q=>?_⟩;have hi:i<x.cps.size:=by rw[<- B];exact(List.getElem?_eq_some_iff.mp q).1
 refine⟨hi,λy H' ⟨e,c,F,J⟩=>?_⟩;subst e J;have:d=.str ⟨#[c]⟩:=by
  unfold signs at q;rw[UA]at q;obtain⟨G,M,rfl⟩:=map_some q;have:x.cps[i]?=some G:=by rw[<- YN];exact M
  rw[F]at this;cases this;rfl
 subst this;exact⟨Ext.refl _ _,.str _⟩
def tJ(f:Ev):Lv:=λρ=>(f ρ).bind λd=>match d with
 | .lst l=>some l
 | .tup l=>some l
 | .dT l=>some (l.map λp=>.tup (p.1.map z9))
 | .str x=>some (signs x)
 | _=>none
@[simp] theorem q_lSeqA:tJ f ρ=(f ρ).bind λd=>match d with
 | .lst l=>some l
 | .tup l=>some l
 | .dT l=>some (l.map λp=>.tup (p.1.map z9))
 | .str x=>some (signs x)
 | _=>none:=rfl
theorem B0(h:PD X O e f):PDI X O tg e (tJ f):=PI.mono (PI.or (EE h) (My.JW h)) <| by
 rintro σ H R ⟨H0,A0,A,E,ρ,items,st,e,q⟩;obtain⟨d,B,e⟩:=bind_some e;cases d with
 | str x=>
  cases e;refine .inr ⟨H0,A0,A,E,ρ,_,st,B,λv H1 J G=>?_⟩;cases RepB.str_inv (.of G);exact⟨x,rfl,q _ H1 [] J (λp F=>nomatch F) JG⟩
 | lst l=>exact .inl ⟨H0,A0,A,E,ρ,items,st,by unfold DV;rw[B];exact e,q⟩
 | tup l=>exact .inl ⟨H0,A0,A,E,ρ,items,st,by unfold DV;rw[B];exact e,q⟩
 | dT l=>exact .inl ⟨H0,A0,A,E,ρ,items,st,by unfold DV;rw[B];exact e,q⟩
 | _=>cases e
end
structure GTup(K:TK)(mg:Str->Option Value)(x:Str)(ss:List Str):Prop where
 ex:∃a,mg x=some (.ref a)/\∃(o:Obj) (its:Array Value) (n:Nat),K.lookup a=some o/\o.cls=.type "tuple" /\ o.data=.seq its n/\its.size<=TQ/\Vals (ss.map V.str) its.toList
structure GInt(mg:Str->Option Value)(x:Str)(i:Int):Prop where
 ex:∃t,mg x=some (.int i t)
section
variable {X:Cx}{O:List Nat}
theorem iR(g:GInt X.mg x i)(F:Gl X x)(B:(x == ("__debug__" : Str))=false:=by decide):PD X O (.Name x p) (eC (.int i)):=by
 obtain⟨t,e⟩:=g.ex;exact PE.mono (v8 (v:=.int i) F e ⟨t,rfl⟩ B) λσ H Q ⟨H0,A0,A,E,ρ,d,st,e,q⟩=>by cases e;exact q _ H (Ext.refl _ _) (.int _)
noncomputable def HB(neg:Bool)(ss:List Str):D->Option D
 | .str s=>some (.bl (if neg then !ss.contains s else ss.contains s))
 | _=>none
theorem sQ(s:Str):∀ss:List Str,inV (.str s) (ss.map V.str)=ss.contains s
 | []=>rfl
 | y::ss=>by
  have ih:=sQ s ss;unfold inV at ih ⊢;rw[T1,VQ,ih,List.contains_cons];congr 1;show decide (y=s)=(s == y);by_cases h:y=s
  ·subst h;simp
  ·have:¬ s=y:=λz=>h z.symm
   simp[h,this]
theorem oA:∀ss:List Str,(ss.map V.str).all iU=true
 | []=>rfl
 | y::ss=>by rw[T1,XF,oA ss];rfl
theorem EF{neg:Bool}{ss:List Str}{f:Ev}{a:Addr}{K:TK}(B:∃(o:Obj) (its:Array Value) (n:Nat),K.lookup a=some o/\o.cls=.type "tuple" /\ o.data=.seq its n/\its.size<=TQ/\Vals (ss.map V.str) its.toList){σ:L2.St}{H:Hp}{Q:VK}(h:tD Rep O (oX (HB neg ss) f) σ H Q):M7 (SG K neg) (tD RepB O f) (tC (.ref a)) σ H Q:=by
 obtain⟨H0,A0,A,E,ρ,d,st,e,q⟩:=h;obtain⟨x,ex,e⟩:=bind_some e;refine⟨H0,A0,A,E,ρ,x,st,ex,λv H1 G F=>?_⟩;cases x with
 | str s=>
  cases e;cases F.str_inv;refine⟨a,ss.map V.str,rfl,.inr (.inr B),rfl,oA ss,?_⟩;rw[sQ];exact q _ H1 G (.bl _)
 | _=>cases e
theorem ER(g:GTup X.K X.mg x ss)(B:Gl X x)(G:PB X O e f)(q:(x == ("__debug__" : Str))=false:=by decide)(J:WS .In (.Name x p)=false:=by rfl):kB X O (.Compare e [.In] [.Name x p] pos) (mS (oX (HB false ss) f)):=by
 obtain⟨a,M,F⟩:=g.ex;exact PT.mono (wC yH G (v8 (v:=.ref a) B M rfl q) J) λσ H Q h=>EF F (eW h)
end
@[simp] theorem q_inG:HB neg ss (.str s)=some (.bl (if neg then !ss.contains s else ss.contains s)):=rfl
@[simp] theorem q_eqS:vV (.str a) (.str b)=some (.bl (decide (a=b))):=by
 unfold vV AD;rw[if_pos (.inl rfl)];by_cases h:a=b
 ·subst h;simp
 ·have h2:¬ D.str a=D.str b:=λz=>h (by injection z)
  simp[h]
@[simp] theorem q_neS:xW (.str a) (.str b)=some (.bl (!decide (a=b))):=by
 unfold xW AD;rw[if_pos (.inl rfl)];by_cases h:a=b
 ·subst h;simp
 ·have h2:¬ D.str a=D.str b:=λz=>h (by injection z)
  simp[h]
theorem pP{f rest:Sv}{ρ:bK}{R:D->Prop}(W:bK->Prop)(h:∃ρ',f ρ=some (.nx ρ')/\W ρ')(k:∀ρ',W ρ'->∃d,rest ρ'=some (.rt d)/\R d):∃d,bT f rest ρ=some (.rt d)/\R d:=by
 obtain⟨ρ',e,w⟩:=h;rw[aD e];exact k ρ' w
theorem J3(h0:0<=k)(h:k<(l.length:Int)):AA (.lst l) (.int k) e=some (.lst (l.set k.toNat e)):=by
 show(AC l.length k).map _=_;unfold AC;rw[if_pos h0,if_pos h];rfl
theorem at_of(h0:0<=k)(h:l[k.toNat]?=some d):c7 l k=some d:=by
 obtain⟨j,rfl⟩:∃j:Nat,k=(j:Int):=⟨k.toNat,by lia⟩;exact b7 (by simpa using h)
theorem DK(h0:0<=k)(h:k<(l.length:Int)):∃d,d∈l/\l[k.toNat]?=some d/\c7 l k=some d:=by
 have q:k.toNat<l.length:=by lia
 have e:l[k.toNat]?=some l[k.toNat]:=U8 q;exact⟨l[k.toNat],zaE q,e,at_of h0 e⟩
theorem wV(I:Nat->bK->Prop)(J:bK->Prop)(h:∀n ρ,I n ρ->(c ρ=some true/\∃m ρ',m<n/\b ρ=some (.nx ρ')/\I m ρ')\/(c ρ=some false/\J ρ)):∀(fuel n:Nat) (ρ:bK),n<fuel->I n ρ->∃ρ',eY c b fuel ρ=some (.nx ρ')/\J ρ'
 | 0,n,ρ,hn,_=>absurd hn (Nat.not_lt_zero n)
 | fuel+1,n,ρ,hn,hi=>by
  rcases h n ρ hi with⟨B,m,ρ',M,G,F⟩|⟨B,q⟩
  ·obtain⟨ρ2,e,q⟩:=wV I J h fuel m ρ' (by lia) F
   refine⟨ρ2,?_,q⟩;unfold eY;rw[B,aA,if_pos rfl,G,aA];exact e
  ·refine⟨ρ,?_,q⟩
   unfold eY;rw[B,aA,if_neg T3]
theorem zL{c:Bv}{b rest:Sv}{ρ:bK}{R:D->Prop}(I:Nat->bK->Prop)(J:bK->Prop)(n:Nat)(q:n<100000)(h0:I n ρ)(h:∀n ρ,I n ρ->(c ρ=some true/\∃m ρ',m<n/\b ρ=some (.nx ρ')/\I m ρ')\/(c ρ=some false/\J ρ))(k:∀ρ',J ρ'->∃d,rest ρ'=some (.rt d)/\R d):∃d,bT (qD c b) rest ρ=some (.rt d)/\R d:=by
 obtain⟨ρ',e,B⟩:=wV I J h 100000 n ρ q h0;have F:qD c b ρ=some (.nx ρ'):=e;rw[aD F];exact k ρ' B
theorem PD.pe(h:PD X O e f):PE X e (tD Rep O f):=h
noncomputable def isStar:Expr->Bool
 | .Starred ..=>true
 | _=>false
theorem cE(h:isStar e=false):TL (e::es) env=(false,eval e env)::TL es env:=by
 cases e <;> first|rfl|cases h
theorem iS:∀ {es:List Expr},(es.all λe=>!isStar e)=true->(UD pos (TL es env)).any (·.1)=false
 | [],_=>by simp[TL,UD]
 | e::es,h=>by
  rw[XF,UR]at h;have q:isStar e=false:=by cases z:isStar e;rfl;rw[z]at h;exact absurd h.1 (by decide)
  have ih:=iS (pos:=pos) (env:=env) (es:=es) h.2;rw[cE q];simp only[UD,T1,VQ,Bool.false_or]at ih ⊢;exact ih
end P
namespace My
open PySem PySem.Spec PyProof.Rows L2 PySem.SeqAt
noncomputable def MX(val:Nat->Int):Nat->Nat->Int->Int
 | 0,_,m=>m
 | k+1,j,m=>MX val k (j+1) (if val j>m then val j else m)
section
variable {prog:TN}{w:World}{A:TZ}{R:Result->TH->Prop}{I S:Addr}{fp wr:List Addr}{n:Nat}{P:Nat->Value->Prop}{St:Nat->Heap->Prop}{kw:List (Str×Value)}
theorem i7(W:Walks prog w A.in1 I fp wr n P St)(val:Nat->Int)(hv:∀j v,P j v->∃t,v=.int (val j) t)(U:S∉fp):∀(k j:Nat) (s:TH) (m:Int) (t:Tok) (c:Nat),n-j=k->j<=n->St j s.heap->
  s.heap.get? S=some {cls:=.type "list",dict:=none,data:=.seq #[.int m t,.int m t] c,slots:=#[]}->
  (∀t' h' tk,(∀b o,b∉wr->b≠S->s.heap.get? b=some o->h'.get? b=some o)->R (.ok (.ret (.int (MX val k j m) t'))) {s with heap:=h',toks:=tk})->
  VU (model prog w) A (.builtin "max.loop" ⟨[.ref I,.none,.ref S],kw⟩) R s
 | k,j,s,m,t,c,hk,hj,st,gS,fin=>by
  have nw:S∉wr:=λz=>U (W.sub _ z)
  have nm:(XZ "max" ++ XZ ".loop" : String) = "max.loop" := by decide
  refine XT PySem.F.entry_max_loop ?_;rw[XU X0 _];show wpAny _ A.in1 (seqItems? (.ref S) >>= λ_=>_) _ _ s;refine TF (ZV gS rfl ?_);show wpAny _ A.in1 (tryCatch (U3 (.ref I)) _ >>= λ_=>_) _ _ s
  match k,hk,fin with
  | 0,hk,fin=>
   have e:j=n:=by lia
   refine TF (Z2 (W.done s _ _ (e ▸ st) λh1 tk same=>?_));have G:=same S _ nw gS;show wpAny _ A.in1 (YM S (λ_=>#[]) >>= λ_=>_) _ _ _;refine TF (XW G rfl (TF (XS (TJ ?_))));exact fin t _ tk λb o nb B M=>(WE _ _ (UH B)).trans (same b o nb M)
  | k+1,hk,fin=>
   have lt:j<n:=by lia
   refine TF (Z2 (W.item j s _ _ lt st λv h1 tk pv N same=>?_));have G:=same S _ nw gS;obtain⟨u,rfl⟩:=hv j v pv;show wpAny _ A.in1 (tryCatch (WR [.int (val j) u,.int (val j) u] (Y2 .Gt (.int (val j) u) (.int m t) >>= λ_=>_)) _ >>= λ_=>_) _ _ _;refine TF (Z2 (VG (TF ?_)));refine richCompare_gives (op:=.Gt) (YC _ _ u) (YC _ _ t) PySem.F.slot_int_gt PySem.F.entry_int_gt (PySem.F.args_int_gt_2 _ _) (gives_int_gt _ _ u t) (λz=>nomatch z) ?_;refine TF (VG (VR ?_));refine TF (XS (TJ ?_));by_cases Y:val j>m
   ·rw[decide_eq_true Y]
    simp only[if_true];refine TF (XW G rfl (TF (XS ?_)));rw[nm];refine TJ ⟨WW X0 _,i7 W val hv U k (j+1) _ (val j) u _ (by lia) lt (W.frame _ _ _ N λb bf o M=>?_) (WM _ G rfl) λt' h2 J q=>?_⟩
    ·exact(WE _ _ (λz:S=b=>U (z ▸ bf))).trans M
    ·have:=fin t' h2 J λb o nb B M=>q b o nb B ((WE _ _ (UH B)).trans (same b o nb M))
     rw[MX,if_pos Y]at this;exact this
   ·rw[decide_eq_false Y]
    simp only[WO,if_false];refine TF (XS ?_);rw[nm];refine TJ ⟨WW X0 _,i7 W val hv U k (j+1) _ m t c (by lia) lt N G λt' h2 J q=>?_⟩;have:=fin t' h2 J λb o nb B M=>q b o nb B (same b o nb M)
    rw[MX,if_neg Y]at this;exact this
end
noncomputable def z4(d:Int):List Int->Int
 | []=>d
 | x::xs=>xs.foldl (λm y=>if y>m then y else m) x
theorem sT(ns:List Int):∀(k j:Nat) (m:Int),ns.length-j=k->MX (λi=>(ns[i]?).getD 0) k j m=(ns.drop j).foldl (λm y=>if y>m then y else m) m
 | 0,j,m,h=>by
  rw[List.drop_eq_nil_iff.mpr (by lia)];rfl
 | k+1,j,m,h=>by
  have q:j<ns.length:=by lia
  rw[MX,XY q,ZA,sT ns k (j+1) _ (by lia)];simp[q]
section
variable {X:Cx}
end
end My
namespace P
open PySem PySem.Spec PyProof.Rows L2
section
variable {X:Cx}{O:List Nat}
end
end P
namespace My
open PySem PySem.Spec PyProof.Rows L2 PySem.SeqAt
section
variable {prog:TN}{w:World}{A:TZ}{E:Value->TH->Prop}{s:TH}
end
section
variable {X:Cx}{pins:List (Addr×Obj)}{σ:L2.St}{H:Hp}{s:TH}{a:Addr}{y v:V}{u r:Value}{A:TZ}{E:Value->TH->Prop}
end
section
variable {X:Cx}{pins:List (Addr×Obj)}{σ:L2.St}{A:TZ}{R:Result->TH->Prop}{it d:Addr}{fp:List Addr}{n:Nat}{P:Nat->Value->Prop}{St:Nat->Heap->Prop}{H2:Hp}
end
section
variable {X:Cx}
end
section
variable {X:Cx}
end
end My
namespace P
open PySem PySem.Spec PyProof.Rows L2
section
variable {X:Cx}{A:Av}{H:Hp}
end
end P
namespace My
open PySem PySem.Spec PyProof.Rows L2 PySem.SeqAt
section
variable {X:Cx}
end
end My
namespace P
open PySem PySem.Spec PyProof.Rows L2
section
variable {X:Cx}{O:List Nat}
end
section
variable {X:Cx}{O:List Nat}{e:Expr}{es:List Expr}
theorem TB(q:PD X O e f)(B:tV X O es g)(hs:isStar e=false:=by rfl):tV X O (e::es) (aK f g):=BR q B (cE hs)
theorem RV(q:PB X O e f)(B:mR X O es g)(hs:isStar e=false:=by rfl):mR X O (e::es) (aK f g):=sC q B (cE hs)
theorem lc(h:Len g n):Len (aK f g) (n+1):=BP h
theorem l0:Len bO 0:=FZ
variable {x:Str}{id T:String}{g:List D->Option D}{f:Lv}{p pos:Pos}
theorem cB(J:e9 X (.builtin id) g)(M:X.mg x=none)(N:UM x=some (.builtin id))(G:mR X O (e::es) f)(F:Gl X x:=by rfl)(U:x ≠ "__name__" := by decide)(q:(x == ("__debug__" : Str))=false:=by decide)(hs:isStar e=false:=by rfl)(B:(es.all λe=>!isStar e)=true:=by rfl) :
  PD X O (.Call (.Name x p) (e::es) [] pos) (aW g f):=AR J F M N G U q (cE hs) (iS B)
theorem RU(J:e9 X (.type T) g)(M:X.mg x=none)(N:UM x=some (.type T))(G:mR X O (e::es) f)(F:Gl X x:=by rfl)(U:x ≠ "__name__" := by decide)(q:(x == ("__debug__" : Str))=false:=by decide)(hs:isStar e=false:=by rfl)(B:(es.all λe=>!isStar e)=true:=by rfl) :
  PD X O (.Call (.Name x p) (e::es) [] pos) (aW g f):=yU J F M N G U q (cE hs) (iS B)
theorem S2(J:DL X (.type T) g)(M:X.mg x=none)(N:UM x=some (.type T))(G:mR X O (e::es) f)(F:Gl X x:=by rfl)(U:x ≠ "__name__" := by decide)(q:(x == ("__debug__" : Str))=false:=by decide)(hs:isStar e=false:=by rfl)(B:(es.all λe=>!isStar e)=true:=by rfl) :
  PF X O (.Call (.Name x p) (e::es) [] pos) (aW g f):=zR J F M N G U q (cE hs) (iS B)
theorem cD(O':Fn X.prog X.w X.K X.mg X.base x k ps F)(N:Room k X.A)(M:tV X O (e::es) f)(J:Len f ps.length)(G:Gl X x:=by rfl)(q:(x == ("__debug__" : Str))=false:=by decide)(hs:isStar e=false:=by rfl)(B:(es.all λe=>!isStar e)=true:=by rfl) :
  PD X O (.Call (.Name x p) (e::es) [] pos) (aW F f):=FE O' N G M J q (cE hs) (iS B)
theorem cn{L:Lp}{O1 O2 O3:List Nat}{st:Stmt}{q:List Stmt}{f g:Sv}(h:PSD X L O1 st f O2)(k:PSDs X L O2 q g O3):PSDs X L O1 (st::q) (bT f g) O3:=BO h k
end
def SU(P:TN)(w:World)(K:TK)(mg:Str->Option Value)(base:Heap)(N:List Str)(x:Str)(st:Stmt)(k:Nat)(b:Sv):Prop:=
 ∀(fa:Addr) (cdv:Value) (A:TZ) (outer:List Env) (s:TH) (H:Hp) (E:XK),Room k (A.deeper (U4 x (aF st) s.heap.objs.size fa cdv))->∃g,PSDs (iW tY P w K mg base N x (aF st) fa cdv A outer s H E).nox ⟨[],[]⟩ [] (bB st) g []/\g=b
end P
namespace My
open PySem PySem.Spec PyProof.Rows L2 PySem.SeqAt
theorem args_max1(a:Value):argsOk "max" ⟨[a],[]⟩:=by unfold argsOk;kernel_rfl
section
variable {prog:TN}{w:World}{A:TZ}{R:Result->TH->Prop}{I S:Addr}{fp wr:List Addr}{n:Nat}{P:Nat->Value->Prop}{St:Nat->Heap->Prop}
theorem uJ(W:Walks prog w A.in1 I fp wr n P St)(val:Nat->Int)(hv:∀j v,P j v->∃t,v=.int (val j) t)(M:S∉fp)(st:St 0 s.heap)
  (Y:s.heap.get? S=some {cls:=.type "list",dict:=none,data:=.seq #[] c,slots:=#[]}) (lt:0<n)
  (fin:∀t' h' tk,(∀b o,b∉wr->b≠S->s.heap.get? b=some o->h'.get? b=some o)->R (.ok (.ret (.int (MX val (n-1) 1 (val 0)) t'))) {s with heap:=h',toks:=tk}) :
  VU (model prog w) A (.builtin "max.loop" ⟨[.ref I,.none,.ref S],[]⟩) R s:=by
 have nw:S∉wr:=λz=>M (W.sub _ z)
 have nm:(XZ "max" ++ XZ ".loop" : String) = "max.loop" := by decide
 refine XT PySem.F.entry_max_loop ?_;rw[XU X0 _];show wpAny _ A.in1 (seqItems? (.ref S) >>= λ_=>_) _ _ s;refine TF (ZV Y rfl ?_);show wpAny _ A.in1 (tryCatch (U3 (.ref I)) _ >>= λ_=>_) _ _ s;refine TF (Z2 (W.item 0 s _ _ lt st λv h1 tk pv J same=>?_));have G:=same S _ nw Y;obtain⟨u,rfl⟩:=hv 0 v pv;show wpAny _ A.in1 (YM S (λ_=>#[.int (val 0) u,.int (val 0) u]) >>= λ_=>_) _ _ _;refine TF (XW G rfl ?_);rw[nm];refine TJ ⟨WW X0 _,i7 W val hv M (n-1) 1 _ (val 0) u _ rfl lt (W.frame _ _ _ J λb bf o U=>?_) (WM _ G rfl) λt' h2 N q=>?_⟩
 ·exact(WE _ _ (λz:S=b=>M (z ▸ bf))).trans U
 ·exact fin t' h2 N λb o nb B U=>q b o nb B ((WE _ _ (UH B)).trans (same b o nb U))
end
section
variable {X:Cx}
theorem uW(hc:X.calm=true)(I:Inv X pins σ H s)(hq:SqT X.K H p (ns.map V.int))(Y:ns≠[])(q:Q (.int (z4 0 ns)) H) :
  wpAny (model X.prog X.w) X.A (call (.builtin "max") [.ref p]) (EP X pins σ Q) X.xe s:=by
 have nm:(XZ "max" ++ XZ ".loop" : String) = "max.loop" := by decide
 obtain⟨B,r',pl,hz⟩:=I.tuple hq;have M:s.heap.IsTuple p B.toArray:=pl;obtain⟨o,U,ab,n,hd⟩:=id M;have N:p≠s.heap.objs.size:=UE (TX U);have W:=Walks.tuple (prog:=X.prog) (w:=X.w) (A:=X.A.in1) (I.ok.hd hc) s.heap.objs.size p N B.toArray;refine kmk_tree PySem.F.kind_max PySem.F.plain_max PySem.F.entry_max (args_max1 _) ?_;show wpAny _ X.A.in1 (zaR "max" ["key", "default"] 0 ⟨[],[]⟩ >>= λ_=>_) _ _ s;refine TF (ZL (show zaR "max" ["key", "default"] 0 ⟨[],[]⟩=pure [none,none]from rfl) ?_);refine TF (TJ (TF (X4 M (TF (wpAny_newList ?_ (UZ _))))));rw[nm];refine TJ ⟨WW X0 _,?_⟩;have G:=r'.length;rw[T2]at G;have sz:B.toArray.size=ns.length:=by rw[T6];exact G.symm
 have keep:∀h':Heap,(∀b o,b∉[s.heap.objs.size]->b≠(s.heap.push {cls:=.type "tuple_iterator",data:=.fields #[.ref p,.int 0 0]}).objs.size->((s.heap.push {cls:=.type "tuple_iterator",data:=.fields #[.ref p,.int 0 0]}).push (US "list" #[] 0)).get? b=some o->h'.get? b=some o)->∀b o,s.heap.get? b=some o->h'.get? b=some o:=λh' k b o e=>by
  have lt:=TX e;refine k b o (λz=>UE lt (List.mem_singleton.mp z)) ?_ (T4 _ (T4 _ e));rw[size_push'];exact UE (Nat.lt_succ_of_lt lt)
 have J:0<B.toArray.size:=by
  rw[sz];exact List.length_pos_iff.mpr Y
 refine uJ W (λi=>(ns[i]?).getD 0) (λi v hP=>AJ r' (by simpa using hP)) (S:=(s.heap.push {cls:=.type "tuple_iterator",data:=.fields #[.ref p,.int 0 0]}).objs.size) ?_ ?_ (UC _ rfl) J λt' h' tk same=>?_
 ·rw[size_push']
  intro z;rcases List.mem_cons.mp z with z|z
  ·exact UX (zaF _) z
  ·exact VN _ (XH (zaF _) ((List.mem_singleton.mp z) ▸ TX U))
 ·exact⟨⟨_,T4 _ (UC _ rfl),rfl,rfl⟩,M.at λo e=>T4 _ (T4 _ e)⟩
 ·refine⟨.int (z4 0 ns),H,I.kept (t':=tk) (keep h' same),⟨t',?_⟩,q⟩
  rw[sz];cases ns with
  | nil=>exact absurd rfl Y
  | cons x xs=>
   rw[sT (x::xs) _ 1 _ (by simp)];rfl
theorem LP(F:∀v s,¬ X.xe v s)(G:PSs X body t):PS X (.Try body (h₀::hs) [] [] pos) t:=λpins s σ H D I hw=>
 wpAny_Try_except (U7 (G pins s σ H D I hw) (λf B q=>by
  cases f with
  | next=>exact TJ q
  | _=>exact q) λv B z=>absurd z (F v B))
end
end My
namespace P
open PySem PySem.Spec PyProof.Rows L2
section
variable {X:Cx}{O O':List Nat}{L:Lp}
theorem GB(q:∀v s,¬ X.xe v s)(B:PSDs X L O body f O'):PSD X L O (.Try body (h₀::hs) [] [] pos) f O':=My.LP q B
def tN:List D->Option D
 | [.tup l]=>(bS l).bind λns=>if ns=[]then none else some (.int (My.z4 0 ns))
 | _=>none
theorem EK(B:X.calm=true):e9 X (.builtin "max") tN:=by
 intro pins s σ H xs U Q I r h;obtain⟨A,ds,d,N,F,e,q⟩:=h;unfold tN at e;split at e
 ·rename_i l
  obtain⟨ns,M,e⟩:=bind_some e;split at e
  ·cases e
  ·rename_i hn
   cases e;obtain⟨v,rfl,h1⟩:=F.one;obtain⟨a,ys,rfl,h2,G⟩:=h1.tup_inv;rw[bQ M G]at h2;obtain⟨u,rfl,J⟩:=vals1 r;cases J;exact My.uW B I (.inl (.inl h2)) hn (q _ H (Ext.refl _ _) (.int _))
 ·cases e
@[simp] theorem q_max1:tN [.tup (.int n::ns.map .int)]=some (.int (My.z4 0 (n::ns))):=by
 have e:bS (.int n::ns.map .int)=some (n::ns):=dC (n::ns);show(bS (.int n::ns.map .int)).bind _=_;rw[e];rfl
end
end P
namespace My
open PySem PySem.Spec PyProof.Rows L2
def xA(r W U:R2)(ta tb tc td:TE):TE:=λσ H Q=>ta σ H λx H1=>tb σ H1 λy H2=>r x y H2 λz F=>∃k,z=.bl k /\
 (if k=true then tc σ F λG N=>W y G N λJ B=>∃q,J=.bl q/\(if q=true then td σ B λu M=>U G u M Q else Q (.bl false) B)else Q (.bl false) F)
theorem y6(ho:OpR X (TY op) r)(F:OpR X (TY op') r')(J:OpR X (TY op3) q)(ha:PE X a ta)(hb:PE X b tb)(hc:PE X c tc)(hd:PE X d td)
  (hm:XA [op,op',op3] [b,c,d]=false:=by with_unfolding_all rfl):PT X (.Compare a [op,op',op3] [b,c,d] pos) (DM (xA r r' q ta tb tc td)):=by
 intro pins s σ H Q I h;refine isTrue_chain (bE (ha pins s σ H _ I h) λv s1 ⟨x,H1,I1,r1,q1⟩=>test_link (bE (hb pins s1 σ H1 _ I1 q1) λu s2 ⟨y,H2,I2,Y,q2⟩=>
  bE (ho pins s2 σ H2 x y v u _ I2 r1 Y q2) λd s3 ⟨z,N,I3,q,k,e,q3⟩=>?_)) hm
 subst e;cases q;refine VR ?_;cases k with
 | false=>
  obtain⟨k',G,B⟩:=q3;cases G;exact ite_ff ⟨N,I3,B⟩
 | true=>
  refine ite_tt (test_link (bE (hc pins s3 σ N _ I3 q3) λU s4 ⟨y',H4,I4,r4,q4⟩=>bE (F pins s4 σ H4 y y' u U _ I4 Y r4 q4) λd2 s5 ⟨z2,M,I5,r5,k2,e2,W⟩=>?_));subst e2;cases r5;refine VR ?_;cases k2 with
  | false=>
   obtain⟨k',G,B⟩:=W;cases G;exact ite_ff ⟨M,I5,B⟩
  | true=>
   refine ite_tt (test_last (bE (hd pins s5 σ M _ I5 W) λw2 s6 ⟨z',H6,I6,r6,q6⟩=>bE (J pins s6 σ H6 y' z' U w2 _ I6 r4 r6 q6) λd' s7 ⟨z3,H7,I7,r7,k3,e3,q7⟩=>?_));subst e3;cases r7;exact VR ⟨H7,I7,q7⟩
end My
namespace P
open PySem PySem.Spec PyProof.Rows L2
section
variable {X:Cx}{O:List Nat}
def iM(g g' G:D->D->Option D)(B q J fd:Ev):Ev:=λρ=>(B ρ).bind λx=>(q ρ).bind λy=>(g x y).bind λz=>(tX z).bind λb=>if b=true then(J ρ).bind λw=>(g' y w).bind λF=>(tX F).bind λM=>if M=true then(fd ρ).bind λu=>G w u else some (.bl false)else some (.bl false)
@[simp] theorem q_chain3:iM g g' g3 fa fb fc fd ρ=(fa ρ).bind λx=>(fb ρ).bind λy=>(g x y).bind λz=>(tX z).bind λb=>if b=true then(fc ρ).bind λw=>(g' y w).bind λq=>(tX q).bind λB=>if B=true then(fd ρ).bind λu=>g3 w u else some (.bl false)else some (.bl false):=rfl
theorem t5(h:tD Rep O (iM g g' g3 fa fb fc fd) σ H Q):My.xA (rD g) (rD g') (rD g3) (tD RepB O fa) (tD RepB O fb) (tD RepB O fc) (tD RepB O fd) σ H Q:=by
 obtain⟨H0,A0,A,E,ρ,d,st,e,q⟩:=h;obtain⟨x,ex,e⟩:=bind_some e;obtain⟨y,ey,e⟩:=bind_some e;obtain⟨z,ez,e⟩:=bind_some e;obtain⟨b,eb,e⟩:=bind_some e;rw[cW eb]at ez;refine⟨H0,A0,A,E,ρ,x,st,ex,λv H1 U r1=>⟨H0,A0,A,E,ρ,y,st.mono U,ey,λw H2 W r2=>⟨A,x,y,_,(st.mono (U.trans W)).live,r1.ext W,r2,ez,λz H3 x3 r3=>⟨b,RepB.bl_inv (.of r3),?_⟩⟩⟩⟩;have B:=(U.trans W).trans x3;cases b with
 | false=>rw[if_neg T3]at e ⊢;cases e;exact q _ H3 B (.bl _)
 | true=>
  rw[if_pos rfl]at e ⊢;obtain⟨u,eu,e⟩:=bind_some e;obtain⟨z2,G,e⟩:=bind_some e;obtain⟨Y,M,e⟩:=bind_some e;rw[cW M]at G;refine⟨H0,A0,A,E,ρ,u,st.mono B,eu,λz' H4 J r4=>⟨A,y,u,_,(st.mono (B.trans J)).live,r2.ext (x3.trans J),r4,G,λz2 H5 x5 r5=>⟨Y,RepB.bl_inv (.of r5),?_⟩⟩⟩;have F:=(B.trans J).trans x5;cases Y with
  | false=>rw[if_neg T3]at e ⊢;cases e;exact q _ H5 F (.bl _)
  | true=>
   rw[if_pos rfl]at e ⊢;obtain⟨t,et,e⟩:=bind_some e;exact⟨H0,A0,A,E,ρ,t,st.mono F,et,λz6 H6 N r6=>⟨A,u,t,d,(st.mono (F.trans N)).live,r4.ext (x5.trans N),r6,e,λz7 H7 x7 r7=>q z7 H7 ((F.trans N).trans x7) r7⟩⟩
theorem t9(J:dR X (TY op) g)(B:dR X (TY op') g')(q:dR X (TY op3) g3)(G:PB X O a fa)(U:PB X O b fb)(M:PB X O c fc)(F:PB X O d fd)
  (N:XA [op,op',op3] [b,c,d]=false:=by with_unfolding_all rfl):kB X O (.Compare a [op,op',op3] [b,c,d] pos) (mS (iM g g' g3 fa fb fc fd)):=PT.mono (My.y6 J B q G U M F N) λσ H Q h=>t5 (eW h)
end
end P
namespace My
open PySem PySem.Spec PyProof.Rows L2
def D6(i j:Int):Prop:=(-(10^250*10^250)<i/\i<10^250*10^250)/\-(10^250*10^250)<j/\j<10^250*10^250
theorem sI(h1:-(10^250*10^250)<i)(h2:i<10^250*10^250):Builtin.Int.intBits i<=2^20:=by
 have h:i.natAbs<10^250*10^250:=by lia
 have e:(10:Nat)^250*10^250<=2^(4*250+4*250):=by
  rw[Nat.pow_add,Nat.pow_mul];have:(10:Nat)^250<=(2^4)^250:=Nat.pow_le_pow_left (by decide) 250;exact Nat.mul_le_mul this this
 exact UV (PyProof.Rows.intBits_le (U9 h e)) (by decide)
theorem GZ:OpR X (UQ .Mult) (rI D6 λi j=>.int (i*j)):=P3 λ_ _ _ _ _ _ _ B q=>mul_int q (IntMulOk.of_bits (sI B.1.1 B.1.2) (sI B.2.1 B.2.2))
end My
namespace P
open PySem PySem.Spec PyProof.Rows L2
instance:∀i j,Decidable (My.D6 i j):=λi j=>by unfold My.D6;infer_instance
def C9:D->D->Option D:=AG λi j=>if My.D6 i j then some (.int (i*j))else none
open Classical in
def bZ:D->D->Option D:=AG λi j=>if My.D6 i j then some (.int (i*j))else none
theorem xB:bZ=C9:=by
 unfold bZ C9;congr 1
theorem FW:dR X (UQ .Mult) bZ:=by rw[xB];exact qH My.GZ
theorem cF(h:-(10^250*10^250)<i)(h1:i<10^250*10^250)(h2:-(10^250*10^250)<j)(q:j<10^250*10^250):bZ (.int i) (.int j)=some (.int (i*j)):=by
 rw[xB];exact if_pos ⟨⟨h,h1⟩,h2,q⟩
end P
namespace My
open PySem PySem.Spec PyProof.Rows L2 PySem.SeqAt
section
variable {X:Cx}
end
end My
namespace P
open PySem PySem.Spec PyProof.Rows L2
section
variable {X:Cx}{O Oi:List Nat}
end
end P
namespace My
open PySem PySem.Spec PySem.Calls PySem.W PySem.Builtin PySem.Builtin.ObjectAttr PySem.Builtin.Getset_descriptor
section
variable {prog:TN}{w:World}{A:TZ}{E:Value->TH->Prop}{h:Heap}{g:Array GenState}{d:Drawn}{t:Nat}{os:OsState}{a C:Addr}{o:Obj}{K:Frag}
end
end My
namespace My
open PySem PySem.Spec PyProof.Rows L2 PySem.SeqAt
section
variable {l:List Env}{fs fr:List Addr}{h0 h1 h:Heap}{e C:Addr}{H H1:Hp}{P:TN}{w:World}
end
section
variable {X:Cx}{pins:List (Addr×Obj)}{σ:L2.St}{H:Hp}{s:TH}{ea:Addr}{oe:Obj}
end
end My
namespace My
open PySem PySem.Spec PyProof.Rows L2 PySem.SeqAt PySem.W
section
variable {X:Cx}{pins:List (Addr×Obj)}{σ:L2.St}{H:Hp}{s:TH}
theorem any_cons{K:TK}{t c:Value}{cs:List Value}(h:X6 K t c=some false)(r:Z3 K t cs=some false):Z3 K t (c::cs)=some false:=by
 unfold Z3;rw[h];exact r
end
end My
namespace P
open PySem PySem.Spec PyProof.Rows L2
section
variable {X:Cx}{L:Lp}{O O2 O':List Nat}
end
section
variable {X:Cx}{O:List Nat}
end
end P
namespace My
open PySem PySem.Spec PyProof.Rows L2 PySem.SeqAt
section
variable {X:Cx}
def SM(cs:List V):TA:=λ_ H Q=>Q cs H
def PO(X:Cx)(B:Addr)(es:List Expr):Prop:=∃cs:List V,PA X es (SM cs)/\(cs.length=es.length)/\∀q,Vals cs q->Z3 X.K (.ref B) q=some false
end
end My
namespace P
open PySem PySem.Spec PyProof.Rows L2
section
variable {X:Cx}{L:Lp}{O O':List Nat}
end
end P
namespace My
open PySem PySem.Spec PyProof.Rows L2 PySem.SeqAt
end My
namespace P
open PySem PySem.Spec PyProof.Rows L2
section
variable {X:Cx}{L:Lp}{O O':List Nat}
end
section
variable {X:Cx}{L:Lp}{O O' O2:List Nat}
end
section
variable {X:Cx}{L:Lp}{O O' O2:List Nat}{Z:List Nat}
end
end P
namespace My
open PySem PySem.Spec PyProof.Rows L2
section
variable {X:Cx}
end
end My
namespace P
open PySem PySem.Spec PyProof.Rows L2
section
variable {X:Cx}
end
end P
namespace My
open PySem PySem.Spec PyProof.Rows L2
end My
namespace P
open PySem PySem.Spec PyProof.Rows L2
section
variable {X:Cx}{O:List Nat}
end
end P
namespace My
open PySem PySem.Spec PyProof.Rows L2
section
variable {X:Cx}
end
end My
namespace P
open PySem PySem.Spec PyProof.Rows L2
section
variable {X:Cx}{O:List Nat}
end
variable {X:Cx}{O:List Nat}{e:Expr}
mutual
def frz:D->Bool
 | .tup l=>MP l
 | .lst _=>false
 | .dK _=>false
 | .dT _=>false
 | _=>true
def MP:List D->Bool
 | []=>true
 | d::l=>frz d && MP l
end
mutual
theorem Rep.frz:Rep A H d v->P.frz d=true->Rep A' H d v
 | .non,_=>.non
 | .bl b,_=>.bl b
 | .int i,_=>.int i
 | .str s,_=>.str s
 | .tup h r,f=>.tup h (RepL.frz r f)
 | .lst n h r,f=>nomatch f
 | .dK n h e r,f=>nomatch f
 | .dT n h e r,f=>nomatch f
theorem RepL.frz:RepL A H ds vs->MP ds=true->RepL A' H ds vs
 | .nil,_=>.nil
 | .cons h t,f=>.cons (Rep.frz h (Bool.and_eq_true_iff.mp f).1) (RepL.frz t (Bool.and_eq_true_iff.mp f).2)
end
section
variable {X:Cx}{O:List Nat}
end
end P
namespace My
open PySem PySem.Spec PyProof.Rows L2
end My
namespace P
open PySem PySem.Spec PyProof.Rows L2
section
variable {X:Cx}{O:List Nat}
end
end P
namespace My
open PySem PySem.Spec PyProof.Rows L2
section
variable {prog:TN}{w:World}{A:TZ}{E:Value->TH->Prop}{s:TH}
end
end My
namespace P
open PySem PySem.Spec PyProof.Rows L2
def Fe(K:TK)(x:Str)(st:Stmt)(f:Addr):Prop:=∃fd,Fun K x x st f fd
theorem Fe.mk{K:TK}{x:Str}{st:Stmt}{f:Addr}{M:Value}{od G:Option Addr}{F:Array (Option Value)}{kV B J q ct:Value}(l:K.lookup f=some ⟨M,od,.func (VV x x (cH st) (bB st) (aF st) .none kV B J G q ct),F⟩)(c:XD K q x=true)(k:WU K (.ref f)=true):Fe K x st f:=⟨_,CG l c k⟩
theorem Fe.d{K:TK}{mg:Str->Option Value}{x:Str}{st:Stmt}{f:Addr}{ps:List Str}(h:Fe K x st f)(a:mg x=some (.ref f))(q:∀(kV doc pm:Value) (an:Option Addr) (cdv ct:Value) (us:List Value),us.length=ps.length->bindArgs (VV x x (cH st) (bB st) (aF st) .none kV doc pm an cdv ct) ⟨us,[]⟩=pure (ps.zip us)):My.DefAt K mg x st ps:=let ⟨fd,F⟩:=h;⟨⟨f,fd,F,F.binds q,a⟩⟩
section
variable {X:Cx}{L:Lp}{O O':List Nat}
theorem c0{O1 O3:List Nat}{st:Stmt}{q:List Stmt}{f g:Sv}(h:PSD X L O1 st f [])(k:PSDs X L [] q g O3):PSDs X L O1 (st::q) (bT f g) O3:=cn h k
theorem ss(i:Nat)(B:X.N.Nodup)(F:PD X O e f)(hi:X.N[i]?=some x:=by rfl)(q:Loc X.env.scope x:=by exact V3 rfl)(h:Sub O' (O.filter (· != i))=true:=by rfl)(hs:U5 e (some (.Name x pos')) pos.line X.env=pure false:=by rfl)(G:X.fn x=true\/X.env.scope.names.lookup x=some .local:=by first|exact .inl rfl|exact .inr rfl):PSD X L O (.Assign [.Name x pos'] e pos) (eD i f) O':=wF B hi q F h hs G
theorem gc(h1:vU X O e g)(h2:vQ X O es k)(a:(UO (e::es) X.env).map (·.2)=VA e X.env::(UO es X.env).map (·.2):=by rfl):vQ X O (e::es) (dZ g k):=nH (λx y=>l5 x y a) h1 h2
theorem gu(n:Nat)(h:vQ X O es k)(q:X.calm=true:=by rfl)(a:(UO es X.env).length=n:=by rfl)(b:List.findIdx? (λx=>x.fst) (UO es X.env)=none:=by rfl):vU X O (.Tuple es j pos) (mN n k):=xH (u9 q h a b)
theorem tc(B:dR X (TY op) g)(q:PB X O a fa)(F:PB X O b fb)(h1:op≠CmpOp.In:=by decide)(h2:op≠CmpOp.NotIn:=by decide):kB X O (.Compare a [op] [b] pos) (mS (bU g fa fb)):=wX B q F (CK _ h1 h2)
end
end P
namespace My
open PySem PySem.Spec PyProof.Rows L2
section
variable {X:Cx}
end
end My
namespace P
open PySem PySem.Spec PyProof.Rows L2
section
variable {X:Cx}
end
section
variable {X:Cx}{O:List Nat}
end
end P
namespace HT
open PySem PySem.Spec PyProof.Rows
section
open PySem.SeqAt
open PySem.AutoSeq1 (wpAny_loadPart')
open PySem.MeetsSeq PySem.MeetsSeq2 PySem.MeetsSeq3
theorem BX(A:TZ)(s:TH)(a:Int)(t:Tok)(c:Int)(u:Tok)(prog:TN)(w:World)(E:Value->TH->Prop)(Q:Value->TH->Prop)(h:Q (.bool (decide (c<=a))) s) :
  wpAny (model prog w) A (Y2 .GtE (.int a t) (.int c u)) Q E s:=
 (PyProof.Rows.ge_int h:wpAny (model prog w) A (TY .GtE (.int a t) (.int c u)) Q E s)
theorem mX(l b:Addr)(items B:Array Value)(n n2:Nat)(dd ad:Option Addr)(sl ae:Array (Option Value))(ns ms:List Int)(hi:UB items.toList ns)(hj:UB B.toList ms) :
  Meets (VP.«tuple.__ge__» ⟨[.ref l,.ref b],[]⟩)
   (λ_ R s => s.heap.get? l = some {cls := .type "tuple", dict:=dd, data := .seq items n, slots:=sl} /\ s.heap.get? b = some {cls := .type "tuple", dict:=ad, data := .seq B n2, slots:=ae} /\
    R (.ok (.ret (.bool (!lexLt ns ms)))) s):=
 .of_wp λprog w A R s h=>by
  obtain⟨hp,g,d,tk,os⟩:=s;obtain⟨hl,hb,h⟩:=h;have f2:=zaf;have z1:items.size=ns.length:=by rw[<- hi.length];simp
  have z2:B.size=ms.length:=by rw[<- hj.length];simp
  wp_walk using VJ hl,VJ hb,zag _ (λrest b s'=>b.1=none/\s'=⟨hp,g,d,tk,os⟩/\∃(vs ws:List Value) (J G:List Int),rest=vs.zip ws /\
   UB vs J/\UB ws G/\J.length+B.size=G.length+items.size/\R (.ok (.ret (.bool (!lexLt J G)))) ⟨hp,g,d,tk,os⟩) _
  case turn=>
   rintro⟨y,x⟩ rest b s' ⟨W,rfl,vs,ws,J,G,hz,Y,M,F,N⟩;cases Y with
   | nil=>rw[zah]at hz;cases hz
   | cons a t hvi'=>
    cases M with
    | nil=>rw[zai]at hz;cases hz
    | cons c u hwi'=>
     rw[XE]at hz;injection hz with hyx hrest
     injection hyx with hy hx
     subst hy hx;rw[bW]at N;simp only[UK]at F;obtain⟨e,he,U⟩:=lY A.in1 ⟨hp,g,d,tk,os⟩ a t c u;refine TF (he prog w _ _ ?_);cases e with
     | true=>
      rw[if_pos (U.mp rfl)]at N
      wp_walk
      exact⟨rfl,rfl,_,_,_,_,hrest,hvi',hwi',by lia,N⟩
     | false=>
      rw[if_neg (λq=>absurd (U.mpr q) T3)]at N;have ac:=BX A.in1 ⟨hp,g,d,tk,os⟩ a t c u prog w
      wp_walk using ac
      have ek:(!decide (a<c))=decide (c<=a):=by by_cases q:a<c <;> simp[q] <;> lia
      rw[ek]at N;exact⟨_,rfl,by simpa using N⟩
  case fin=>
   rintro⟨b1,b2⟩ s' ⟨W,rfl,vs,ws,J,G,hz,Y,M,F,N⟩;simp only at W;subst W;have hv:(!lexLt J G)=decide (B.size<=items.size):=by
    cases Y with
    | nil=>
     cases M with
     | nil=>
      simp only[V1]at F;rw[dJ];exact(decide_eq_true (by lia)).symm
     | cons c u hw=>
      simp only[V1,UK]at F;rw[cS];exact(decide_eq_false (by lia)).symm
    | cons a t hv=>
     cases M with
     | nil=>
      simp only[V1,UK]at F;rw[cT];exact(decide_eq_true (by lia)).symm
     | cons c u hw=>
      rw[XE]at hz;cases hz
   rw[hv]at N
   wp_walk
   exact⟨_,rfl,by simpa[zaj]using N⟩
  case h=>
   exact⟨rfl,rfl,items.toList,B.toList,ns,ms,rfl,hi,hj,by lia,h⟩
end
section
variable {prog:TN}{w:World}{A:TZ}{E:Value->TH->Prop}{s:TH}
theorem uI{l b:Addr}{items q:Array Value}{ns ms:List Int}{Q:Value->TH->Prop}(hl:IsTup s.heap l items)(hb:IsTup s.heap b q)(hi:UB items.toList ns)(hj:UB q.toList ms)
  (hu:A.units<cLine) (h:Q (.bool (!lexLt ns ms)) s):wpAny (model prog w) A (TY .GtE (.ref l) (.ref b)) Q E s:=by
 obtain⟨⟨cls,dd,data,sl⟩,Y,hc,n,W⟩:=id hl;obtain⟨⟨ab,M,U,N⟩,B,J,n2,G⟩:=id hb;simp only at hc W J G;subst hc W J G;exact zak (op:=.GtE) ⟨_,Y,rfl⟩ ⟨_,B,rfl⟩ PySem.F.slot_tuple_ge PySem.F.entry_tuple_ge (PySem.F.args_tuple_ge_2 _ _) (mX l b items q n n2 dd M sl N ns ms hi hj)
  ⟨Y,B,show V8 (!lexLt ns ms)≠zal/\Q (.bool (!lexLt ns ms)) s from⟨(λx=>nomatch x),h⟩⟩ hu
end
end HT
namespace P
open PySem PySem.Spec PyProof.Rows L2
section
variable {X:Cx}
def Q4(K:TK):R2:=λx y H Q=>∃a b ns ms,x=.ref a/\y=.ref b/\SqT K H a (ns.map V.int)/\SqT K H b (ms.map V.int)/\Q (.bl (!HT.lexLt ns ms)) H
theorem IV(J:X.A.units<cLine):OpR X (TY .GtE) (Q4 X.K):=by
 intro pins s σ H x y v u Q I Y U h;obtain⟨a,b,ns,ms,rfl,rfl,G,hb,q⟩:=h;cases Y;cases U;obtain⟨F,N,p1,_⟩:=I.tuple G;obtain⟨B,r2,p2,_⟩:=I.tuple hb;have M:UB F.toArray.toList ns:=intsAre_of N;have W:UB B.toArray.toList ms:=intsAre_of r2;exact HT.uI p1 p2 M W J ⟨.bl (!HT.lexLt ns ms),H,I,rfl,q⟩
end
section
variable {X:Cx}
def tU:D->D->Option D
 | .tup l,.tup m=>(bS l).bind λns=>(bS m).map λms=>.bl (!HT.lexLt ns ms)
 | x,y=>MN x y
theorem JC(J:X.A.units<cLine):dR X (TY .GtE) tU:=OpR.mono (OpR.or NE (IV J)) <| by
 rintro x y H Q ⟨A,dx,U,d,G,F,B,e,q⟩;unfold tU at e;split at e
 ·rename_i l m
  obtain⟨ns,W,e⟩:=bind_some e;obtain⟨ms,N,rfl⟩:=map_some e;obtain⟨a,xs,rfl,h1,M⟩:=F.tup_inv;obtain⟨b,ys,rfl,h2,Y⟩:=B.tup_inv;have:=bQ W M;subst this;have:=bQ N Y;subst this;exact .inr ⟨a,b,ns,ms,rfl,rfl,.inl (.inl h1),.inl (.inl h2),q _ H (Ext.refl _ _) (.bl _)⟩
 ·exact .inl ⟨A,dx,U,d,G,F,B,e,q⟩
theorem S4{j:Nat}(q:Room j X.A):dR X (TY .GtE) tU:=JC q.units0
@[simp] theorem q_geA{i j:Int}:tU (.int i) (.int j)=some (.bl (decide (j<=i))):=rfl
@[simp] theorem q_geT{ns ms:List Int}:tU (tupI ns) (tupI ms)=some (.bl (!HT.lexLt ns ms)):=by unfold tupI tU;simp only[dC];rfl
end
end P
namespace HT
open PySem PySem.Spec PyProof.Rows
section
open PySem.SeqAt
open PySem.AutoSeq1 (wpAny_loadPart')
open PySem.MeetsSeq PySem.MeetsSeq2 PySem.MeetsSeq3
theorem BD(A:TZ)(s:TH)(a:Int)(t:Tok)(c:Int)(u:Tok)(prog:TN)(w:World)(E:Value->TH->Prop)(Q:Value->TH->Prop)(h:Q (.bool (decide (c<a))) s) :
  wpAny (model prog w) A (Y2 .Gt (.int a t) (.int c u)) Q E s:=
 (PyProof.Rows.gt_int h:wpAny (model prog w) A (TY .Gt (.int a t) (.int c u)) Q E s)
theorem mW(l b:Addr)(items B:Array Value)(n n2:Nat)(dd ad:Option Addr)(sl ae:Array (Option Value))(ns ms:List Int)(hi:UB items.toList ns)(hj:UB B.toList ms) :
  Meets (VP.«tuple.__gt__» ⟨[.ref l,.ref b],[]⟩)
   (λ_ R s => s.heap.get? l = some {cls := .type "tuple", dict:=dd, data := .seq items n, slots:=sl} /\ s.heap.get? b = some {cls := .type "tuple", dict:=ad, data := .seq B n2, slots:=ae} /\
    R (.ok (.ret (.bool (lexLt ms ns)))) s):=
 .of_wp λprog w A R s h=>by
  obtain⟨hp,g,d,tk,os⟩:=s;obtain⟨hl,hb,h⟩:=h;have f2:=zaf;have z1:items.size=ns.length:=by rw[<- hi.length];simp
  have z2:B.size=ms.length:=by rw[<- hj.length];simp
  wp_walk using VJ hl,VJ hb,zag _ (λrest b s'=>b.1=none/\s'=⟨hp,g,d,tk,os⟩/\∃(vs ws:List Value) (J G:List Int),rest=vs.zip ws /\
   UB vs J/\UB ws G/\J.length+B.size=G.length+items.size/\R (.ok (.ret (.bool (lexLt G J)))) ⟨hp,g,d,tk,os⟩) _
  case turn=>
   rintro⟨y,x⟩ rest b s' ⟨W,rfl,vs,ws,J,G,hz,Y,M,F,U⟩;cases Y with
   | nil=>rw[zah]at hz;cases hz
   | cons a t hvi'=>
    cases M with
    | nil=>rw[zai]at hz;cases hz
    | cons c u hwi'=>
     rw[XE]at hz;injection hz with hyx hrest
     injection hyx with hy hx
     subst hy hx;rw[bW]at U;simp only[UK]at F;obtain⟨e,he,N⟩:=lY A.in1 ⟨hp,g,d,tk,os⟩ a t c u;refine TF (he prog w _ _ ?_);cases e with
     | true=>
      rw[if_pos (N.mp rfl).symm]at U
      wp_walk
      exact⟨rfl,rfl,_,_,_,_,hrest,hvi',hwi',by lia,U⟩
     | false=>
      rw[if_neg (λq=>absurd (N.mpr q.symm) T3)]at U;have ac:=BD A.in1 ⟨hp,g,d,tk,os⟩ a t c u prog w
      wp_walk using ac
      exact⟨_,rfl,by simpa using U⟩
  case fin=>
   rintro⟨b1,b2⟩ s' ⟨W,rfl,vs,ws,J,G,hz,Y,M,F,U⟩;simp only at W;subst W;have hv:lexLt G J=decide (B.size<items.size):=by
    cases Y with
    | nil=>
     cases M with
     | nil=>
      simp only[V1]at F;rw[dJ];exact(decide_eq_false (by lia)).symm
     | cons c u hw=>
      simp only[V1,UK]at F;rw[cT];exact(decide_eq_false (by lia)).symm
    | cons a t hv=>
     cases M with
     | nil=>
      simp only[V1,UK]at F;rw[cS];exact(decide_eq_true (by lia)).symm
     | cons c u hw=>
      rw[XE]at hz;cases hz
   rw[hv]at U
   wp_walk
   exact⟨_,rfl,by simpa[zaj]using U⟩
  case h=>
   exact⟨rfl,rfl,items.toList,B.toList,ns,ms,rfl,hi,hj,by lia,h⟩
end
section
variable {prog:TN}{w:World}{A:TZ}{E:Value->TH->Prop}{s:TH}
theorem uP{l b:Addr}{items q:Array Value}{ns ms:List Int}{Q:Value->TH->Prop}(hl:IsTup s.heap l items)(hb:IsTup s.heap b q)(hi:UB items.toList ns)(hj:UB q.toList ms)
  (hu:A.units<cLine) (h:Q (.bool (lexLt ms ns)) s):wpAny (model prog w) A (TY .Gt (.ref l) (.ref b)) Q E s:=by
 obtain⟨⟨cls,dd,data,sl⟩,Y,hc,n,W⟩:=id hl;obtain⟨⟨ab,M,U,N⟩,B,J,n2,G⟩:=id hb;simp only at hc W J G;subst hc W J G;exact zak (op:=.Gt) ⟨_,Y,rfl⟩ ⟨_,B,rfl⟩ PySem.F.slot_tuple_gt PySem.F.entry_tuple_gt (PySem.F.args_tuple_gt_2 _ _) (mW l b items q n n2 dd M sl N ns ms hi hj)
  ⟨Y,B,show V8 (lexLt ms ns)≠zal/\Q (.bool (lexLt ms ns)) s from⟨(λx=>nomatch x),h⟩⟩ hu
end
end HT
namespace P
open PySem PySem.Spec PyProof.Rows L2
section
variable {X:Cx}
def RP(K:TK):R2:=λx y H Q=>∃a b ns ms,x=.ref a/\y=.ref b/\SqT K H a (ns.map V.int)/\SqT K H b (ms.map V.int)/\Q (.bl (HT.lexLt ms ns)) H
theorem MD(J:X.A.units<cLine):OpR X (TY .Gt) (RP X.K):=by
 intro pins s σ H x y v u Q I Y U h;obtain⟨a,b,ns,ms,rfl,rfl,G,hb,q⟩:=h;cases Y;cases U;obtain⟨F,N,p1,_⟩:=I.tuple G;obtain⟨B,r2,p2,_⟩:=I.tuple hb;have M:UB F.toArray.toList ns:=intsAre_of N;have W:UB B.toArray.toList ms:=intsAre_of r2;exact HT.uP p1 p2 M W J ⟨.bl (HT.lexLt ms ns),H,I,rfl,q⟩
end
section
variable {X:Cx}
def kE:D->D->Option D
 | .tup l,.tup m=>(bS l).bind λns=>(bS m).map λms=>.bl (HT.lexLt ms ns)
 | x,y=>MW x y
theorem I0(J:X.A.units<cLine):dR X (TY .Gt) kE:=OpR.mono (OpR.or OJ (MD J)) <| by
 rintro x y H Q ⟨A,dx,U,d,G,F,B,e,q⟩;unfold kE at e;split at e
 ·rename_i l m
  obtain⟨ns,W,e⟩:=bind_some e;obtain⟨ms,N,rfl⟩:=map_some e;obtain⟨a,xs,rfl,h1,M⟩:=F.tup_inv;obtain⟨b,ys,rfl,h2,Y⟩:=B.tup_inv;have:=bQ W M;subst this;have:=bQ N Y;subst this;exact .inr ⟨a,b,ns,ms,rfl,rfl,.inl (.inl h1),.inl (.inl h2),q _ H (Ext.refl _ _) (.bl _)⟩
 ·exact .inl ⟨A,dx,U,d,G,F,B,e,q⟩
theorem S1{j:Nat}(q:Room j X.A):dR X (TY .Gt) kE:=I0 q.units0
@[simp] theorem q_gtA{i j:Int}:kE (.int i) (.int j)=some (.bl (decide (j<i))):=rfl
@[simp] theorem q_gtT{ns ms:List Int}:kE (tupI ns) (tupI ms)=some (.bl (HT.lexLt ms ns)):=by unfold tupI kE;simp only[dC];rfl
end
noncomputable def mon:List Int->List Int->Int
 | e::es,v::vs=>v^e.toNat*mon es vs
 | _,_=>1
def ev(vs:List Int)(F:List My.Tm):Int:=(F.map λt=>t.2*mon t.1 vs).sum
theorem jO{M a b c d:Int}(h:M∣a-b)(g:M∣c-d):M∣a*c-b*d:=by
 have h1:M∣(a-b)*c:=Int.dvd_mul_of_dvd_left h;have h2:M∣b*(c-d):=Int.dvd_mul_of_dvd_right g;have:a*c-b*d=(a-b)*c+b*(c-d):=by grind
 rw[this];exact Int.dvd_add h1 h2
theorem iA(M a:Int):M∣a-a:=⟨0,by lia⟩
noncomputable def pw(S:Nat->Int)(a:Int):Nat->Int
 | 0=>0
 | n+1=>pw S a n+a^n*S n
noncomputable def la(k:List Int):Int:=(k.getLast?).getD 0
def fm(M:Int)(ts:List My.Tm):List My.Tm:=My.j8 M (bJ (My.bI ts))
theorem lC{M a b:Int}(h:M∣a-b):a%M=b%M:=by
 obtain⟨c,q⟩:=h;have:a=b+M*c:=by lia
 rw[this,Int.add_mul_emod_self_left]
section
variable {X:Cx}{L:Lp}{O O':List Nat}
theorem cO(O2:List Nat){O1 O3:List Nat}{st:Stmt}{q:List Stmt}{f g:Sv}(h:PSD X L O1 st f O2)(k:PSDs X L O2 q g O3):PSDs X L O1 (st::q) (bT f g) O3:=cn h k
theorem wt{x1}(h:tV X O es g)(B:Len g es.length)(q:Nat.ble es.length 100=true:=by rfl):PD X O (.Tuple es x1 pos) (gT g):=MF h (λρ ds k=>by rw[B ρ ds k];exact zaG q)
theorem wl(h:tV X O es g)(B:Len g es.length)(q:Nat.ble es.length 100=true:=by rfl):PF X O (.List es pos) (zY g):=ME h (λρ ds k=>by rw[B ρ ds k];exact zaG q)
theorem wE(O':Fn X.prog X.w X.K X.mg X.base x k ps F)(U:Room j X.A)(N:tV X O (e::es) f)(J:Len f ps.length)(M:k<=j)(G:Gl X x:=by rfl)(q:(x == ("__debug__" : Str))=false:=by decide)(hs:isStar e=false:=by rfl)(B:(es.all λe=>!isStar e)=true:=by rfl):PD X O (.Call (.Name x p) (e::es) [] pos) (aW F f):=cD O' (U.mono M) N J G q hs B
theorem RF{e:Expr}{es:List Expr}{f:Lv}{p pos:Pos}(G:X.mg "len" = none)(q:mR X O (e::es) f)(F:Gl X "len")(hs:isStar e=false)(B:((es:List Expr).all λe=>!isStar e)=true):PD X O (.Call (.Name "len" p) (e::es) [] pos) (aW gW f):=cB KL G My.boot_len q F (by decide) (by decide) hs B
theorem Q0{e:Expr}{es:List Expr}{f:Lv}{p pos:Pos}(G:X.mg "tuple" = none)(q:mR X O (e::es) f)(F:Gl X "tuple")(hs:isStar e=false)(B:((es:List Expr).all λe=>!isStar e)=true):PD X O (.Call (.Name "tuple" p) (e::es) [] pos) (aW gN f):=RU rN G My.boot_tuple q F (by decide) (by decide) hs B
theorem QV{e:Expr}{es:List Expr}{f:Lv}{p pos:Pos}(G:X.mg "int" = none)(q:mR X O (e::es) f)(F:Gl X "int")(hs:isStar e=false)(B:((es:List Expr).all λe=>!isStar e)=true):PD X O (.Call (.Name "int" p) (e::es) [] pos) (aW zV f):=RU J6 G My.boot_int q F (by decide) (by decide) hs B
theorem QF{e:Expr}{es:List Expr}{f:Lv}{p pos:Pos}(G:X.mg "list" = none)(q:mR X O (e::es) f)(F:Gl X "list")(hs:isStar e=false)(B:((es:List Expr).all λe=>!isStar e)=true):PF X O (.Call (.Name "list" p) (e::es) [] pos) (aW cA f):=S2 FL G My.boot_list q F (by decide) (by decide) hs B
theorem QW{e:Expr}{es:List Expr}{f:Lv}{p pos:Pos}(G:X.calm=true)(J:X.mg "all" = none)(F:mR X O (e::es) f)(B:Gl X "all")(hs:isStar e=false)(q:((es:List Expr).all λe=>!isStar e)=true):PD X O (.Call (.Name "all" p) (e::es) [] pos) (aW zX f):=cB (C1 G) J My.boot_all F B (by decide) (by decide) hs q
theorem OD{q:Expr}{e:Expr}{es:List Expr}{f:Lv}{p pos:Pos}(J:X.calm=true)(M:X.mg "min" = none)(G:mR X O [e,q] f)(F:Gl X "min")(hs:isStar e=false)(B:(([q]:List Expr).all λe=>!isStar e)=true):PD X O (.Call (.Name "min" p) [e,q] [] pos) (aW xI f):=cB (FY J) M My.boot_min G F (by decide) (by decide) hs B
theorem NC{q:Expr}{e:Expr}{es:List Expr}{f:Lv}{p pos:Pos}(J:X.calm=true)(M:X.mg "max" = none)(G:mR X O [e,q] f)(F:Gl X "max")(hs:isStar e=false)(B:(([q]:List Expr).all λe=>!isStar e)=true):PD X O (.Call (.Name "max" p) [e,q] [] pos) (aW xM f):=cB (GD J) M My.boot_max G F (by decide) (by decide) hs B
theorem NM{e:Expr}{es:List Expr}{f:Lv}{p pos:Pos}(G:X.calm=true)(J:X.mg "max" = none)(F:mR X O [e] f)(B:Gl X "max")(hs:isStar e=false)(q:(([]:List Expr).all λe=>!isStar e)=true):PD X O (.Call (.Name "max" p) [e] [] pos) (aW tN f):=cB (EK G) J My.boot_max F B (by decide) (by decide) hs q
theorem N0{e:Expr}{f:Ev}{p p2 pos:Pos}(J:PB X O e f)(M:X.mg "isinstance" = none)(q:X.mg "int" = none)(G:Gl X "isinstance")(B:Gl X "int")(h1:TL [e,.Name "int" p2] X.env=(false,eval e X.env)::TL [.Name "int" p2] X.env)(h2:(UD pos (TL [.Name "int" p2] X.env)).any (·.1)=false)(F:TL [.Name "int" p2] X.env=(false,eval (.Name "int" p2) X.env)::TL [] X.env):PD X O (.Call (.Name "isinstance" p) [e,.Name "int" p2] [] pos) (D4 "int" f):=u6 FJ G M B q My.boot_int J (by decide) (by decide) h1 h2 F
theorem JB{e:Expr}{f:Ev}{p p2 pos:Pos}(J:PB X O e f)(M:X.mg "isinstance" = none)(q:X.mg "bool" = none)(G:Gl X "isinstance")(B:Gl X "bool")(h1:TL [e,.Name "bool" p2] X.env=(false,eval e X.env)::TL [.Name "bool" p2] X.env)(h2:(UD pos (TL [.Name "bool" p2] X.env)).any (·.1)=false)(F:TL [.Name "bool" p2] X.env=(false,eval (.Name "bool" p2) X.env)::TL [] X.env):PD X O (.Call (.Name "isinstance" p) [e,.Name "bool" p2] [] pos) (D4 "bool" f):=u6 A7 G M B q My.boot_bool J (by decide) (by decide) h1 h2 F
theorem GT{e:Expr}{f:Ev}{p p2 pos:Pos}(J:PB X O e f)(M:X.mg "isinstance" = none)(q:X.mg "tuple" = none)(G:Gl X "isinstance")(B:Gl X "tuple")(h1:TL [e,.Name "tuple" p2] X.env=(false,eval e X.env)::TL [.Name "tuple" p2] X.env)(h2:(UD pos (TL [.Name "tuple" p2] X.env)).any (·.1)=false)(F:TL [.Name "tuple" p2] X.env=(false,eval (.Name "tuple" p2) X.env)::TL [] X.env):PD X O (.Call (.Name "isinstance" p) [e,.Name "tuple" p2] [] pos) (D4 "tuple" f):=u6 kit_tuple G M B q My.boot_tuple J (by decide) (by decide) h1 h2 F
theorem S8{e:Expr}{lo hi:Option Expr}{p2 pos:Pos}{f:Ev}{a b:Ov}(F:PB X O e f)(B:IN X O lo a)(q:IN X O hi b):PD X O (.Subscript e (.Slice lo hi none p2) pos) (IL gR f a b):=AW RO F B q
theorem TC{a b:Expr}{pos:Pos}{B q:Ev}(F:X.A.units+1<cLine)(G:PB X O a B)(J:PB X O b q)(hs:pV b:=by exact λ_ _=>rfl):PD X O (.Subscript a b pos) (bU aO B q):=FP F G J hs
theorem Q5{a b:Expr}{pos:Pos}{B q:Ev}{j:Nat}(J:Room j X.A)(F:PB X O a B)(M:PB X O b q)(G:WS .In b=false):kB X O (.Compare a [.In] [b] pos) (mS (bU HG B q)):=wX (MB J.units) F M G
theorem SX{a b:Expr}{op:CmpOp}{pos:Pos}{g:D->D->Option D}{B q:Ev}(F:dR X (TY op) g)(G:PB X O a B)(J:PB X O b q)(h1:op≠CmpOp.In)(h2:op≠CmpOp.NotIn):PD X O (.Compare a [op] [b] pos) (bU g B q):=LW F G J (CK _ h1 h2)
theorem SK{o e:Expr}{apos cpos:Pos}{B G:Ev}(N:PB X O o B)(M:PB X O e G)(U:XG o "join" X.env (eval o X.env)=eval o X.env)(W:((((UD cpos (TL [e] X.env)).all λx=>!x.fst) && (backToKw cpos (Y8 [] X.env)).all λx=>x.fst.isSome) && decide (([e].length+([]:List WL).length+if([]:List WL).isEmpty=true then 0 else 1)<30))=true)(Y:(apos.endLine == cpos.line)=true)(q:TL [e] X.env=(false,eval e X.env)::TL [] X.env)(J:((UD cpos (TL [] X.env)).any λx=>x.fst)=false):PD X O (.Call (.Attribute o "join" apos) [e] [] cpos) (bU oV B G):=F1 N M (λa b=>DQ PySem.F.plainAttrs_str PySem.F.slot_str_join PySem.F.type_str_join My.G6 a b U W Y q J) q
theorem SV{o:Expr}{f:Ev}{p pos apos cpos:Pos}{j:Nat}(U:Room j X.A)(M:X.mg "sorted" = none)(J:PB X O o f)(N:X.calm=true)(B:Gl X "sorted")(h1:XG o "items" X.env (eval o X.env)=eval o X.env)(h2:(apos.endLine == cpos.line)=true)(G:TL [.Call (.Attribute o "items" apos) [] [] cpos] X.env=(false,eval (.Call (.Attribute o "items" apos) [] [] cpos) X.env)::TL [] X.env)(q:(UD pos (TL [] X.env)).any (·.1)=false):PF X O (.Call (.Name "sorted" p) [.Call (.Attribute o "items" apos) [] [] cpos] [] pos) (oX lP f):=uU N U.units B M J (λh=>JU PySem.F.slot_dict_items PySem.F.type_dict_items My.B5 h h1 h2) G q
theorem SZ{j:Nat}(q:Room j X.A):dR X (TY .Eq) vV:=OL q.units
theorem S5{j:Nat}(q:Room j X.A):dR X (TY .NotEq) xW:=NY q.units
theorem S0{j:Nat}(q:Room j X.A):dR X (TY .Lt) M9:=IZ q.units0
def At(l:List Str)(x:Str)(i:Nat):Prop:=l[i]?=some x
theorem at_(i:Nat){l:List Str}{x:Str}(h:l[i]?=some x:=by eq_refl):At l x i:=h
theorem vB{i:Nat}{x:Str}{p:Pos}(h:At X.N x i)(B:M5 X.env.scope x)(q:(x == ("__debug__" : Str))=false)(F:(x == ("__classdict__" : Str))=false):PB X O (.Name x p) (aL i):=LU i (pv i h B q F)
theorem vD{i:Nat}{x:Str}{p:Pos}(h:At X.N x i)(n:O.contains i=false)(B:M5 X.env.scope x)(q:(x == ("__debug__" : Str))=false)(F:(x == ("__classdict__" : Str))=false):PD X O (.Name x p) (aL i):=KC i (pv i h B q F) (by simpa using n)
theorem gV{i:Nat}{x:Str}{pos:Pos}(h:At X.N x i)(n:O.contains i=false)(B:X.N.Nodup)(q:Loc X.env.scope x)(F:X.fn x=true\/X.env.scope.names.lookup x=some .local):vU X O (.Name x pos) (bX i):=sW (pR B h q F) n
theorem aH(i:Nat)(F:PD X O e f:=by trivial)(B:X.N.Nodup:=by assumption)(hi:X.N[i]?=some x:=by rfl)(q:Loc X.env.scope x:=by first|exact V3 rfl|exact WG rfl)(h:Sub O' (O.filter (· != i))=true:=by rfl)(hs:U5 e (some (.Name x pos')) pos.line X.env=pure false:=by rfl)(G:X.fn x=true\/X.env.scope.names.lookup x=some .local:=by first|exact .inl rfl|exact .inr rfl):PSD X L O (.Assign [.Name x pos'] e pos) (eD i f) O':=wF B hi q F h hs G
theorem cK(i:Nat)(q:PF X O e f:=by trivial)(F:X.N.Nodup:=by assumption)(hi:X.N[i]?=some x:=by rfl)(B:Loc X.env.scope x:=by first|exact V3 rfl|exact WG rfl)(h:Sub O' (i::O)=true:=by rfl)(G:O.contains i=false:=by rfl)(hs:U5 e (some (.Name x pos')) pos.line X.env=pure false:=by rfl)(J:X.fn x=true\/X.env.scope.names.lookup x=some .local:=by first|exact .inl rfl|exact .inr rfl):PSD X L O (.Assign [.Name x pos'] e pos) (eD i f) O':=A5 F hi B q h G hs J
theorem j9(i:Nat)(B:PD X O e f:=by trivial)(G:PE X o (gX i):=by exact pv _)(M:mem O i=true:=by rfl)(U:XG o "append" X.env (eval o X.env)=eval o X.env:=by rfl)(N:((((UD cpos (TL [e] X.env)).all λx=>!x.fst) && (backToKw cpos (Y8 [] X.env)).all λx=>x.fst.isSome) && decide (([e].length+([]:List WL).length+if([]:List WL).isEmpty=true then 0 else 1)<30))=true:=by rfl)(W:(apos.endLine == cpos.line)=true:=by rfl)(q:TL [e] X.env=(false,eval e X.env)::TL [] X.env:=by rfl)(J:((UD cpos (TL [] X.env)).any λx=>x.fst)=false:=by rfl)(hs:U5 (.Call (.Attribute o "append" apos) [e] [] cpos) none pos.line X.env=pure false:=by rfl)(h:Sub O' O=true:=by rfl):PSD X L O (.Expr (.Call (.Attribute o "append" apos) [e] [] cpos) pos) (DS i f) O':=uA G B M (DQ PySem.F.plainAttrs_list PySem.F.slot_list_append PySem.F.type_list_append oC G (dE (PD.pe B) jD (hs:=q)) U N W q J) hs h
theorem aM(q:PD X O e f:=by trivial):PSDs X L O [.Return (some e) pos] (MZ f) O':=aG (GS q)
theorem RB(q:PSDs X L O a f O')(F:PSDs X L O b k O')(B:kB X O c g:=by trivial):PSD X L O (.If c a b pos) (tW g f k) O':=vM B q F
theorem a9(q:PSDs X L O a f O')(B:kB X O c g:=by trivial)(h:Sub O' O=true:=by rfl):PSD X L O (.If c a [] pos) (tW g f HQ) O':=vM B q (qA h)
theorem QJ{st:Stmt}:PSDs X L O [st] HK O':=aG yC
theorem b9{c:Expr}{st:Stmt}{pos:Pos}{g:Bv}(q:kB X O c g:=by trivial)(h:Sub O' O=true:=by rfl):PSD X L O (.If c [st] [] pos) (tW g HK HQ) O':=vM q QJ (qA h)
theorem bL(O1 q:List Nat)(M:PSDs X ⟨q,O1⟩ O1 body b O1)(hi:PDI X O tg iter f:=by trivial)(G:vU X O1 tg g:=by trivial)(F:W9 (model X.prog X.w) X.A X.env X.xe:=by exact PassesOwn.never)(J:X.calm=true:=by rfl)(h1:Sub O1 O=true:=by rfl)(h2:Sub O' O1=true:=by rfl)(B:Sub O' q=true:=by rfl)(hs:∀x,WK iter X.env x=pure x:=by intro _;rfl):PSD X L O (.For tg iter body [] pos) (nB f g b) O':=FI F J hi G M h1 h2 B hs
theorem N6(O1 q:List Nat)(J:PSDs X ⟨q,O1⟩ O1 body b O1)(G:kB X O1 c g:=by trivial)(F:W9 (model X.prog X.w) X.A X.env X.xe:=by exact PassesOwn.never)(h1:Sub O1 O=true:=by rfl)(h2:Sub O' O1=true:=by rfl)(B:Sub O' q=true:=by rfl):PSD X L O (.While c body [] pos) (qD g b) O':=yV F G J h1 h2 B
theorem DH(i:Nat)(N:PD X O value fe:=by trivial)(G:PB X O k fk:=by trivial)(J:X.A.units+1<cLine:=by assumption)(M:PE X o (gX i):=by exact pv _)(F:mem O i=true:=by rfl)(h:Sub O' O=true:=by rfl)(hs:U5 value (some (.Subscript o k pos')) pos.line X.env=pure false:=by rfl)(q:W7 [.Subscript o k pos'] value pos.line X.env=pure false:=by rfl)(hw:W8 [.Subscript o k pos'] value X.env=pure none:=by rfl)
  (B:∀ {to ti:TE} {t:DX},PE X o to->PE X k ti->G9 X t->PG X (.Subscript o k pos') (MS to ti t):=by intro _ _ _ a b c;exact C8 a b c):PSD X L O (.Assign [.Subscript o k pos'] value pos) (MQ i fk fe) O':=FX J M G N F h hs q hw B
theorem mI(q:PB X O e f:=by trivial)(hs:U5 e none pos.line X.env=pure false:=by rfl)(h:Sub O' O=true:=by rfl):PSD X L O (.Expr e pos) (DN f) O':=A6 q hs h
theorem mB(σ:TH)(N:List Str)(ms:List (Option Nat))(hi:PDI X O tg iter it:=by trivial)(B:∀C s H fp,N.Nodup->vU (My.aR X N scope (fA X.env.cells scope.names []) C s H fp) [] tg g:=by intros;trivial)(J:∀C s H fp,My.AE (My.aR X N scope (fA X.env.cells scope.names []) C s H fp) ifs (tDT [] c):=by intros;trivial)(G:∀C s H fp,PD (My.aR X N scope (fA X.env.cells scope.names []) C s H fp) [] elt f:=by intros;trivial)
  (U:X.env.cells=XB (σ.heap.objs.size+1) X.env.scope.names []:=by rfl) (q:cM X scope N ms:=by repeat' first|exact VT|exact rfl|exact V3 rfl|constructor) (W:N.Nodup:=by decide)
  (M:X.calm=true:=by rfl) (F:scope.kind=.function:=by rfl) (h:DP scope.names X.env.scope.names=true:=by rfl) (Y:(ms.all λo=>match o with|some i=>!O.contains i|none=>true)=true:=by rfl) (hs:∀x,WK iter X.env x=pure x:=by intro _;rfl):PF X O (.ListComp elt [⟨tg,iter,ifs,0⟩] scope pos) (kA ms it g c f):=EI M (C5 F h U) q Y hi (λC s H fp=>B C s H fp W) J G hs
theorem vJ(i:Nat)(σ:TH)(N:List Str)(ms:List (Option Nat))(hi:PDI X O tg iter it:=by trivial)(J:∀C s H fp,N.Nodup->vU (My.aR X N scope (fA X.env.cells scope.names []) C s H fp) [] tg g:=by intros;trivial)(ht:∀C s H fp,My.AE (My.aR X N scope (fA X.env.cells scope.names []) C s H fp) ifs (tDT [] c):=by intros;trivial)(Y:∀C s H fp,PD (My.aR X N scope (fA X.env.cells scope.names []) C s H fp) [] elt f:=by intros;trivial)
  (hx:X.env.cells=XB (σ.heap.objs.size+1) X.env.scope.names []:=by rfl) (G:cM X scope N ms:=by repeat' first|exact VT|exact rfl|exact V3 rfl|constructor) (hN:N.Nodup:=by decide)
  (hc:X.calm=true:=by rfl) (W:scope.kind=.function:=by rfl) (h:DP scope.names X.env.scope.names=true:=by rfl) (hn:(ms.all λo=>match o with|some i=>!O.contains i|none=>true)=true:=by rfl) (hs:∀x,WK iter X.env x=pure x:=by intro _;rfl)
  (M:X.N.Nodup:=by assumption) (B:X.N[i]?=some x:=by rfl) (U:Loc X.env.scope x:=by first|exact V3 rfl|exact WG rfl) (q:Sub O' (O.filter (· != i))=true:=by rfl) (F:U5 (.ListComp elt [⟨tg,iter,ifs,0⟩] scope pos) (some (.Name x pos')) spos.line X.env=pure true:=by rfl) (hf:X.fn x=true\/X.env.scope.names.lookup x=some .local:=by first|exact .inl rfl|exact .inr rfl) :
  PSD X L O (.Assign [.Name x pos'] (.ListComp elt [⟨tg,iter,ifs,0⟩] scope pos) spos) (eD i (kA ms it g c f)) O':=BS M B U hc (C5 W h hx) G hn hi (λC s H fp=>J C s H fp hN) ht Y q hs F hf
end
theorem fx{Q:TN}{w:World}{K:TK}{mg:Str->Option Value}{base:Heap}{x:Str}{k:Nat}{ps:List Str}{F:List D->Option D}(B:List D->Option D)(h:Fn Q w K mg base x k ps F)(e:F=B:=by rfl):Fn Q w K mg base x k ps B:=e ▸ h
noncomputable def MI:List Str->(List Value->Prop)->Prop
 | [],Q=>Q []
 | _::ps,Q=>∀u,MI ps λus=>Q (u::us)
theorem GY{ps:List Str}{Q:List Value->Prop}(h:MI ps Q){q:List Value}(e:q.length=ps.length):Q q:=by
 induction ps generalizing q Q with
 | nil=>rw[List.length_eq_zero_iff.mp e];exact h
 | cons a ps ih=>
  cases q with
  | nil=>cases e
  | cons u q=>exact ih (h u) (Nat.succ.inj e)
def Bd(st:Stmt)(x:Str)(ps:List Str):Prop:=∀(kV doc pm:Value) (an:Option Addr) (cdv ct:Value),MI ps λq=>bindArgs (VV x x (cH st) (bB st) (aF st) .none kV doc pm an cdv ct) ⟨q,[]⟩=pure (ps.zip q)
def De(K:TK)(x:Str)(st:Stmt):Prop:=∃f,WY K UP x=some (some (.ref f))/\Fe K x st f
def Des(K:TK)(tp:Nat->Stmt)(t:List (Str×Nat×List Str)):Prop:=∀p∈t,De K p.1 (tp p.2.1)
theorem Des.nil{K:TK}{tp:Nat->Stmt}:Des K tp []:=λ_ h=>nomatch h
theorem Des.cons{K:TK}{tp:Nat->Stmt}{x:Str}{i:Nat}{ps:List Str}{t:List (Str×Nat×List Str)}{f:Addr}{M:Value}{od G:Option Addr}{F:Array (Option Value)}{kV B J q ct:Value}(a:WY K UP x=some (some (.ref f)))(l:K.lookup f=some ⟨M,od,.func (VV x x (cH (tp i)) (bB (tp i)) (aF (tp i)) .none kV B J G q ct),F⟩)(c:XD K q x=true)(k:WU K (.ref f)=true)(r:Des K tp t):Des K tp ((x,i,ps)::t):=
 Z4.2 ⟨⟨f,a,Fe.mk l c k⟩,r⟩
def Bds(tp:Nat->Stmt)(t:List (Str×Nat×List Str)):Prop:=∀p∈t,Bd (tp p.2.1) p.1 p.2.2
theorem Bds.nil:Bds tp []:=λ_ h=>nomatch h
theorem Bds.cons(a:Bd (tp i) x ps)(r:Bds tp t):Bds tp ((x,i,ps)::t):=Z4.2 ⟨a,r⟩
theorem Des.d{K:TK}{h:Heap}{mg:Str->Option Value}{tp:Nat->Stmt}{t:List (Str×Nat×List Str)}(X:K.In h)(G:h.Ns UP mg)(D:Des K tp t)(B:Bds tp t):∀p∈t,My.DefAt K mg p.1 (tp p.2.1) p.2.2:=λp J=>let ⟨_,a,e⟩:=D p J;e.d (Z5 X G a) λkV q N M F ct U=>GY (B p J kV q N M F ct)
def Nos(K:TK)(t:List Str):Prop:=∀x∈t,WY K UP x=some none
theorem Nos.nil{K:TK}:Nos K []:=λ_ h=>nomatch h
theorem Nos.cons{K:TK}{x:Str}{t:List Str}(a:WY K UP x=some none)(r:Nos K t):Nos K (x::t):=Z4.2 ⟨a,r⟩
def Gis(K:TK)(t:List (Str×Int)):Prop:=∀p∈t,∃k,WY K UP p.1=some (some (.int p.2 k))
theorem Gis.nil{K:TK}:Gis K []:=λ_ h=>nomatch h
theorem Gis.cons{K:TK}{x:Str}{n:Int}{k:Tok}{t:List (Str×Int)}(a:WY K UP x=some (some (.int n k)))(r:Gis K t):Gis K ((x,n)::t):=Z4.2 ⟨⟨k,a⟩,r⟩
theorem Gis.d{K:TK}{h:Heap}{mg:Str->Option Value}{t:List (Str×Int)}(X:K.In h)(G:h.Ns UP mg)(D:Gis K t):∀p∈t,GInt mg p.1 p.2:=λp q=>let ⟨_,a⟩:=D p q;⟨⟨_,Z5 X G a⟩⟩
theorem mC{w:List D}{c:Int}(h0:0<=c)(h1:c<=(w.length:Int)):cutD w none (some c)=w.take c.toNat/\cutD w (some c) none=w.drop c.toNat:=by
 have F:HT.sIx w.length w.length (some c)=c.toNat:=by
  show(if c<0 then _ else min c.toNat w.length)=_;rw[if_neg (by lia)];lia
 have G:HT.sIx w.length 0 (some c)=c.toNat:=by
  show(if c<0 then _ else min c.toNat w.length)=_;rw[if_neg (by lia)];lia
 have B:HT.sIx w.length 0 none=0:=rfl;have q:HT.sIx w.length w.length none=w.length:=rfl;unfold cutD;rw[F,G,B,q];constructor
 ·simp
 ·rw[List.take_of_length_le (by simp)]
section
variable {ρ ρ':bK}{f g:Ev}{a b:Bv}{l:Lv}{x y d r:D}{xs:List D}{i j:Int}{k:Nat}{s t:Sv}{o:Option Out}
theorem JF(h:ρ[k]?=some (some x)):aL k ρ=some x:=by unfold aL;rw[h];rfl
theorem RG:eC x ρ=some x:=rfl
theorem aN{w:D->D->Option D}(F:f ρ=some x)(B:g ρ=some y)(q:w x y=some r):bU w f g ρ=some r:=by unfold bU;rw[F,aA,B,aA,q]
theorem aQ{F:List D->Option D}(h:l ρ=some xs)(k:F xs=some r):aW F l ρ=some r:=by unfold aW;rw[h,aA,k]
theorem aB(h:f ρ=some x)(k:l ρ=some xs):aK f l ρ=some (x::xs):=by unfold aK;rw[h,aA,k,aA]
theorem cJ(h:l ρ=some xs):gT l ρ=some (.tup xs):=by unfold gT;rw[h,aI]
theorem L9(h:l ρ=some xs):zY l ρ=some (.lst xs):=by unfold zY;rw[h,aI]
theorem gB(h:f ρ=some (.int i)):mO f ρ=some (some i):=by unfold mO;rw[h,aA];rfl
theorem gC{w:D->Option Int->Option Int->Option D}{u v:Ov}{p q:Option Int}(J:f ρ=some x)(B:u ρ=some p)(G:v ρ=some q)(F:w x p q=some r):IL w f u v ρ=some r:=by unfold IL;rw[J,aA,B,aA,G,aA,F]
theorem DD(h:f ρ=some (.int i)):G8 f ρ=some (.int (-i)):=by unfold G8;rw[h,aA];rfl
theorem bG{c:Bool}(h:f ρ=some (.bl c)):mS f ρ=some c:=by unfold mS;rw[h,aA];rfl
theorem CJ{c:Bool}(h:a ρ=some c):DW a ρ=some (!c):=by unfold DW;rw[h,aI]
noncomputable def NA{α:Type}(c:Bool)(u v:α):α:=if c=true then u else v
theorem m9{q:Type}{c:Bool}{u v w:q}(h:c=true)(k:u=w):NA c u v=w:=(if_pos h).trans k
theorem qO{q:Type}{c:Bool}{u v w:q}(h:c=false)(k:v=w):NA c u v=w:=(if_neg (by rw[h];exact nofun)).trans k
theorem vG{c:Bool}{z:Option Bool}(h:a ρ=some c)(k:NA c (b ρ) (some false)=z):G7 a b ρ=z:=by unfold G7;rw[h,aA];exact k
theorem oY{c:Bool}{z:Option Bool}(h:a ρ=some c)(k:NA c (some true) (b ρ)=z):PX a b ρ=z:=by unfold PX;rw[h,aA];exact k
theorem xU{c:Bool}(h:a ρ=some c)(k:NA c (s ρ) (t ρ)=o):tW a s t ρ=o:=by unfold tW;rw[h,aA];exact k
def sq(p:Out)(t:Sv):Option Out:=match p with
 | .nx ρ=>t ρ
 | p=>some p
theorem cZ{p:Out}(h:s ρ=some p)(k:sq p t=o):bT s t ρ=o:=by unfold bT;rw[h,aA];exact k
theorem iV(k:t ρ=o):sq (.nx ρ) t=o:=k
theorem mL(h:f ρ=some x):MZ f ρ=some (.rt x):=D2 h
theorem s_ift(h:a ρ=some true)(k:s ρ=o):tW a s t ρ=o:=(QK h).trans k
theorem s_iff(h:a ρ=some false)(k:t ρ=o):tW a s t ρ=o:=(QG h).trans k
theorem u3{w:Gv}(h:f ρ=some x)(k:w x ρ=some ρ'):HD f w ρ=some (.nx ρ'):=by unfold HD;rw[h,aA,k,aI]
theorem CI(h:aL k ρ=some (.lst xs))(e:f ρ=some x)(z:xs.length<=1000000):DS k f ρ=some (.nx (ρ.set k (some (.lst (xs++[x]))))):=by
 unfold DS;rw[h,aA];show(f ρ).bind _=_;rw[e,aA];exact if_pos (decide_eq_true z)
theorem mF{u v:List D}(z:u.length+v.length<=1000000):b5 (.lst u) (.lst v)=some (.lst (u++v)):=if_pos (decide_eq_true z)
theorem F3{u:List D}(z:u.length+1<=1000000):b5 (.lst u) (.lst [x])=some (.lst (u++[x])):=mF z
theorem N1(h:c7 xs i=some x):aO (.lst xs) (.int i)=some x:=h
theorem JH(h:c7 xs i=some x):aO (.tup xs) (.int i)=some x:=h
theorem qC{ms:List (Option Nat)}{w:Gv}{ds:List D}(h:l ρ=some xs)(z:xs.length<=1000000)(e:bR w a f xs (tZ ms ρ)=some ds):kA ms l w a f ρ=some (.lst ds):=by unfold kA;rw[h,aA];exact(if_pos (decide_eq_true z)).trans (by rw[e,aI])
theorem K9{w:Gv}:bR w a f [] ρ=some []:=rfl
theorem G2{w:Gv}{ds:List D}(h:w x ρ=some ρ')(k:a ρ'=some true)(e:f ρ'=some y)(r:bR w a f xs ρ'=some ds):bR w a f (x::xs) ρ=some (y::ds):=by rw[bR,h,aA,k,aA,if_pos rfl,e,aA,r,aA]
theorem dM{R:D->Prop}(h:s ρ=some (.nx ρ'))(k:∃d,t ρ'=some (.rt d)/\R d):∃d,bT s t ρ=some (.rt d)/\R d:=by rw[aD h];exact k
theorem dH{w:Gv}(h:w x ρ=some ρ')(k:s ρ'=o):turn w s x ρ=o:=by unfold turn;rw[h,aA,k]
theorem fK{w:Gv}{Q:bK->Prop}(h:turn w s x ρ=some (.nx ρ'))(k:Q ρ'):∃ρ',turn w s x ρ=some (.nx ρ')/\Q ρ':=⟨_,h,k⟩
theorem LY{w:Gv}(h:l ρ=some xs)(k:c4 w s xs ρ=o):nB l w s ρ=o:=by unfold nB;rw[h,aA,k]
theorem LF{w:Gv}:c4 w s [] ρ=some (.nx ρ):=rfl
theorem pW{w:Gv}(h:turn w s x ρ=some (.nx ρ'))(k:c4 w s xs ρ'=o):c4 w s (x::xs) ρ=o:=by
 unfold turn at h;obtain⟨ρ1,B,q⟩:=bind_some h;unfold c4;rw[B,aA,q,aA];exact k
theorem G1{ys:List D}(h:l ρ=some [x])(e:(oU x).map (eA 0)=some ys):xV l ρ=some ys:=by unfold xV;rw[h,aA];exact e
theorem C3(h:f ρ=some (.lst xs)):tJ f ρ=some xs:=by unfold tJ;rw[h,aA]
theorem pB{w:List D->Option (List D)}{ys:List D}(h:l ρ=some xs)(k:w xs=some ys):lR w l ρ=some ys:=by unfold lR;rw[h,aA,k]
theorem KI{u:Ev}{w:List D}(B:f ρ=some (.lst w))(q:g ρ=some (.int i))(F:u ρ=some (.lst [x]))(h0:0<=i)(h1:i<w.length)(G:w.length<=1000) :
  bU b5 (bU b5 (IL gR f tP (mO g)) u) (IL gR f (mO (bU b5 g (eC (.int 1)))) tP) ρ=some (.lst (w.take i.toNat++x::w.drop (i.toNat+1))):=by
 obtain⟨n,rfl⟩:=Int.eq_ofNat_of_zero_le h0;refine(aN (aN (gC B rfl (gB q) rfl) F (mF ?_)) (gC B (gB (aN q rfl rfl)) rfl rfl) (mF ?_)).trans ?_
 all_goals rw[(mC h0 (by lia)).1]
 ·simp;lia
 ·rw[(mC (by lia) (by lia)).2];simp;lia
 ·rw[(mC (by lia) (by lia)).2];simp
end
def hide(p:Addr)(H:Hp):Hp:=λb=>if b=p then none else H b
section
variable {A A0:Av}{H H0 H':Hp}{p:Addr}
theorem hide_ne{b:Addr}(n:b≠p):hide p H b=H b:=if_neg n
theorem yP:hide p H p=none:=if_pos rfl
theorem bM{b:Addr}{u:HO}(h:hide p H b=some u):b≠p/\H b=some u:=by
 unfold hide at h;split at h
 ·cases h
 ·next n=>exact⟨n,h⟩
theorem iP{b:Addr}{u:HO}(n:b≠p)(h:Rd H b u):Rd (hide p H) b u:=by
 rcases h with h|⟨o,h⟩
 ·exact .inl (by rw[hide_ne n];exact h)
 ·exact .inr ⟨o,by rw[hide_ne n];exact h⟩
theorem p9{b:Addr}{u:HO}(h:Rd (hide p H) b u):b≠p/\Rd H b u:=by
 rcases h with h|⟨o,h⟩
 ·exact⟨(bM h).1,.inl (bM h).2⟩
 ·exact⟨(bM h).1,.inr ⟨o,(bM h).2⟩⟩
theorem lM:Ext A (hide p H) H:=⟨λ_ _ h=>(p9 h).2,λ_ _ _ h=>(bM h).2,λ_ _ _ h=>(bM h).2,λ_ _ _ h=>(bM h).2⟩
mutual
theorem Rep.hide(q:A p)(B:∀xs,H p≠some (.tup xs)){d:D}{v:V}:Rep A H d v->Rep A (hide p H) d v
 | .non=>.non
 | .bl b=>.bl b
 | .int i=>.int i
 | .str s=>.str s
 | .tup h r=>.tup (by rw[hide_ne (λz=>by subst z;exact B _ h)];exact h) (RepL.hide q B r)
 | .lst n h r=>.lst n (iP (λz=>n (z ▸ q)) h) (RepL.hide q B r)
 | .dK n h e r=>.dK n (iP (λz=>n (z ▸ q)) h) e (RepL.hide q B r)
 | .dT n h e r=>.dT n (iP (λz=>n (z ▸ q)) h) e (RepL.hide q B r)
theorem RepL.hide(q:A p)(B:∀xs,H p≠some (.tup xs)){ds:List D}{vs:List V}:RepL A H ds vs->RepL A (hide p H) ds vs
 | .nil=>.nil
 | .cons h t=>.cons (Rep.hide q B h) (RepL.hide q B t)
end
abbrev R1(A:Av)(p:Addr):Av:=λb=>A b/\b≠p
abbrev kF(A:Av)(p:Addr)(H H':Hp):Prop:=Ext (R1 A p) (hide p H) H'
theorem Own.notTup{l:D}(o:Own A H l p)(xs:List V):H p≠some (.tup xs):=by
 cases o with
 | lst h r=>rw[h];exact nofun
 | dK h e r=>rw[h];exact nofun
 | dT h e r=>rw[h];exact nofun
theorem B2(x:kF A p H H'):Ext A (hide p H) H':=⟨x.rd,x.kp,λb u a h=>x.ow b u ⟨a,(bM h).1⟩ h,x.fz⟩
theorem Rep.pour(x:kF A p H H')(q:A p)(B:∀xs,H p≠some (.tup xs)){d:D}{v:V}(r:Rep A H d v):Rep A H' d v:=(r.hide q B).ext (B2 x)
theorem uY{H2:Hp}(x:kF A p H H')(y:kF A p H' H2):kF A p H H2:=by
 have q:∀ {b u},hide p H b=some u->b≠p:=λh=>(bM h).1
 refine⟨λb u h=>?_,λb u k h=>?_,λb u a h=>?_,λb o u h=>?_⟩
 ·exact y.rd b u (iP (p9 h).1 (x.rd b u h))
 ·exact y.kp b u k (by rw[hide_ne (q h)];exact x.kp b u k h)
 ·exact y.ow b u a (by rw[hide_ne (q h)];exact x.ow b u a h)
 ·exact y.fz b o u (by rw[hide_ne (q h)];exact x.fz b o u h)
theorem ST.pour{E:List Fact}{z:Nat}{σ:L2.St}{ρ:bK}{l J:D}(s:ST H0 A0 A E [z] σ H ρ)(hz:σ[z]?=some (some (.ref p)))(G:ρ[z]?=some (some l))(x:kF A p H H')(o:Own A H' J p):ST H0 A0 A E [z] σ H' (ρ.set z (some J)):=by
 obtain⟨a,Y,F,N,U⟩:=s.own z l G (List.mem_singleton.mpr rfl);rw[hz]at Y;cases Y;have W:=U.notTup;have B:∀ {b},H0 b≠none->b≠p:=λh q=>h (q ▸ N)
 have lt:z<ρ.length:=(List.getElem?_eq_some_iff.mp G).1;refine⟨⟨λb u h=>?_,λb u k h=>?_,λb u a h=>?_,λb q u h=>?_⟩,s.sub,s.l0,λb M=>?_,by rw[List.length_set];exact s.len,λi d h n=>?_,λi d h n=>?_,λi j d d' b hi hj _ _ _ _=>by rw[List.mem_singleton.mp hi,List.mem_singleton.mp hj],λq hq=>?_⟩
 ·refine x.rd b u (iP (B ?_) (s.ex.rd b u h))
  rcases h with h|⟨_,h⟩ <;> (rw[h];exact nofun)
 ·exact x.kp b u k (by rw[hide_ne (B (by rw[h];exact nofun))];exact s.ex.kp b u k h)
 ·exact x.ow b u ⟨s.sub b a,B (by rw[h];exact nofun)⟩ (by rw[hide_ne (B (by rw[h];exact nofun))];exact s.ex.ow b u a h)
 ·exact x.fz b q u (by rw[hide_ne (B (by rw[h];exact nofun))];exact s.ex.fz b q u h)
 ·by_cases q:b=p
  ·subst q;exact o.there
  ·cases e:H b with
   | none=>exact absurd e (s.live b M)
   | some u=>rw[x.ow b u ⟨M,q⟩ (by rw[hide_ne q];exact e)];exact nofun
 ·rcases bV h with⟨q,_⟩|⟨q,h⟩
  ·exact absurd (List.mem_singleton.mpr q) n
  ·obtain⟨v,e,r⟩:=s.val i d h n
   exact⟨v,e,r.pour x F W⟩
 ·rcases bV h with⟨q,e,_⟩|⟨q,_⟩
  ·cases e;exact⟨p,q ▸ hz,F,N,o⟩
  ·exact absurd (List.mem_singleton.mp n) q
 ·have:=s.ext q hq
  cases q with
  | rep d v=>exact Rep.pour x F W this
  | fz b o u=>
   have this:H b=some (.frz o u):=this;have nb:b≠p:=λq=>by
    subst q;cases U with
    | lst h r=>rw[h]at this;cases this
    | dK h e r=>rw[h]at this;cases this
    | dT h e r=>rw[h]at this;cases this
   exact x.fz b o u (by rw[hide_ne nb];exact this)
end
inductive OutQ where
 | nx (ρ:bK)|rt (d l:D)
abbrev Qv:=bK->Option OutQ
def OB(z:Nat)(p:Addr)(H0:Hp)(A0:Av)(E:List Fact)(T:Ends):OutQ->Prop
 | .nx ρ=>∀A σ H,ST H0 A0 A E [z] σ H ρ->σ[z]?=some (some (.ref p))->T.nx σ H
 | .rt d l=>∀A v H,(∀a,A0 a->A a)->A p->Ext A0 H0 H->Rep A H d v->Own A H l p->T.rt v H
inductive tQ(z:Nat)(f:Qv)(T:Ends)(σ:L2.St)(H:Hp):Prop
 | mk (H0:Hp) (A0 A:Av) (E:List Fact) (ρ:bK) (p:Addr) (out:OutQ) (st:ST H0 A0 A E [z] σ H ρ) (hz:σ[z]?=some (some (.ref p))) (e:f ρ=some out) (q:OB z p H0 A0 E T out):tQ z f T σ H
def PQ(X:Cx)(z:Nat)(st:Stmt)(f:Qv):Prop:=PS X st (tQ z f)
def HR(X:Cx)(z:Nat)(st:List Stmt)(f:Qv):Prop:=PSs X st (tQ z f)
section
variable {X:Cx}{z:Nat}
def SA:Qv:=λρ=>some (.nx ρ)
def MG(f g:Qv):Qv:=λρ=>(f ρ).bind λo=>match o with
 | .nx ρ'=>g ρ'
 | o=>some o
theorem JL:HR X z [] SA:=PSs.mono wW <| by
 rintro T σ H ⟨H0,A0,A,E,ρ,p,B,st,hz,e,q⟩;cases e;exact q A σ H st hz
theorem kJ{st:Stmt}{rest:List Stmt}{f g:Qv}(h1:PQ X z st f)(h2:HR X z rest g):HR X z (st::rest) (MG f g):=PSs.mono (sF h1 h2) <| by
 rintro T σ H ⟨H0,A0,A,E,ρ,p,F,st,hz,e,q⟩;obtain⟨o,J,e⟩:=bind_some e;refine⟨H0,A0,A,E,ρ,p,o,st,hz,J,?_⟩;cases o with
 | nx ρ'=>exact λA' M H' G B=>⟨H0,A0,A',E,ρ',p,F,G,B,e,q⟩
 | rt d l=>cases e;exact q
theorem vE{st:Stmt}{f:Qv}(h:PQ X z st f):HR X z [st] f:=w6 h
def P6(c:Bv)(f g:Qv):Qv:=λρ=>(c ρ).bind λb=>if b=true then f ρ else g ρ
theorem NK{c:Expr}{a b:List Stmt}{pos:Pos}{g:Bv}{f k:Qv}(G:HR X z a f)(M:HR X z b k)(J:kB X [z] c g:=by trivial):PQ X z (.If c a b pos) (P6 g f k):=PS.mono (DI J G M) <| by
 rintro T σ H ⟨H0,A0,A,E,ρ,p,B,st,hz,e,q⟩;obtain⟨b,N,e⟩:=bind_some e;refine⟨H0,A0,A,E,ρ,b,st,N,λH1 F=>?_⟩;cases b with
 | true=>rw[if_pos rfl]at e ⊢;exact⟨H0,A0,A,E,ρ,p,B,st.mono F,hz,e,q⟩
 | false=>rw[if_neg T3]at e ⊢;exact⟨H0,A0,A,E,ρ,p,B,st.mono F,hz,e,q⟩
def RX(z:Nat)(f:Ev):Qv:=λρ=>(f ρ).bind λd=>(aL z ρ).map λl=>.rt d l
theorem vA{e:Expr}{pos:Pos}{f:Ev}(F:PD X [z] e f:=by trivial):PQ X z (.Return (some e) pos) (RX z f):=PS.mono (CP F) <| by
 rintro T σ H ⟨H0,A0,A,E,ρ,p,G,st,hz,e,q⟩;obtain⟨d,J,e⟩:=bind_some e;obtain⟨l,N,rfl⟩:=map_some e;refine⟨H0,A0,A,E,ρ,d,st,J,λv H' x r=>?_⟩;obtain⟨a,B,M,W,U⟩:=(st.mono x).own z l (aX N) (List.mem_singleton.mpr rfl);rw[hz]at B;cases B;exact q A v H' st.sub M (st.mono x).ex r U
inductive tGz(z:Nat)(g:Gv)(v:V)(σ:L2.St)(H:Hp)(Q:L2.St->Hp->Prop):Prop
 | mk (H0:Hp) (A0 A:Av) (E:List Fact) (ρ:bK) (d:D) (ρ':bK) (p:V) (st:ST H0 A0 A E [z] σ H ρ) (hz:σ[z]?=some (some p)) (r:Rep A H d v) (e:g d ρ=some ρ') (q:∀σ',ST H0 A0 A E [z] σ' H ρ'->σ'[z]?=some (some p)->Q σ' H):tGz z g v σ H Q
inductive tGzs(z:Nat)(g:xY)(vs:List V)(σ:L2.St)(H:Hp)(Q:L2.St->Hp->Prop):Prop
 | mk (H0:Hp) (A0 A:Av) (E:List Fact) (ρ:bK) (ds:List D) (ρ':bK) (p:V) (st:ST H0 A0 A E [z] σ H ρ) (hz:σ[z]?=some (some p)) (r:RepL A H ds vs) (e:g ds ρ=some ρ') (q:∀σ',ST H0 A0 A E [z] σ' H ρ'->σ'[z]?=some (some p)->Q σ' H):tGzs z g vs σ H Q
def IM(X:Cx)(z:Nat)(tg:Expr)(g:Gv):Prop:=PG X tg (tGz z g)
def z5(X:Cx)(z:Nat)(tg:List Expr)(g:xY):Prop:=PGs X tg (tGzs z g)
theorem AL{i:Nat}{tg:Expr}(h:PG X tg (j7 i))(n:i≠z):IM X z tg (bX i):=PG.mono h <| by
 rintro v σ H Q ⟨H0,A0,A,E,ρ,d,ρ',p,st,hz,r,e,q⟩;cases e;exact q _ (st.put r λh=>n (List.mem_singleton.mp h)) (by rw[d5 (UH n)];exact hz)
theorem AV:z5 X z [] tO:=PGs.mono wJ <| by
 rintro v σ H Q ⟨H0,A0,A,E,ρ,ds,ρ',p,st,hz,r,e,q⟩;cases r with
 | nil=>cases e;exact⟨rfl,q _ st hz⟩
 | cons _ _=>cases e
theorem yG{e:Expr}{es:List Expr}{g:Gv}{k:xY}(G:∀ {t:TG} {u:HN},PG X e t->PGs X es u->PGs X (e::es) (DG t u))(h1:IM X z e g)(h2:z5 X z es k):z5 X z (e::es) (dZ g k):=
 PGs.mono (G h1 h2) <| by
  rintro v σ H Q ⟨H0,A0,A,E,ρ,ds,ρ',p,st,hz,r,e,q⟩;cases r with
  | nil=>cases e
  | cons h t=>
   obtain⟨ρ1,M,e⟩:=bind_some e;exact⟨_,_,rfl,H0,A0,A,E,ρ,_,ρ1,p,st,hz,h,M,λJ F B=>⟨H0,A0,A,E,ρ1,_,ρ',p,F,B,t,e,q⟩⟩
theorem FQ{tg:Expr}{n:Nat}{k:xY}(G:PG X tg (My.MO X.K n (tGzs z k))):IM X z tg (dP n k):=PG.mono G <| by
 rintro v σ H Q ⟨H0,A0,A,E,ρ,d,ρ',p,st,hz,r,e,q⟩;cases d with
 | tup l=>
  obtain⟨a,xs,rfl,h,F⟩:=RepB.tup_inv (.of r);by_cases B:l.length=n
  ·simp only[dP,if_pos B]at e
   exact⟨a,xs,rfl,.inl (.inl (.inl h)),by rw[F.length];exact B,H0,A0,A,E,ρ,l,ρ',p,st,hz,F,e,q⟩
  ·simp only[dP,if_neg B]at e;cases e
 | lst l=>
  obtain⟨a,xs,rfl,h,F⟩:=RepB.lst_inv (.of r);by_cases B:l.length=n
  ·simp only[dP,if_pos B]at e
   exact⟨a,xs,rfl,.inr (.inl h),by rw[F.length];exact B,H0,A0,A,E,ρ,l,ρ',p,st,hz,F,e,q⟩
  ·simp only[dP,if_neg B]at e;cases e
 | _=>cases e
def HC(f:Ev)(g:Gv):Qv:=λρ=>(f ρ).bind λd=>(g d ρ).map .nx
theorem LZ{tg e:Expr}{pos:Pos}{f:Ev}{g:Gv}(M:PD X [z] e f)(J:IM X z tg g)(hs:W7 [tg] e pos.line X.env=pure false:=by rfl)(hw:W8 [tg] e X.env=pure none:=by rfl)(h1:(UO [tg] X.env).map (·.2)=[VA tg X.env]:=by rfl):PQ X z (.Assign [tg] e pos) (HC f g):=
 PS.mono (vL M J hs hw h1) <| by
  rintro T σ H ⟨H0,A0,A,E,ρ,p,N,st,hz,e,q⟩;obtain⟨d,W,e⟩:=bind_some e;obtain⟨ρ',U,rfl⟩:=map_some e;exact⟨H0,A0,A,E,ρ,d,st,W,λv H' x r=>⟨H0,A0,A,E,ρ,d,ρ',_,st.mono x,hz,r,U,λF G B=>q A F H' G B⟩⟩
abbrev Qe:=bK->Option (D×D)
inductive tQE(z:Nat)(f:Qe)(σ:L2.St)(H:Hp)(Q:VK):Prop
 | mk (H0:Hp) (A0 A:Av) (E:List Fact) (ρ:bK) (p:Addr) (l d l':D) (st:ST H0 A0 A E [z] σ H ρ) (hz:σ[z]?=some (some (.ref p))) (hl:ρ[z]?=some (some l)) (e:f ρ=some (d,l')) (q:∀v H',kF A p H H'->Own A H' l' p->Rep A H' d v->Q v H'):tQE z f σ H Q
def RS(X:Cx)(z:Nat)(e:Expr)(f:Qe):Prop:=PE X e (tQE z f)
def xR(i z:Nat)(f:Qe):Qv:=λρ=>(f ρ).map λp=>.nx ((ρ.set z (some p.2)).set i (some p.1))
theorem uX{i:Nat}{st:Stmt}{f:Qe}(N:∀ρ p,f ρ=some p->∃l,ρ[z]?=some (some l))(G:PS X st (DT (tQE z f) (j7 i)))(n:i≠z):PQ X z st (xR i z f):=PS.mono G <| by
 rintro T σ H ⟨H0,A0,A,E,ρ,p,M,st,hz,e,q⟩;obtain⟨⟨d,J⟩,F,rfl⟩:=map_some e;obtain⟨l,B⟩:=N ρ _ F;exact⟨H0,A0,A,E,ρ,p,l,d,J,st,hz,B,F,λv H' x o r=>q A _ H' ((st.pour hz B x o).put r λh=>n (List.mem_singleton.mp h)) (by rw[d5 (UH n)];exact hz)⟩
def D8(n:Nat)(f:Qv)(ds:List D):Option (D×D):=(f (aE n ds)).bind λo=>match o with
 | .rt d l=>some (d,l)
 | .nx _=>none
end
section
variable {A A0:Av}{H H0 H':Hp}{p D':Addr}{E:List Fact}{z zc:Nat}{σ:L2.St}{ρ:bK}
end
section
variable {X:Cx}{z:Nat}
end
section
variable {X:Cx}{L:Lp}{O:List Nat}
end
section
variable {X:Cx}{O:List Nat}
end
section
variable {X:Cx}{z:Nat}
theorem IG{c:Expr}{a:List Stmt}{pos:Pos}{g:Bv}{f:Qv}(q:HR X z a f)(B:kB X [z] c g:=by trivial):PQ X z (.If c a [] pos) (P6 g f SA):=NK q JL B
theorem gz(i:Nat){x:Str}{pos:Pos}(B:X.N.Nodup:=by assumption)(hi:X.N[i]?=some x:=by rfl)(q:Loc X.env.scope x:=by first|exact V3 rfl|exact WG rfl)(F:X.fn x=true\/X.env.scope.names.lookup x=some .local:=by first|exact .inl rfl|exact .inr rfl|assumption)(n:i≠z:=by decide):IM X z (.Name x pos) (bX i):=AL (pR B hi q F) n
theorem PV{e:Expr}{es:List Expr}{g:Gv}{k:xY}(h1:IM X z e g)(h2:z5 X z es k)(a:(UO (e::es) X.env).map (·.2)=VA e X.env::(UO es X.env).map (·.2):=by rfl):z5 X z (e::es) (dZ g k):=yG (λx y=>l5 x y a) h1 h2
theorem S9(n:Nat){es:List Expr}{j:Nat}{pos:Pos}{k:xY}(h:z5 X z es k)(q:X.calm=true:=by rfl)(a:(UO es X.env).length=n:=by rfl)(b:List.findIdx? (λx=>x.fst) (UO es X.env)=none:=by rfl):IM X z (.Tuple es j pos) (dP n k):=FQ (My.gP q h a b)
theorem JS{tg e:Expr}{pos:Pos}{f:Ev}{g:Gv}(q:IM X z tg g)(B:PD X [z] e f:=by trivial)(hs:W7 [tg] e pos.line X.env=pure false:=by rfl)(hw:W8 [tg] e X.env=pure none:=by rfl)(h1:(UO [tg] X.env).map (·.2)=[VA tg X.env]:=by rfl):PQ X z (.Assign [tg] e pos) (HC f g):=LZ B q hs hw h1
end
variable {X:Cx}{O:List Nat}
end P
namespace My
open PySem PySem.Spec PyProof.Rows L2
section
variable {prog:TN}{w:World}{K:Type}[DecidableEq K]{knd:HeapKind prog w K}{A:TZ}{E:Value->TH->Prop}{s:TH}
theorem rB{d a:Addr}{xs:List (K×Addr×Value)}{k:K}{v:Value}{Q:Value->TH->Prop}(hu:knd.room A)(B:knd.is s.heap k a)(hm:s.heap.DictOfH knd d xs)
  (h1:∀p,atKey xs k=some p->Q p.2 {s with toks:=s.toks+knd.draws k})
  (h2:atKey xs k=none->∀h',h'.DictOfH knd d (storedH xs k a v)->UI d s.heap h'->Q v {s with heap:=h',toks:=s.toks+knd.draws k})
  (hsz:xs.length<=TQ):wpAny (model prog w) A (dictSetDefault d (.ref a) v) Q E s:=by
 obtain⟨o,es,ep,J,hc,G,U,M,W⟩:=hm;unfold dictSetDefault
 try with_reducible refine VG ?_
 refine TF (knd.pyHash hu B ?_);refine TF (wpAny_dictFind_heap (s:={s with toks:=s.toks+knd.draws k}) hu B J G U M W ?_ ?_)
 ·intro q
  have N:k∉xs.map (·.1):=not_mem_keys_of_get q;refine TF (XX (TF (wpAny_updateDictKeys (hz:=by have e:=size_of_entries U;lia) (s:={s with toks:=s.toks+knd.draws k}) J G (TJ (h2 (Z6 q) _ ⟨_,_,ep+1,WM _ J (Obj.isFreed_of_dict (Obj.data_mapDictKeys G _)),
   hc.mapDictKeys _,Obj.data_mapDictKeys G _,?_,?_,?_⟩ (WH ..))))))
  ·rw[storedH_new (Z6 q)]
   simp[U,entryOfKey]
  ·rw[storedH_new (Z6 q)]
   intro x F;rcases List.mem_append.mp F with F|F
   ·exact knd.keeps (M x F) J G (WH ..)
   ·simp only[List.mem_singleton]at F
    subst F;exact knd.keeps B J G (WH ..)
  ·rw[storedH_new (Z6 q)]
   rw[VX,List.nodup_append];refine⟨W,by simp,?_⟩;intro x F y hy;simp only[T1,W2,List.mem_singleton]at hy;subst hy;exact λe=>N (e ▸ F)
 ·intro j p Y
  refine TF (W6 (s:={s with toks:=s.toks+knd.draws k}) J G ?_);rw[entry_at U j,Y];exact TF (XX (TJ (h1 _ (atKey_of_get W Y))))
theorem pK{d a:Addr}(M:(d == VC)=false)(v:Value):MeetsIn prog w (VP.«dict.setdefault» ⟨[.ref d,.ref a,v],[]⟩) (λA R s=>knd.room A.in1/\∃k xs,knd.is s.heap k a/\s.heap.DictOfH knd d xs/\xs.length<=TQ /\
   (∀p,atKey xs k=some p->R (.ok (.ret p.2)) {s with toks:=s.toks+knd.draws k}) /\
   (atKey xs k=none->∀h',h'.DictOfH knd d (storedH xs k a v)->UI d s.heap h'->R (.ok (.ret v)) {s with heap:=h',toks:=s.toks+knd.draws k})):=
 .of_wp <| by
  rintro A R s ⟨N,k,xs,q,G,hz,h1,h2⟩;unfold VP.«dict.setdefault»;refine TF ?_;unfold Builtin.Dict.keyAndDefault;refine TF (zaz G.typeIs ?_);show wpAny _ _ (pure (d,TV a,some v)) _ _ s;refine TJ ?_;show wpAny _ _ (if(d == VC)=true then _ else(dictSetDefault d (.ref a) v >>= _)) _ _ s;rw[if_neg (by rw[M];exact T3)];exact TF (rB N q G (λp J=>TJ ⟨_,rfl,h1 p J⟩) (λU h' B F=>TJ ⟨v,rfl,h2 U h' B F⟩) hz)
end
section
variable {X:Cx}{pins:List (Addr×Obj)}{σ:L2.St}{H:Hp}{s:TH}{a:Addr}{u r:Value}{A:TZ}{E:Value->TH->Prop}
theorem B1{b:Addr}{kvs:List (List Key×V)}{k:List Key}{v:V}{Q:Value->TH->Prop}(hu:A.units+1<cLine)(I:Inv X pins σ H s)(e:H a=some (.dT kvs))(N:H b=some (.tup (k.map kV)))(l:kvs.length<TQ)(rv:RelV v r)
  (h1:∀y,c8 kvs k=some y->∀U s',Inv X pins σ H s'->RelV y U->Q U s')
  (h2:c8 kvs k=none->∀s',Inv X pins σ (upd H a (.dT (putK kvs k v))) s'->Q r s'):wpAny (model X.prog X.w) A (call (.builtin "dict.setdefault") [.ref a,.ref b,r]) Q E s:=by
 obtain⟨z,W,xs,G,Y⟩:=HW I.hok e;have hz:xs.length<=TQ:=by rw[<- W0 G];exact z
 have hl:(putK kvs k v).length<=TQ:=by have:=eK kvs k v;lia
 refine call_meetsIn zaS Y.typeIs PySem.F.entry_dict_setdefault (PySem.F.args_dict_setdefault_3 _ _ _) (pK (knd:=VY (a8 X.prog X.w)) W r) ⟨YD hu,k,xs,jC I.hok N,Y,hz,λp hp=>?_,λhn h' M hs=>?_⟩
 ·have B:=G.val k
  rw[hp]at B;obtain⟨y,hy,ry⟩:∃y,c8 kvs k=some y/\RelV y p.2:=by
   cases J:c8 kvs k with
   | none=>rw[J]at B;exact absurd B (by intro q;cases q)
   | some y=>rw[J]at B;exact⟨y,rfl,B⟩
  exact h1 y hy _ _ (I.tok _) ry
 ·have J:c8 kvs k=none:=by
   have B:=G.val k;rw[hn]at B;cases J:c8 kvs k with
   | none=>rfl
   | some y=>rw[J]at B;exact absurd B (by intro q;cases q)
  refine h2 J _ ?_;obtain⟨q,es,ep,hq,h3,h4,h5,_,h6⟩:=M;refine pU I (by rw[e];exact VT) hs ⟨q,hq⟩ ⟨hl,W,_,(G.put k N rv).keeps λc ys ec=>?_,q,es,ep,hq,h3,h4,h5,h6⟩;rw[aC (IF ec e (λz=>nomatch z))];exact ec
def F8(td ty tx:TE):TE:=λσ H Q=>td σ H λx H1=>∃a,x=.ref a/\M6 H1 a/\ty σ H1 λy H2=>tx σ H2 λz q=>∃kvs k b,y=.ref b/\q a=some (.dT kvs)/\q b=some (.tup (k.map kV))/\kvs.length<TQ /\
 (∀v,c8 kvs k=some v->Q v q)/\(c8 kvs k=none->Q z (upd q a (.dT (putK kvs k z))))
theorem yM{o e f:Expr}{apos cpos:Pos}{td ty tx:TE}(hu:X.A.units+1<cLine)(ho:PE X o td)(M:PE X e ty)(hf:PE X f tx)(m:M2 X o "setdefault" apos e f cpos):PE X (.Call (.Attribute o "setdefault" apos) [e,f] [] cpos) (F8 td ty tx):=by
 intro pins s σ H Q I h;refine wpAny_Call_method m.base m.few m.line zaw zaS PySem.F.type_dict_setdefault (bE (ho pins s σ H _ I h) λu N ⟨x,H1,J,rx,a,ex,d,q1⟩=>?_);subst ex;obtain rfl:u=TV a:=rx;obtain⟨t1,t2,_⟩:=vP J d;refine⟨t1,t2,?_⟩;rw[m.trees];refine Y9 rfl (zas (X7 (bE (M pins N σ H1 _ J q1) λiv s2 ⟨y,H2,I2,ry,Y⟩=>
  X7 (bE (hf pins s2 σ H2 _ I2 Y) λfv s3 ⟨z,H3,I3,G,kvs,k,b,ey,e1,e2,l,q3,W⟩=>zab ?_))))
 subst ey;obtain rfl:iv=TV b:=ry;exact B1 hu I3 e1 e2 l G (λy hy w' s4 B q=>⟨_,H3,B,q,q3 y hy⟩) λU s4 B=>⟨_,_,B,G,W U⟩
end
end My
namespace P
open PySem PySem.Spec PyProof.Rows L2
section
variable {A:Av}{H H':Hp}{p:Addr}
theorem A4{o:HO}(x:kF A p H H'):kF A p H (upd H' p o):=by
 have q:∀ {b u},P.hide p H b=some u->b≠p:=λh=>(bM h).1
 refine⟨λb u h=>?_,λb u k h=>?_,λb u a h=>?_,λb o u h=>?_⟩
 ·have n:=(p9 h).1
  rcases x.rd b u h with z|⟨o,z⟩
  ·exact .inl (by rw[aC n];exact z)
  ·exact .inr ⟨o,by rw[aC n];exact z⟩
 ·rw[aC (q h)];exact x.kp b u k h
 ·rw[aC (q h)];exact x.ow b u a h
 ·rw[aC (q h)];exact x.fz b o u h
end
section
variable {X:Cx}{z:Nat}
def HM(z:Nat)(fk fe:Ev):Qe:=λρ=>(aL z ρ).bind λx=>(fk ρ).bind λk=>(fe ρ).bind λe=>match x with
 | .dT l=>(EC k).bind λk=>if aV l.length=true then some (match cN l k with
  | some d=>(d,.dT l)
  | none=>(e,.dT (putD l k e)))else none
 | _=>none
theorem FU{o k e:Expr}{apos cpos:Pos}{fk fe:Ev}(hu:X.A.units+1<cLine)(ho:PE X o (gX z))(hk:PB X [z] k fk)(he:PD X [z] e fe)(m:M2 X o "setdefault" apos k e cpos):RS X z (.Call (.Attribute o "setdefault" apos) [k,e] [] cpos) (HM z fk fe):=
 PE.mono (My.yM hu ho hk he m) <| by
  rintro σ H Q ⟨H0,A0,A,E,ρ,p,l,d,l',st,hz,hl,e,q⟩;obtain⟨x,ex,e⟩:=bind_some e;obtain⟨y,ey,e⟩:=bind_some e;obtain⟨w,ew,e⟩:=bind_some e;have:x=l:=by have:=aX ex;rw[hl]at this;cases this;rfl
  subst this;cases x with
  | dT l=>
   obtain⟨M,e5,e⟩:=bind_some e;by_cases hs:aV l.length=true
   ·rw[if_pos hs]at e
    obtain⟨a,o1,W,o3,o4⟩:=st.own z _ hl (List.mem_singleton.mpr rfl);rw[hz]at o1;cases o1;cases o4 with
    | @dT _ _ xs h4 ee r4=>
     refine⟨_,hz,p,rfl,.inr ⟨xs,.inl h4⟩,H0,A0,A,E,ρ,y,st,ey,λu H2 x2 r2=>⟨H0,A0,A,E,ρ,w,st.mono x2,ew,λv H3 x3 r3=>?_⟩⟩;have B:=x2.trans x3;have U:=B.ow _ _ W h4;have G:xs.length=l.length:=by have:=congrArg V0 ee;simpa using this
     obtain⟨b,rfl,hb⟩:=pY e5 (r2.ext x3);have pr:kF A p H H3:=Ext.trans lM (B.mono λ_ h=>h.1);have Y:=mK ee (r4.ext B);refine⟨xs,M,b,rfl,U,hb,by rw[G];exact kG hs,λv' J=>?_,λhn=>?_⟩
     ·rcases qF M Y with⟨_,F⟩|⟨d',v2,N,F,n3⟩
      ·rw[J]at F;cases F
      ·rw[J]at F;cases F
       rw[N]at e;cases e;exact q _ H3 pr (.dT U ee (r4.ext B)) n3
     ·rcases qF M Y with⟨N,_⟩|⟨d',v2,N,F,n3⟩
      ·rw[N]at e;cases e
       obtain⟨e7,r7⟩:=xN (vK M r3 Y);exact q _ _ (A4 pr) (.dT aJ e7 (r7.put W U trivial)) (r3.put W U trivial)
      ·rw[hn]at F;cases F
   ·rw[if_neg hs]at e;cases e
  | _=>cases e
theorem MA{q F:Ev}(ρ:bK)(p:D×D)(h:HM z q F ρ=some p):∃l,ρ[z]?=some (some l):=by
 obtain⟨l,B,h⟩:=bind_some h;exact⟨l,aX B⟩
def SS(n:Nat)(F:List D->Option (D×D)):Sp:=λvs H Q _=>∃(A:Av) (p:Addr) (us:List V) (es:List D) (l d l':D),vs=.ref p::us/\us.length+1=n/\Live A H/\A p/\RepL A H es us/\Own A H l p/\F (l::es)=some (d,l') /\
 ∀v H',kF A p H H'->Own A H' l' p->Rep A H' d v->Q v H'
def FnP(P:TN)(w:World)(K:TK)(mg:Str->Option Value)(base:Heap)(x:Str)(k:Nat)(ps:List Str)(F:List D->Option (D×D)):Prop:=My.Ok P w K mg base x k ps (SS ps.length F)
theorem ST.begunP{A:Av}{H:Hp}{N:List Str}{l:D}{es:List D}{p:Addr}{q:List V}(B:Live A H)(J:A p)(r:RepL A H es q)(o:Own A H l p):ST (P.hide p H) (R1 A p) A [] [0] (L2.start N (.ref p::q)) H (aE N.length (l::es)) where
 ex:=lM
 sub:=λ_ h=>h.1
 l0:=λa h=>by rw[hide_ne h.2];exact B a h.1
 live:=B
 len:=by unfold L2.start aE;simp[r.length]
 val:=λi d h n=>by
  unfold aE at h;unfold L2.start
  match i with
  | 0=>exact absurd (List.mem_singleton.mpr rfl) n
  | i+1=>
   have h:(es.map some++UF (N.length-(es.length+1)) none)[i]?=some (some d):=h;by_cases hi:i<es.length
   ·rw[XC (by simpa using hi),UA]at h
    obtain⟨d',Y,W⟩:=map_some h;cases W;obtain⟨v,M,U⟩:=r.get' Y;refine⟨v,?_,U⟩;show(q.map some++_)[i]?=_;rw[XC (by rw[T2,r.length];exact hi),UA,M];rfl
   ·rw[Y1 (by simpa using hi),zae]at h
    split at h <;> cases h
 own:=λi d h n=>by
  rw[List.mem_singleton.mp n]at h ⊢;cases h;exact⟨p,rfl,J,yP,o⟩
 inj:=λi j d d' a hi G _ _ _ _=>by rw[List.mem_singleton.mp hi,List.mem_singleton.mp G]
 ext:=λp F=>nomatch F
theorem KP{P:TN}{w:World}{K:TK}{mg:Str->Option Value}{base:Heap}{x:Str}{st:Stmt}{N ps:List Str}{k:Nat}{f:Qv}(Df:My.DefAt K mg x st ps)(S:FnScope N ps (aF st))
  (h:∀(M:Addr) (F:Value) (A:TZ) (B:List Env) (s:TH) (H:Hp) (E:XK),Room k (A.deeper (U4 x (aF st) s.heap.objs.size M F))->∃g,HR (iW tY P w K mg base N x (aF st) M F A B s H E).nox 0 (bB st) g/\g=f) :
  FnP P w K mg base x (k+1) ps (D8 N.length f):=by
 refine My.BodyOk.ok (λM F A B s H vs Q E hr G=>?_) Df S (λvs H Q E G=>by obtain⟨A,p,us,es,l,d,l',rfl,e,_⟩:=G;exact e);obtain⟨U,p,us,es,l,d,l',rfl,hl,lv,ha,r,o,eF,q⟩:=G;obtain⟨J,eo,Y⟩:=bind_some eF;obtain⟨g,hg,rfl⟩:=h M F A B s H E hr;refine⟨_,hg,_root_.P.hide p H,R1 U p,U,[],_,p,J,ST.begunP lv ha r o,rfl,eo,?_⟩;cases J with
 | nx ρ=>cases Y
 | rt d' l2=>
  cases Y;intro A v H' W ap x rv ol;have le:∀a,U a->A a\/H' a=none:=λa h=>by
   by_cases z:a=p
   ·exact .inl (z ▸ ap)
   ·exact .inl (W a ⟨h,z⟩)
  exact q v H' x (ol.av le) (rv.av le)
def vI(z:Nat)(F:List D->Option (D×D))(fs:Lv):Qe:=λρ=>(fs ρ).bind λes=>(aL z ρ).bind λl=>F (l::es)
theorem zH{x:Str}{k:Nat}{ps:List Str}{F:List D->Option (D×D)}{ep:Expr}{es:List Expr}{fs:Lv}{p pos:Pos}(O':FnP X.prog X.w X.K X.mg X.base x k ps F)(hr:Room k X.A)(hg:Gl X x)(hp:PE X ep (gX z))(ha:tV X [z] es fs)(hl:∀ρ ds,fs ρ=some ds->ds.length+1=ps.length)(N:(x == ("__debug__" : Str))=false:=by decide)
  (U:TL (ep::es) X.env=(false,eval ep X.env)::TL es X.env:=by rfl) (G:(UD pos (TL es X.env)).any (·.1)=false:=by rfl) :
  RS X z (.Call (.Name x p) (ep::es) [] pos) (vI z F fs):=PE.mono (My.sD O' hr hg (dE hp ha U) N U G) λσ H Q ⟨H0,A0,A,E,ρ,p,l,d,l',st,hz,B,e,q⟩=>by
 obtain⟨ds,W,e⟩:=bind_some e;obtain⟨M,e2,e⟩:=bind_some e;have:M=l:=by have:=aX e2;rw[B]at this;cases this;rfl
 subst this;refine⟨.ref p,hz,H0,A0,A,E,ρ,ds,st,W,λus H2 J Y=>?_⟩;obtain⟨a,o1,o2,o3,o4⟩:=(st.mono J).own z M B (List.mem_singleton.mpr rfl);rw[hz]at o1;cases o1;have px:kF A p H H2:=Ext.trans lM (J.mono λ_ h=>h.1);exact⟨A,p,us,ds,M,d,l',rfl,by rw[Y.length];exact hl ρ ds W,(st.mono J).live,o2,Y.toL,o4,e,λv H' x o r=>q v H' (uY px x) o r⟩
theorem BY{F:List D->Option (D×D)}{fs:Lv}(ρ:bK)(p:D×D)(h:vI z F fs ρ=some p):∃l,ρ[z]?=some (some l):=by
 obtain⟨ds,B,h⟩:=bind_some h;obtain⟨l,q,h⟩:=bind_some h;exact⟨l,aX q⟩
def HI(z:Nat)(f:Qe)(a b:Sv):Sv:=λρ=>(f ρ).bind λp=>(tX p.1).bind λc=>if c=true then b (ρ.set z (some p.2))else a (ρ.set z (some p.2))
theorem GQ{L:Lp}{O':List Nat}{c:Expr}{a b:List Stmt}{pos G:Pos}{f:Qe}{M N:Sv}(hf:∀ρ p,f ρ=some p->∃l,ρ[z]?=some (some l))(hc:RS X z c f)(ha:PSDs X L [z] a M O')(hb:PSDs X L [z] b N O')
  (ht:∀B,isTrue c X.env B=(do let v <- B;standAt c.pos;WR [v] (truthy v)):=by intro _;rfl):PSD X L [z] (.If (.UnaryOp .Not c G) a b pos) (HI z f M N) O':=
 PS.mono (DI (CQ (DB hc ht)) ha hb) <| by
  rintro T σ H ⟨H0,A0,A,E,ρ,F,st,e,p⟩;obtain⟨⟨d,l'⟩,W,e⟩:=bind_some e;obtain⟨c,e2,e⟩:=bind_some e;have:=cW e2;dsimp only at this;subst this;obtain⟨l,U⟩:=hf ρ _ W;obtain⟨q,Y,o2,o3,o4⟩:=st.own z l U (List.mem_singleton.mpr rfl);refine⟨H0,A0,A,E,ρ,q,l,.bl c,l',st,Y,U,W,λv H' x o r=>⟨c,RepB.bl_inv (.of r),?_⟩⟩;have J:=st.pour Y U x o;cases c with
  | true=>rw[if_pos rfl]at e;show tS L [z] N O' T σ H';exact⟨H0,A0,A,E,_,F,J,e,p⟩
  | false=>rw[if_neg T3]at e;show tS L [z] M O' T σ H';exact⟨H0,A0,A,E,_,F,J,e,p⟩
theorem FnP.mono{P:TN}{w:World}{K:TK}{mg:Str->Option Value}{base:Heap}{x:Str}{j k:Nat}{ps:List Str}{F:List D->Option (D×D)}(h:FnP P w K mg base x j ps F)(l:j<=k):FnP P w K mg base x k ps F:=My.Ok.mono h l
theorem LQ(i:Nat){x:Str}{o k e:Expr}{apos cpos pos pos':Pos}{B q:Ev}(F:PB X [z] k B:=by trivial)(G:PD X [z] e q:=by trivial)(J:X.A.units+1<cLine:=by assumption)(M:PE X o (gX z):=by exact pv _)(m:M2 X o "setdefault" apos k e cpos:=by constructor <;> rfl)(W:X.N.Nodup:=by assumption)(hi:X.N[i]?=some x:=by rfl)(U:Loc X.env.scope x:=by first|exact V3 rfl|exact WG rfl)(n:i≠z:=by decide)
  (hs:U5 (.Call (.Attribute o "setdefault" apos) [k,e] [] cpos) (some (.Name x pos')) pos.line X.env=pure false:=by rfl) (Y:X.fn x=true\/X.env.scope.names.lookup x=some .local:=by first|exact .inl rfl|exact .inr rfl) :
  PQ X z (.Assign [.Name x pos'] (.Call (.Attribute o "setdefault" apos) [k,e] [] cpos) pos) (xR i z (HM z B q)):=uX MA (u4 W hi U (FU J M F G m) hs Y) n
theorem NB(z:Nat){L:Lp}{O':List Nat}{x:Str}{k j m:Nat}{ps:List Str}{F:List D->Option (D×D)}{ep:Expr}{es:List Expr}{a:List Stmt}{fs:Lv}{M:Sv}{p pos cpos B:Pos}(O1:FnP X.prog X.w X.K X.mg X.base x k ps F)(ha:PSDs X L [z] a M O')(hr:Room j X.A:=by assumption)(N:PE X ep (gX z):=by exact pv _)(hs:tV X [z] es fs:=by trivial)(hl:Len fs m:=by trivial)(hm:m+1=ps.length:=by rfl)(W:k<=j:=by decide)(hb:Sub O' [z]=true:=by rfl)(U:Gl X x:=by rfl)
  (J:(x == ("__debug__" : Str))=false:=by decide) (Y:TL (ep::es) X.env=(false,eval ep X.env)::TL es X.env:=by rfl) (G:(UD cpos (TL es X.env)).any (·.1)=false:=by rfl)
  (ht:∀q,isTrue (.Call (.Name x p) (ep::es) [] cpos) X.env q=(do let v <- q;standAt (Expr.Call (.Name x p) (ep::es) [] cpos).pos;WR [v] (truthy v)):=by intro _;rfl) :
  PSD X L [z] (.If (.UnaryOp .Not (.Call (.Name x p) (ep::es) [] cpos) B) a [] pos) (HI z (vI z F fs) M HQ) O':=GQ BY (zH (O1.mono W) hr U N hs (λρ ds h=>by rw[hl ρ ds h];exact hm) J Y G) ha (qA hb) ht
end
section
variable {ρ ρ':bK}{f f0:Ev}{a:Bv}{l fs:Lv}{x y d e:D}{xs es:List D}{i j z:Nat}{s t:Qv}{o:Option OutQ}
theorem bN{d:D}(h:f ρ=some d)(e:ρ.set i (some d)=ρ'):eD i f ρ=some (.nx ρ'):=e ▸ aY h
def SD(p:OutQ)(t:Qv):Option OutQ:=match p with
 | .nx ρ=>t ρ
 | p=>some p
theorem gQ{p:OutQ}(h:s ρ=some p)(k:SD p t=o):MG s t ρ=o:=by unfold MG;rw[h,aA];exact k
theorem xJ(k:t ρ=o):SD (.nx ρ) t=o:=k
theorem tR{c:Bool}(h:a ρ=some c)(k:NA c (s ρ) (t ρ)=o):P6 a s t ρ=o:=by unfold P6;rw[h,aA];exact k
theorem IT{w:Gv}(h:f ρ=some d)(k:w d ρ=some ρ'):HC f w ρ=some (.nx ρ'):=by unfold HC;rw[h,aA,k,aI]
theorem G0{q:Qe}(h:q ρ=some (d,e))(k:(ρ.set z (some e)).set i (some d)=ρ'):xR i z q ρ=some (.nx ρ'):=by unfold xR;rw[h,aI,k]
theorem GI{n:Nat}{q:Qv}{ds:List D}(h:q (aE n ds)=some (.rt d e)):D8 n q ds=some (d,e):=by unfold D8;rw[h,aA]
end
end P
namespace Law
open PySem PySem.Spec PyProof.Rows L2 P
local macro_rules | `(tactic|ac_rfl) => `(tactic|first
 | (with_reducible first|exact RG|exact K9|exact LF|exact rfl|assumption)
 | ((with_reducible apply JF);exact rfl)
 | (with_reducible first|apply iV|apply cZ|apply KI|apply aN|apply aB|apply aQ|apply aY|apply cJ|apply L9|apply gC|apply gB|apply u3|apply mL|apply xU|apply bG|apply DD|apply qC|apply G2|apply LY|apply pW|apply dH|apply G1|apply C3|apply pB|apply CJ|apply vG|apply oY|apply CI) <;> ac_rfl
 | ((with_reducible apply m9);(with_reducible first|exact rfl|(apply decide_eq_true;assumption));ac_rfl)
 | ((with_reducible apply qO);(with_reducible first|exact rfl|(apply decide_eq_false;assumption));ac_rfl)
 | (with_reducible apply m9) <;> ac_rfl
 | (with_reducible apply qO) <;> ac_rfl
 | (with_reducible first|apply bH|apply gD|apply q_eqI|apply N1|apply JH|apply F3|apply mF|apply decide_eq_true|apply decide_eq_false) <;> ac_rfl
 | (show bR _ _ _ _ _=_;assumption)
 | exact rfl
 | exact zaG rfl
 | decide
 | lia)
local macro_rules | `(tactic|simp_all[$xs,*]) => `(tactic|simp[-TR, -TU, aA, aI, $xs,*])
noncomputable def top(i:Nat):Stmt:=PySem.Challenge.pw_chiefway_k21_ways_that_part.main.body.getD i (.Pass ⟨0,0,0,0⟩)
abbrev s_law:Stmt:=top 60
abbrev tb(x:Str)(i:Nat)(ps:List Str):=(x,i,ps)
def tab:List (Str×Nat×List Str):=[tb "_law_at" 41 ["script", "k"],tb "_law_unit" 43 ["M", "cell"],tb "_law_seats" 44 ["M", "script", "many"],tb "_law_road" 45 ["M", "seats", "j", "k", "cell"],tb "_law_roads" 46 ["M", "seats", "script"],tb "_law_spoiled" 49 ["M", "cell", "roads", "makes"],tb "_law_names" 42 ["cell", "many"],tb "_law_terms" 47 ["M", "seats", "takes", "gives", "some"],tb "_law_makes" 48 ["M", "seats", "script"],tb "_law_book" 50 ["script"],tb "is_whole" 8 ["thing"],tb "wheel" 9 ["thing"],tb "is_name" 31 ["text"],tb "check_kinds" 33 ["kinds"],tb "is_price" 35 ["price"],tb "on" 10 ["M", "n"],tb "roads_of" 34 ["M", "many", "roads"],tb "check_deeds" 39 ["makes"],tb "check_make" 37 ["many", "name", "takes", "gives", "price"],tb "form_of" 16 ["M", "sums"],tb "check_exponents" 15 ["n", "exponents"],tb "form" 14 ["M", "n", "terms"],tb "make_form" 38 ["M", "n", "terms"],tb "makes_of" 36 ["M", "many", "makes"],tb "book" 32 ["M", "kinds", "roads", "makes"],tb "ways" 18 ["book", "j", "k"],tb "turned" 11 ["M", "turn", "x"],tb "then" 12 ["M", "one", "other"],tb "turn_of" 19 ["book", "way"],tb "turns_part" 23 ["book", "one", "other"],tb "unlike_ways" 22 ["book", "j", "k"],tb "way_fault" 21 ["book"],tb "_law_walked" 53 ["M", "roads", "many", "cell"],tb "_law_walks" 54 ["M", "script", "roads", "many"],tb "_law_due" 58 ["seen", "found", "walk"],tb "_law_numbers" 57 ["found"],tb "_law_along" 52 ["M", "roads", "way", "x"],tb "_law_led" 55 ["roads", "j", "way"],tb "_law_parted" 56 ["M", "roads", "found"],tb "_law_between" 59 ["M", "roads", "found", "walk"]]
noncomputable def blt:List Str:=["all", "bool", "enumerate", "int", "isinstance", "len", "list", "max", "min", "range", "sorted", "tuple"]
noncomputable def RT:List (Str×Int):=[("MOST_KINDS",6),("MOST_MAKES",16),("MOST_OF_A_DEED",6),("MOST_POWER",2),("MOST_ROADS",12)]
theorem sc_law:FnScope ["script", "M", "kinds", "roads", "makes", "made", "found", "seen", "walk"] ["script"] (aF s_law):=⟨rfl,rfl,rfl,by decide +kernel,rfl,by decide +kernel,by decide +kernel⟩
structure Txt(K:TK)(mg:Str->Option Value):Prop where
 d:∀p∈tab,My.DefAt K mg p.1 (top p.2.1) p.2.2
 b:∀x∈blt,mg x=none
 g:∀p∈RT,GInt mg p.1 p.2
 g_WORDS:GTup K mg "WORDS" ["let", "in", "pick", "again"]
theorem Txt.n{K:TK}{mg:Str->Option Value}(T:Txt K mg){x:Str}(h:x∈blt:=by decide +kernel):mg x=none:=T.b x h
abbrev Tx(P:TN)(w:World)(K:TK)(mg:Str->Option Value)(base:Heap):Prop:=Txt K mg
abbrev Zt(x:Str)(ps:List Str)(k n:Nat):Type:={b:Sv // ∀ {P:TN} {w:World} {K:TK} {mg:Str->Option Value} {base:Heap},Tx P w K mg base->Fn P w K mg base x k ps (bA n b)}
def d9(N:List Str)(i:Nat){x:Str}{ps:List Str}{k:Nat}{b:Sv}(h:∀ {P:TN} {w:World} {K:TK} {mg:Str->Option Value} {base:Heap} {F:Addr} {B:Value} {A:TZ} {q:List Env} {H:Hp} {E:XK} (T:Tx P w K mg base) (s:TH) (nd:N.Nodup) (G:Room k (A.deeper (U4 x (aF (top i)) s.heap.objs.size F B))) (hu:(A.deeper (U4 x (aF (top i)) s.heap.objs.size F B)).units+1<cLine),∃g,PSDs (iW tY P w K mg base N x (aF (top i)) F B A q s H E).nox ⟨[],[]⟩ [] (bB (top i)) g []/\g=b)(m:(x,i,ps)∈tab:=by decide +kernel)(sc:FnScope N ps (aF (top i)):=by exact⟨rfl,rfl,rfl,by decide +kernel,rfl,by decide +kernel,by decide +kernel⟩):Zt x ps (k+1) N.length:=⟨b,λT=>IE (T.d _ m) sc λF B A q s H E G=>h T s sc.nd G (xQ G)⟩
abbrev Zr(x:Str)(ps:List Str)(k n m:Nat):Type:={b:(List D->Option D)->Sv // ∀ {P:TN} {w:World} {K:TK} {mg:Str->Option Value} {base:Heap},Tx P w K mg base->Fn P w K mg base x (k+m+1) ps (vR n b m)}
def PR(N:List Str)(i:Nat){x:Str}{ps:List Str}{k m:Nat}{b:(List D->Option D)->Sv}(h:∀ {P:TN} {w:World} {K:TK} {mg:Str->Option Value} {base:Heap} {fa:Addr} {cdv:Value} {A:TZ} {outer:List Env} {H:Hp} {E:XK} (T:Tx P w K mg base) (R:List D->Option D) (j:Nat) (hj:k<=j) (ih:Fn P w K mg base x j ps R) (s:TH) (nd:N.Nodup) (hr:Room j (A.deeper (U4 x (aF (top i)) s.heap.objs.size fa cdv))) (hu:(A.deeper (U4 x (aF (top i)) s.heap.objs.size fa cdv)).units+1<cLine),∃g,PSDs (iW tY P w K mg base N x (aF (top i)) fa cdv A outer s H E).nox ⟨[],[]⟩ [] (bB (top i)) g []/\g=b R)(me:(x,i,ps)∈tab:=by decide +kernel)(sc:FnScope N ps (aF (top i)):=by exact⟨rfl,rfl,rfl,by decide +kernel,rfl,by decide +kernel,by decide +kernel⟩):Zr x ps k N.length m:=⟨b,λT=>by
 induction m with
 | zero=>exact GN (T.d _ me) sc
 | succ m ih=>exact IE (T.d _ me) sc λfa cdv A outer s H E hr=>h T _ (k+m+1) (by lia) ih s sc.nd hr (xQ hr)⟩
local macro_rules | `(tactic|exists $x:ident) => `(tactic|(refine' (?f:∀y:(List D -> Option D) -> Sv, Subtype.val $x = y -> (List D -> Option D) -> Sv) _ ?h;(case h => unfold $x;(try unfold PR);(try dsimp only);try exact rfl);(case f => exact λy _ => y)))
local macro_rules | `(tactic|exists $x:ident) => `(tactic|(refine' (?f:∀y:Sv, Subtype.val $x = y -> Sv) _ ?h;(case h => unfold $x;(try unfold d9);(try dsimp only);try exact rfl);(case f => exact λy _ => y)))
theorem QZ{X:Cx}{O:List Nat}{p:Pos}(T:Txt X.K X.mg)(q:Gl X "MOST_KINDS"):PD X O (.Name "MOST_KINDS" p) (eC (.int 6)):=iR (T.g ("MOST_KINDS",6) (by decide +kernel)) q
theorem QX{X:Cx}{O:List Nat}{p:Pos}(T:Txt X.K X.mg)(q:Gl X "MOST_MAKES"):PD X O (.Name "MOST_MAKES" p) (eC (.int 16)):=iR (T.g ("MOST_MAKES",16) (by decide +kernel)) q
theorem QH{X:Cx}{O:List Nat}{p:Pos}(T:Txt X.K X.mg)(q:Gl X "MOST_OF_A_DEED"):PD X O (.Name "MOST_OF_A_DEED" p) (eC (.int 6)):=iR (T.g ("MOST_OF_A_DEED",6) (by decide +kernel)) q
theorem Q8{X:Cx}{O:List Nat}{p:Pos}(T:Txt X.K X.mg)(q:Gl X "MOST_POWER"):PD X O (.Name "MOST_POWER" p) (eC (.int 2)):=iR (T.g ("MOST_POWER",2) (by decide +kernel)) q
theorem QD{X:Cx}{O:List Nat}{p:Pos}(T:Txt X.K X.mg)(q:Gl X "MOST_ROADS"):PD X O (.Name "MOST_ROADS" p) (eC (.int 12)):=iR (T.g ("MOST_ROADS",12) (by decide +kernel)) q
theorem gt_0{X:Cx}{O:List Nat}{e:Expr}{f:Ev}{p pos:Pos}(T:Txt X.K X.mg)(q:Gl X "WORDS")(B:PB X O e f):kB X O (.Compare e [.In] [.Name "WORDS" p] pos) (mS (oX (HB false ["let", "in", "pick", "again"]) f)):=ER T.g_WORDS q B
local macro_rules | `(tactic|trivial) => `(tactic|first
 | (show PB _ _ _ _;first|(apply vB <;> trivial)|(apply PD.b <;> trivial))
 | (show PD _ _ _ _;first|(apply vD <;> trivial)|(apply wE <;> trivial)|((first|apply JX|apply OM|apply S8|apply TC|apply RF|apply wt|apply N3|apply LC|apply JI|apply Q0|apply QV|apply QW|apply OD|apply NC|apply NM|apply QZ|apply QX|apply QH|apply Q8|apply QD|apply N0|apply JB|apply GT|apply SX|apply KR|apply LH|apply JP|apply AU|apply JZ|apply GP|apply SK|apply PF.d) <;> trivial))
 | (show tV _ _ _ _;((first|apply FD|apply TB) <;> trivial))
 | (show mR _ _ _ _;((first|apply wH|apply RV) <;> trivial))
 | (show Len _ _;((first|apply l0|apply lc) <;> trivial))
 | (show dR _ _ _;((first|apply FS|apply K2|apply JE|apply FW|apply L8|apply L6|apply J7|apply LS|apply EX|apply SZ|apply S5|apply S0|apply S4|apply S1) <;> trivial))
 | (show At _ _ _;first|exact at_ 0|exact at_ 1|exact at_ 2|exact at_ 3|exact at_ 4|exact at_ 5|exact at_ 6|exact at_ 7|exact at_ 8|exact at_ 9|exact at_ 10|exact at_ 11|exact at_ 12|exact at_ 13|exact at_ 14)
 | (show kB _ _ _ _;first|((first|apply gt_0|apply Q5|apply tc|apply yL|apply t9|apply ES) <;> trivial)|(apply PDW.pt <;> trivial)|(apply EZ <;> trivial))
 | (show PDW _ _ _ _;((first|apply EM|apply LO|apply AY|apply FH) <;> trivial))
 | (show IN _ _ _ _;((first|apply BK|apply BH) <;> trivial))
 | (show PDI _ _ _ _ _;((first|apply uN|apply uT|apply CA|apply B0) <;> trivial))
 | (show vU _ _ _ _;first|(apply gV <;> trivial)|(apply gu 2 <;> trivial)|(apply gu 5 <;> trivial))
 | (show vQ _ _ _ _;((first|apply AH|apply gc) <;> trivial))
 | (show My.AE _ _ _;((first|apply BF|apply AZ) <;> trivial))
 | (show PF _ _ _ _;((first|apply wl|apply QF|apply SV) <;> trivial))
 | rfl
 | assumption
 | exact Txt.n (by assumption)
 | exact .inl rfl
 | exact .inr rfl
 | exact .inr (.inl rfl)
 | exact .inr (.inr rfl)
 | exact λ_=>rfl
 | exact λ_ _=>rfl
 | (with_unfolding_all rfl)
 | (constructor <;> rfl)
 | exact T5 _
 | (refine UV ?_ (by assumption);decide))
seal PD PB PF tV mR kB PDW PDI IN PSD PSDs Fn dR TY UQ
def dO:Zt "_law_at" ["script", "k"] 1 3:=d9 ["script", "k", "cell"] 41 λT s F B q=>by exact⟨_,(c0 (a9 aM) (c0 (aH 2) (c0 (a9 (aG (aH 2))) (c0 (aH 2) aM)))),rfl⟩
def iH:Sv:=by exists dO
def cI:=bA 3 iH
def k6:Zt "_law_unit" ["M", "cell"] 1 5:=d9 ["M", "cell", "one", "back", "k"] 43 λT s F B q=>by exact⟨_,(c0 (aH 2) (c0 (aH 3) (c0 (bL [] [] (c0 (aH 2) (aG (aH 3)))) (c0 (a9 (c0 (aH 2) (aG (aH 3)))) (c0 (a9 aM) aM))))),rfl⟩
def kU:Sv:=by exists k6
def gM:=bA 5 kU
def jT:Zt "_law_seats" ["M", "script", "many"] 2 8:=d9 ["M", "script", "many", "out", "k", "cell", "one", "back"] 44 λT s F B q=>by have:=fx cI (dO.2 T);have:=fx gM (k6.2 T);exact⟨_,(cO [3] (cK 3) (c0 (bL [3] [] (cO [3] (aH 5) (cO [3] (fJ (by trivial) (fG (My.gP (n:=2) rfl (by trivial)))) (aG (j9 3))))) aM)),rfl⟩
def jE:Sv:=by exists jT
def eJ:=bA 8 jE
def kO:Zt "_law_road" ["M", "seats", "j", "k", "cell"] 1 7:=d9 ["M", "seats", "j", "k", "cell", "a", "b"] 45 λT s F B q=>by exact⟨_,(c0 (aH 5) (c0 (aH 6) aM)),rfl⟩
def kW:Sv:=by exists kO
def lG:=bA 7 kW
def jQ:Zt "_law_roads" ["M", "seats", "script"] 2 9:=d9 ["M", "seats", "script", "many", "out", "k", "cell", "j", "spot"] 46 λT s F B q=>by have:=fx cI (dO.2 T);have:=fx lG (kO.2 T);exact⟨_,(c0 (aH 3) (cO [4] (cK 4) (cO [4] (bL [4] [4] (cO [4] (aH 6) (cO [4] (aH 7) (cO [4] (a9 (aG (aH 7))) (aG (a9 (aG (j9 4)))))))) (c0 (bL [4] [] (cO [4] (aH 6) (aG (a9 (cO [4] (aH 7) (aG (j9 4))))))) (c0 (aH 8) aM))))),rfl⟩
def jL:Sv:=by exists jQ
def eM:=bA 9 jL
def f9:Zt "_law_spoiled" ["M", "cell", "roads", "makes"] 1 15:=d9 ["M", "cell", "roads", "makes", "at", "j", "k", "a", "b", "coin", "name", "takes", "gives", "terms", "more"] 49 λT s F B q=>by exact⟨_,(c0 (a9 (c0 (aH 4) (c0 (fJ (by trivial) (fG (My.gP (n:=5) rfl (by trivial)))) (c0 (a9 aM) aM)))) (c0 (a9 (c0 (aH 4) (c0 (fJ (by trivial) (fG (My.gP (n:=5) rfl (by trivial)))) (c0 (aH 14) (c0 (a9 (aG (aH 14))) (c0 (aH 13) aM)))))) aM)),rfl⟩
def a7:Sv:=by exists f9
def fW:=bA 15 a7
def eT:Zt "_law_names" ["cell", "many"] 1 8:=d9 ["cell", "many", "letters", "size", "spot", "out", "k", "signs"] 42 λT s F B q=>by exact⟨_,(c0 (aH 2) (c0 (aH 3) (c0 (aH 4) (cO [5] (cK 5) (c0 (bL [5] [] (cO [5,7] (cK 7 (DA (by trivial) (by trivial))) (cO [5] (DH 7) (cO [5] (a9 (aG (aH 7 (PF.d (DA (by trivial) (by trivial)))))) (aG (j9 5)))))) aM))))),rfl⟩
def jG:Sv:=by exists eT
def eQ:=bA 8 jG
def jV:Zt "_law_terms" ["M", "seats", "takes", "gives", "some"] 1 10:=d9 ["M", "seats", "takes", "gives", "some", "i", "o", "rows", "e", "d"] 47 λT s F B q=>by exact⟨_,(c0 (aH 5) (c0 (aH 6) (c0 (RB (c0 (aH 7) (aG (aH 7))) (c0 (aH 8) (c0 (aH 9) (c0 (aH 7) (c0 (aH 7) (aG (aH 7))))))) (aM (PF.d (mB s ["es", "c", "seats", "gives", "M"] [none,none,some 1,some 3,some 0])))))),rfl⟩
def eU:Sv:=by exists jV
def jZ:=bA 10 eU
def jS:Zt "_law_makes" ["M", "seats", "script"] 2 15:=d9 ["M", "seats", "script", "many", "some", "names", "alone", "size", "out", "k", "cell", "takes", "gives", "n", "terms"] 48 λT s F B q=>by have:=fx cI (dO.2 T);have:=fx eQ (eT.2 T);have:=fx jZ (jV.2 T);exact⟨_,(c0 (aH 3) (c0 (vJ 4 s ["k", "script", "M"] [none,some 2,some 0]) (c0 (aH 5) (c0 (aH 6) (c0 (aH 7) (c0 (a9 (aG (aH 7))) (cO [8] (cK 8) (c0 (bL [8] [] (cO [8] (aH 10) (cO [8] (aH 11) (cO [8] (aH 12) (cO [8] (aH 13) (cO [8] (a9 (aG (aH 13))) (cO [8] (aH 14) (aG (j9 8))))))))) aM)))))))),rfl⟩
def j4:Sv:=by exists jS
def eO:=bA 15 j4
def kZ:Zt "_law_book" ["script"] 3 6:=d9 ["script", "M", "many", "seats", "roads", "makes"] 50 λT s F B q=>by have:=fx cI (dO.2 T);have:=fx eO (jS.2 T);have:=fx eQ (eT.2 T);have:=fx eM (jQ.2 T);have:=fx eJ (jT.2 T);have:=fx fW (f9.2 T);exact⟨_,(c0 (aH 1) (c0 (a9 (aG (aH 1))) (c0 (aH 2) (c0 (a9 (aG (aH 2))) (c0 (aH 3) (c0 (aH 4) (c0 (fJ (by trivial) (fG (My.gP (n:=2) rfl (by trivial)))) aM))))))),rfl⟩
def lA:Sv:=by exists kZ
def gJ:=bA 6 lA
def lF:Zt "is_whole" ["thing"] 1 1:=d9 ["thing"] 8 λT s F B q=>by exact⟨_,aM,rfl⟩
def uR:Sv:=by exists lF
def uV:=bA 1 uR
def vY:Zt "wheel" ["thing"] 2 1:=d9 ["thing"] 9 λT s F B q=>by have:=fx uV (lF.2 T);exact⟨_,(c0 b9 (c0 b9 (c0 b9 aM))),rfl⟩
def wD:Sv:=by exists vY
def w9:=bA 1 wD
def iZ:Zt "is_name" ["text"] 1 1:=d9 ["text"] 31 λT s F B q=>by exact⟨_,(c0 (a9 aM) (aM (cB (C1 rfl) T.n My.boot_all (RV (PD.b (PF.d (mB s ["sign"] [none]))) (by trivial))))),rfl⟩
def oM:Sv:=by exists iZ
def iX:=bA 1 oM
def fP:Zt "check_kinds" ["kinds"] 2 3:=d9 ["kinds", "number", "kind"] 33 λT s F B q=>by have:=fx iX (iZ.2 T);exact⟨_,(c0 b9 (aG (bL [] [] (c0 b9 (aG b9))))),rfl⟩
def fO:Sv:=by exists fP
def f7:=bA 3 fO
def gK:Zt "is_price" ["price"] 1 1:=d9 ["price"] 35 λT s F B q=>by exact⟨_,aM,rfl⟩
def lD:Sv:=by exists gK
def gF:=bA 1 lD
def D7:Zt "on" ["M", "n"] 1 2:=d9 ["M", "n"] 10 λT s F B q=>by exact⟨_,aM,rfl⟩
def PJ:Sv:=by exists D7
def vT:=bA 2 PJ
def lI:Zt "roads_of" ["M", "many", "roads"] 2 9:=d9 ["M", "many", "roads", "told", "j", "k", "a", "b", "price"] 34 λT s F B q=>by have:=fx gF (gK.2 T);have:=fx vT (D7.2 T);exact⟨_,(c0 b9 (cO [3] (cK 3) (c0 (bL [3] [] (cO [3] b9 (cO [3] b9 (aG (j9 3))))) aM))),rfl⟩
def lE:Sv:=by exists lI
def kR:=bA 9 lE
def f6:Zt "check_deeds" ["makes"] 1 8:=d9 ["makes", "counted", "name", "takes", "gives", "terms", "price", "deed"] 39 λT s F B q=>by exact⟨_,(cO [1] (cK 1 l8) (aG (bL [1] [] (cO [1] (aH 7) (cO [1] (DH 1) (aG b9)))))),rfl⟩
def fU:Sv:=by exists f6
def fV:=bA 8 fU
def hV:Zt "check_make" ["many", "name", "takes", "gives", "price"] 2 6:=d9 ["many", "name", "takes", "gives", "price", "kind"] 37 λT s F B q=>by have:=fx iX (iZ.2 T);have:=fx gF (gK.2 T);exact⟨_,(c0 b9 (c0 b9 (c0 (bL [] [] (aG b9)) (aG b9)))),rfl⟩
def hU:Sv:=by exists hV
def g6:=bA 6 hU
def nN:Zt "form_of" ["M", "sums"] 2 2:=d9 ["M", "sums"] 16 λT s F B q=>by have:=fx vT (D7.2 T);exact⟨_,(aM (RU rN T.n My.boot_tuple (RV (PD.b (PF.d (mB s ["exponents", "c", "M"] [none,none,some 0]))) (by trivial)))),rfl⟩
def nZ:Sv:=by exists nN
def oK:=bA 2 nZ
def dA:Zt "check_exponents" ["n", "exponents"] 1 3:=d9 ["n", "exponents", "exponent"] 15 λT s F B q=>by exact⟨_,(c0 b9 (aG (bL [] [] (aG b9)))),rfl⟩
def c9:Sv:=by exists dA
def dB:=bA 3 c9
def CZ:Zt "form" ["M", "n", "terms"] 3 6:=d9 ["M", "n", "terms", "sums", "exponents", "c"] 14 λT s F B q=>by have:=fx dB (dA.2 T);have:=fx oK (nN.2 T);exact⟨_,(c0 b9 (cO [3] (cK 3 l8) (c0 (bL [3] [] (cO [3] mI (aG (DH 3)))) aM))),rfl⟩
def CM:Sv:=by exists CZ
def CY:=bA 6 CM
def jF:Zt "make_form" ["M", "n", "terms"] 4 7:=d9 ["M", "n", "terms", "told", "e", "exponents", "c"] 38 λT s F B q=>by have:=fx CY (CZ.2 T);exact⟨_,(c0 (GB (λ_ _ z=>z) (aG (aH 3))) (c0 (bL [] [] (aG b9)) aM)),rfl⟩
def jP:Sv:=by exists jF
def jI:=bA 7 jP
def lB:Zt "makes_of" ["M", "many", "makes"] 5 9:=d9 ["M", "many", "makes", "told", "name", "takes", "gives", "terms", "price"] 36 λT s F B q=>by have:=fx fV (f6.2 T);have:=fx g6 (hV.2 T);have:=fx jI (jF.2 T);exact⟨_,(c0 b9 (cO [3] (cK 3) (c0 (bL [3] [] (cO [3] mI (aG (j9 3)))) (c0 mI aM)))),rfl⟩
def kT:Sv:=by exists lB
def kY:=bA 9 kT
def CT:Zt "book" ["M", "kinds", "roads", "makes"] 6 4:=d9 ["M", "kinds", "roads", "makes"] 32 λT s F B q=>by have:=fx f7 (fP.2 T);have:=fx kY (lB.2 T);have:=fx kR (lI.2 T);have:=fx w9 (vY.2 T);exact⟨_,(c0 mI (c0 mI aM)),rfl⟩
def CS:Sv:=by exists CT
def qG:=bA 4 CS
def CF:Zr "ways" ["book", "j", "k"] 0 6 7:=PR ["book", "j", "k", "told", "number", "road"] 18 λT R j G ih s q J B=>by exact⟨_,(c0 (a9 aM) (cO [3] (cK 3) (c0 (bL [3] [] (aG (a9 (aG (uO (i:=3) (pv 3) (PF.d (mB s ["way", "number"] [none,some 4])) rfl (DQ PySem.F.plainAttrs_list PySem.F.slot_list_extend PySem.F.type_list_extend My.t6 (pv 3) (dE (PD.pe (PF.d (mB s ["way", "number"] [none,some 4]))) jD)))))) (by trivial) (xH (u9 (n:=2) rfl (nH (λa b=>(l5 a b)) (sW (pR (i:=4) q rfl (WG rfl))) (by trivial))))) aM))),rfl⟩
def gO:(List D->Option D)->Sv:=by exists CF
def DF:=vR 6 gO 7
def l7:Zt "turned" ["M", "turn", "x"] 2 3:=d9 ["M", "turn", "x"] 11 λT s F B q=>by have:=fx vT (D7.2 T);exact⟨_,aM,rfl⟩
def sX:Sv:=by exists l7
def iL:=bA 3 sX
def C6:Zt "then" ["M", "one", "other"] 3 3:=d9 ["M", "one", "other"] 12 λT s F B q=>by have:=fx vT (D7.2 T);have:=fx iL (l7.2 T);exact⟨_,aM,rfl⟩
def CU:Sv:=by exists C6
def CN:=bA 3 CU
def nT:Zt "turn_of" ["book", "way"] 4 4:=d9 ["book", "way", "turn", "number"] 19 λT s F B q=>by have:=fx CN (C6.2 T);exact⟨_,(c0 (aH 2) (c0 (bL [] [] (aG (aH 2))) aM)),rfl⟩
def nJ:Sv:=by exists nT
def nG:=bA 4 nJ
def g8:Zt "turns_part" ["book", "one", "other"] 5 4:=d9 ["book", "one", "other", "x"] 23 λT s F B q=>by have:=fx nG (nT.2 T);have:=fx iL (l7.2 T);exact⟨_,(c0 (bL [] [] (aG (a9 aM))) aM),rfl⟩
def hZ:Sv:=by exists g8
def g9:=bA 4 hZ
def gA:Zt "unlike_ways" ["book", "j", "k"] 9 6:=d9 ["book", "j", "k", "told", "other", "x"] 22 λT s F B q=>by have:=fx g9 (g8.2 T);have:=fx DF (CF.2 T);exact⟨_,(c0 (aH 3) (c0 (bL [] [] (c0 (aH 5) (aG (a9 aM)))) aM)),rfl⟩
def fY:Sv:=by exists gA
def dI:=bA 6 fY
def jY:Zt "way_fault" ["book"] 10 5:=d9 ["book", "many", "j", "k", "found"] 21 λT s F B q=>by have:=fx dI (gA.2 T);exact⟨_,(c0 (aH 1) (c0 (bL [] [] (aG (bL [] [] (c0 (aH 4) (aG (a9 aM)))))) aM)),rfl⟩
def j5:Sv:=by exists jY
def j6:=bA 5 j5
def iC:Zt "_law_walked" ["M", "roads", "many", "cell"] 1 10:=d9 ["M", "roads", "many", "cell", "at", "out", "going", "r", "low", "high"] 53 λT s F B q=>by exact⟨_,(c0 (aH 4) (c0 (aH 3) (cO [5] (cK 5) (cO [5] (vJ 6 s ["r", "roads", "at"] [none,some 1,some 4]) (c0 (N6 [5] [] (cO [5] (aH 7) (cO [5] (aH 3) (cO [5] (aH 8) (cO [5] (aH 9) (cO [5] (j9 5) (aG (vJ 6 s ["n", "roads", "r"] [none,some 1,some 7])))))))) aM))))),rfl⟩
def g7:Sv:=by exists iC
def dS:=bA 10 g7
def jN:Zt "_law_walks" ["M", "script", "roads", "many"] 2 6:=d9 ["M", "script", "roads", "many", "out", "k"] 54 λT s F B q=>by have:=fx cI (dO.2 T);have:=fx dS (iC.2 T);exact⟨_,(c0 (aH 4) (c0 (bL [] [] (aG (aH 4))) aM)),rfl⟩
def jW:Sv:=by exists jN
def eS:=bA 6 jW
abbrev Fq:=List D->Option (D×D)
def SH(N:List Str)(i:Nat){x:Str}{ps:List Str}{k:Nat}{b:Qv}(h:∀ {P:TN} {w:World} {K:TK} {mg:Str->Option Value} {base:Heap} {F:Addr} {B:Value} {A:TZ} {q:List Env} {H:Hp} {E:XK} (T:Tx P w K mg base) (s:TH) (nd:N.Nodup) (G:Room k (A.deeper (U4 x (aF (top i)) s.heap.objs.size F B))) (hu:(A.deeper (U4 x (aF (top i)) s.heap.objs.size F B)).units+1<cLine),∃g,HR (iW tY P w K mg base N x (aF (top i)) F B A q s H E).nox 0 (bB (top i)) g/\g=b)(m:(x,i,ps)∈tab:=by decide +kernel)(sc:FnScope N ps (aF (top i)):=by exact⟨rfl,rfl,rfl,by decide +kernel,rfl,by decide +kernel,by decide +kernel⟩):{b:Qv // ∀ {P:TN} {w:World} {K:TK} {mg:Str->Option Value} {base:Heap},Tx P w K mg base->FnP P w K mg base x (k+1) ps (D8 N.length b)}:=⟨b,λT=>KP (T.d _ m) sc λF B A q s H E G=>h T s sc.nd G (xQ G)⟩
def i6:=SH (x := "_law_due") (ps:=["seen", "found", "walk"]) (k:=0) ["seen", "found", "walk", "j", "k", "way", "low", "high", "first"] 58 λT s F B q=>by exact⟨_,(kJ (JS (S9 5 (PV (gz 3) (PV (gz 4) (PV (gz 5) (PV (gz 6) (PV (gz 7) AV)))))))
 (kJ (LQ 8)
 (kJ (IG (vE vA))
 (kJ (IG (vE vA))
 (vE vA))))),rfl⟩
def nD:Qv:=by
 refine' (?f:∀y:Qv,Subtype.val i6=y->Qv) _ ?h
 case h=>unfold i6;unfold SH;dsimp only;exact rfl
 case f=>exact λy _=>y
def oF:Fq:=D8 9 nD
theorem t8{P:TN}{w:World}{K:TK}{mg:Str->Option Value}{base:Heap}(T:Tx P w K mg base):FnP P w K mg base "_law_due" 1 ["seen", "found", "walk"] oF:=i6.2 T
def fZ:Zt "_law_numbers" ["found"] 1 2:=d9 ["found", "n"] 57 λT s F B q=>by exact⟨_,(c0 (bL [] [] (aG (a9 aM))) aM),rfl⟩
def fR:Sv:=by exists fZ
def fS:=bA 2 fR
def eR:Zt "_law_along" ["M", "roads", "way", "x"] 1 5:=d9 ["M", "roads", "way", "x", "r"] 52 λT s F B q=>by exact⟨_,(c0 (bL [] [] (aG (aH 3))) aM),rfl⟩
def jH:Sv:=by exists eR
def eP:=bA 5 jH
def nO:Zt "_law_led" ["roads", "j", "way"] 1 4:=d9 ["roads", "j", "way", "r"] 55 λT s F B q=>by exact⟨_,(c0 (a9 aM) (c0 (bL [] [] (c0 (a9 aM) (aG (aH 1)))) aM)),rfl⟩
def nU:Sv:=by exists nO
def nX:=bA 4 nU
def iB:Zt "_law_parted" ["M", "roads", "found"] 2 10:=d9 ["M", "roads", "found", "j", "k", "one", "other", "x", "low", "high"] 56 λT s F B q=>by have:=fx eP (eR.2 T);have:=fx nX (nO.2 T);exact⟨_,(c0 (fJ (by trivial) (fG (My.gP (n:=5) rfl (by trivial)))) (c0 (a9 aM) (c0 (aH 8) (c0 (aH 9) (c0 (a9 aM) aM))))),rfl⟩
def g5:Sv:=by exists iB
def hJ:=bA 10 g5
def fT:Zt "_law_between" ["M", "roads", "found", "walk"] 2 5:=d9 ["M", "roads", "found", "walk", "due"] 59 λT s F B q=>by have:=fx eP (eR.2 T);exact⟨_,(c0 (a9 aM) (c0 (aH 4) aM)),rfl⟩
def fQ:Sv:=by exists fT
def fX:=bA 5 fQ
def HY:{b:Sv // ∀ {P:TN} {w:World} {K:TK} {mg:Str->Option Value} {base:Heap},Tx P w K mg base->SU P w K mg base ["script", "M", "kinds", "roads", "makes", "made", "found", "seen", "walk"] "law" s_law 10 b}:=⟨_,λT G B A q s H E F=>by have M:=xQ F;have J:=sc_law.nd;have:=fx qG (CT.2 T);have:=fx fX (fT.2 T);have:=fx gJ (kZ.2 T);have:=fx fS (fZ.2 T);have:=fx hJ (iB.2 T);have:=fx eS (jN.2 T);have:=fx j6 (jY.2 T);exact⟨_,(c0 (fJ (by trivial) (fG (My.gP (n:=4) rfl (by trivial)))) (c0 (aH 5) (c0 (aH 6) (c0 (a9 aM) (c0 (a9 (c0 (a9 aM) (aG (a9 aM)))) (cO [7] (cK 7 l8) (c0 (bL [7] [] (cO [7] (NB 7 (t8 T) (PSDs.pre (O1:=[]) aM rfl)) (aG (a9 (PSDs.pre (O1:=[]) aM rfl))))) aM))))))),rfl⟩⟩
def DO:Sv:=by exists HY
def Bd(k:Nat)(x:Int):Prop:=-(10^k)<x/\x<10^k
theorem Bd.mono(h:Bd k x)(l:k<=m):Bd m x:=by
 have:(10:Int)^k<=10^m:=by
  have:=Nat.pow_le_pow_right (show 0<10 by decide) l;exact_mod_cast this
 exact⟨by have:=h.1;lia,by have:=h.2;lia⟩
theorem Bd.mul(h:Bd k x)(g:Bd m y):Bd (k+m) (x*y):=by
 have:=L3 h.1 h.2 g.1 g.2;unfold Bd;rw[Int.pow_add];exact this
theorem Bd.add(h:Bd k x)(g:Bd k y):Bd (k+1) (x+y):=by
 have a:=h.1;have b:=h.2;have c:=g.1;have d:=g.2;unfold Bd;rw[Int.pow_succ];constructor <;> lia
theorem Bd.neg(h:Bd k x):Bd k (-x):=⟨by have:=h.2;lia,by have:=h.1;lia⟩
theorem Bd.mulH(h:Bd k x)(g:Bd m y)(B:k<=500)(q:m<=500):bZ (.int x) (.int y)=some (.int (x*y)):=by
 have e:(10:Int)^500=10^250*10^250:=by rw[<- Int.pow_add]
 have h':=h.mono B;have g':=g.mono q;unfold Bd at h' g';rw[e]at h' g';exact cF h'.1 h'.2 g'.1 g'.2
theorem Bd.of(q:M<10^60)(h:0<=x/\x<=M):Bd 60 x:=by
 have:(0:Int)<10^60:=by decide +kernel
 exact⟨by lia,by lia⟩
theorem Bd.mod(h0:0<M)(q:M<10^60):Bd 61 (x%M):=(Bd.of q ⟨T7 x (UT h0),WI (T8 x h0)⟩).mono (by decide)
theorem eV(ns:List Int):∃f:Int->Int,∀k:Int,0<=k->k<=1000->cI [.lst (ns.map .int),.int k]=some (.int (f k)):=by
 have h:∀k:Int,∃c:Int,0<=k->k<=1000->cI [.lst (ns.map .int),.int k]=some (.int c):=λk=>by
  by_cases h0:0<=k
  ·by_cases h1:k<=1000
   ·by_cases B:k<(ns.length:Int)
    ·obtain⟨c,G,_⟩:=sG h0 B
     exact⟨c,λ_ _=>aP (by simp_all[iH,aE,B,G])⟩
    ·have N:bZ (.int 40692) (.int k)=some (.int (40692*k)):=cF (by decide +kernel) (by decide +kernel) (by lia) (by lia)
     have U:bZ (.int k) (.int k)=some (.int (k*k)):=cF (by lia) (by lia) (by lia) (by lia);have fin:∀y:Int,-(100000000000)<y->y<100000000000->bZ (.int y) (.int 48271)=some (.int (y*48271))/\bZ (.int (y*48271%2147483647)) (.int (y*48271%2147483647))=some (.int (y*48271%2147483647*(y*48271%2147483647))):=λy a b=>by
      have c:=T7 (y*48271) (show(2147483647:Int)≠0 by decide);have d:=T8 (y*48271) (show(0:Int)<2147483647 by decide);exact⟨cF (by lia) (by lia) (by decide +kernel) (by decide +kernel),cF (by lia) (by lia) (by lia) (by lia)⟩
     by_cases F:(0:Int)<(ns.length:Int)
     ·have q:0<ns.length:=by lia
      obtain⟨c,G,_⟩:=sG (ns:=ns) (k:=k*k%(ns.length:Int)) (T7 _ (UT F)) (T8 _ F);have c0:=T7 c (show(2147483647:Int)≠0 by decide);have W:=T8 c (show(0:Int)<2147483647 by decide);obtain⟨J,M⟩:=fin (40692*k+1+c%2147483647) (by lia) (by lia);exact⟨_,λ_ _=>aP (by simp_all[iH,aE,B,N,U,q,bH F,G,bH,J,M];rfl)⟩
     ·have q:¬ 0<ns.length:=by lia
      obtain⟨J,M⟩:=fin (40692*k+1) (by lia) (by lia);exact⟨_,λ_ _=>aP (by simp_all[iH,aE,B,N,q,bH,J,M];rfl)⟩
   ·exact⟨0,λ_ z=>absurd z h1⟩
  ·exact⟨0,λz=>absurd z h0⟩
 exact⟨λk=>(h k).choose,λk=>(h k).choose_spec⟩
theorem uK(Y:3<=M)(J:M<10^60):∃a b:Int,gM [.int M,.int c]=some (.tup [.int a,.int b])/\(0<=a/\a<=M)/\0<=b/\b<=M:=by
 suffices h:∃d,gM [.int M,.int c]=some d/\∃a b:Int,d=.tup [.int a,.int b]/\(0<=a/\a<=M)/\0<=b/\b<=M by
  obtain⟨d,e,a,b,rfl,h⟩:=h;exact⟨a,b,e,h⟩
 have G:(10:Int)^60=1000000000000000000000000000000000000000000000000000000000000:=by decide +kernel
 have q:0<M:=by lia
 have N:=T7 c (show(5:Int)≠0 by decide);have v1:=T8 c (show(0:Int)<5 by decide);refine d7 ?_;unfold kU;rw[aD (aY (d:=.int 1) (by simp[-TR,-TU,aA,aI]))];rw[aD (aY (d:=.int 1) (by simp[-TR,-TU,aA,aI]))];refine i9 (items:=aU 0 1 (c%5).toNat) (by simp_all[aE,bH,cU N (show c%5<=1000000 by lia)]) (λi ρ=>∃(a b:Int) (o:Option D),ρ=[some (.int M),some (.int c),some (.int a),some (.int b),o]/\(0<=a/\a<M)/\0<=b/\b<M) ⟨1,1,none,by ac_rfl,by lia,by lia,by lia⟩ ?_ ?_
 ·rintro i x ρ hx ⟨a,b,o,rfl,B,F⟩
  have U:bZ (.int a) (.int 2)=some (.int (a*2)):=cF (by lia) (by lia) (by decide +kernel) (by decide +kernel);have W:bZ (.int b) (.int ((M+1)/2))=some (.int (b*((M+1)/2))):=cF (by lia) (by lia) (by lia) (by lia);refine⟨[some (.int M),some (.int c),some (.int (a*2%M)),some (.int (b*((M+1)/2)%M)),some x],?_,_,_,_,rfl,⟨T7 _ (UT q),T8 _ q⟩,T7 _ (UT q),T8 _ q⟩;simp_all[turn,U,W,gD,bH q]
 ·rintro ρ ⟨a,b,o,rfl,B,F⟩
  refine pP (λρ=>∃(a b:Int),ρ=[some (.int M),some (.int c),some (.int a),some (.int b),o]/\(0<=a/\a<=M)/\0<=b/\b<=M) ?_ ?_
  ·by_cases h:c/5%2=1
   ·exact⟨_,by ac_rfl,M-a,M-b,rfl,by lia,by lia,by lia⟩
   ·exact⟨_,by ac_rfl,a,b,rfl,by lia,by lia,by lia⟩
  ·rintro ρ ⟨a,b,rfl,B,F⟩
   by_cases h:c/10%2=1
   ·exact⟨_,KZ (by ac_rfl),b,a,rfl,F,B⟩
   ·rw[aD (ρ':=[some (.int M),some (.int c),some (.int a),some (.int b),o]) (by ac_rfl)]
    exact⟨_,by simp[-TR,-TU,aA,aI],a,b,rfl,B,F⟩
structure Se where
 x:Int
 y:Int
 z:Int
noncomputable def eI(s:Se):D:=.tup [.int s.x,.int s.y,.int s.z]
def M3(M:Int)(s:Se):Prop:=(0<=s.x/\s.x<=M)/\(0<=s.y/\s.y<=M)/\0<=s.z/\s.z<=M
theorem OU:aO (eI s) (.int 0)=some (.int s.x):=by unfold eI;rw[q_itT];exact at0
theorem RI:aO (eI s) (.int 1)=some (.int s.y):=by unfold eI;rw[q_itT];exact at1
theorem qT{ns:List Int}{M many:Int}(Y:3<=M)(q:M<10^60)(hm:1<=many/\many<=6):∃ss:List Se,eJ [.int M,.lst (ns.map .int),.int many]=some (.lst (ss.map eI))/\(ss.length:Int)=many/\∀s∈ss,M3 M s:=by
 suffices h:∃d,eJ [.int M,.lst (ns.map .int),.int many]=some d/\∃ss:List Se,d=.lst (ss.map eI)/\(ss.length:Int)=many/\∀s∈ss,M3 M s by
  obtain⟨d,e,ss,rfl,h⟩:=h;exact⟨ss,e,h⟩
 obtain⟨f,hf⟩:=eV ns;have B:0<M:=by lia
 refine d7 ?_;unfold jE;rw[aD (aY (d:=.lst []) (by simp[-TR,-TU,aA,aI]))];refine i9 (items:=aU 0 1 many.toNat) (by simp_all[aE,cU (show 0<=many by lia) (show many<=1000000 by lia)]) (λi ρ=>∃(ss:List Se) (U F N J:Option D),ρ=[some (.int M),some (.lst (ns.map .int)),some (.int many),some (.lst (ss.map eI)),U,F,N,J]/\ss.length=i/\∀s∈ss,M3 M s) ⟨[],none,none,none,none,by ac_rfl,rfl,λ_ h=>nomatch h⟩ ?_ ?_
 ·rintro i x ρ hx ⟨ss,U,F,N,J,rfl,G,hs⟩
  obtain⟨ad,rfl⟩:=bD hx;have hI:0<=(0:Int)+(i:Int)*1/\(0:Int)+(i:Int)*1<=6:=by lia
  generalize (0:Int)+(i:Int)*1=I at hI;have W:=hf (4+I) (by lia) (by lia);generalize f (4+I)=c at W;obtain⟨a,b,eu,ha,hb⟩:=uK (c:=c) Y q;have z0:=T7 (c/20) (UT B);have z1:=T8 (c/20) B;have hz:aV ss.length=true:=decide_eq_true (by lia);refine⟨[some (.int M),some (.lst (ns.map .int)),some (.int many),some (.lst ((ss++[(⟨a,b,c/20%M⟩:Se)]).map eI)),some (.int I),some (.int c),some (.int a),some (.int b)],?_,_,_,_,_,_,rfl,by simp_all[G],λs h=>?_⟩
  ·simp_all[turn,W,eu,gD,bH B,hz,eI]
  ·rcases List.mem_append.mp h with z|z
   ·exact hs s z
   ·rw[List.mem_singleton.mp z];exact⟨ha,hb,z0,by show c/20%M<=M;lia⟩
 ·rintro ρ ⟨ss,U,F,N,J,rfl,G,hs⟩
  rw[bC]at G;exact⟨_,by simp[-TR,-TU,aA,aI],ss,rfl,by lia,hs⟩
def vW(many:Int)(r:Ro):Prop:=(0<=r.j/\r.j<r.k/\r.k<many)/\0<=r.p/\r.p<=10^30/\Bd 61 r.a/\Bd 61 r.b
theorem pA{ss:List Se}{i:Int}(h0:0<=i)(h:i<(ss.length:Int)):∃s∈ss,c7 (ss.map eI) i=some (eI s):=by
 obtain⟨d,q,_,e⟩:=DK (l:=ss.map eI) (k:=i) h0 (by rw[T2];exact h);obtain⟨s,hs,rfl⟩:=List.mem_map.mp q;exact⟨s,hs,e⟩
theorem kX{M many j k c:Int}{ss:List Se}(h3:3<=M)(W:M<10^60)(hl:(ss.length:Int)=many)(hs:∀s∈ss,M3 M s)(N:0<=j)(jk:j<k)(km:k<many):∃r:Ro,lG [.int M,.lst (ss.map eI),.int j,.int k,.int c]=some (aT r)/\r.j=j/\r.k=k/\vW many r:=by
 have ag:(10:Int)^60=1000000000000000000000000000000000000000000000000000000000000:=by decide +kernel
 have ac:(10:Int)^30=1000000000000000000000000000000:=by decide +kernel
 have B:0<M:=by lia
 obtain⟨s,J,es⟩:=pA (ss:=ss) (i:=j) N (by lia);obtain⟨t,G,et⟩:=pA (ss:=ss) (i:=k) (by lia) (by lia);obtain⟨s1,s2,s3⟩:=hs s J;obtain⟨t1,t2,t3⟩:=hs t G;have m1:bZ (.int t.x) (.int s.y)=some (.int (t.x*s.y)):=cF (by lia) (by lia) (by lia) (by lia);have a0:=T7 (t.x*s.y) (UT B);have U:=T8 (t.x*s.y) B;generalize hA:t.x*s.y%M=A at a0 U;have m2:bZ (.int A) (.int s.z)=some (.int (A*s.z)):=cF (by lia) (by lia) (by lia) (by lia);have e0:=T7 (c/3) (show(2:Int)≠0 by decide);have e1:=T8 (c/3) (show(0:Int)<2 by decide);have g0:=T7 (c/5) (show(2:Int)≠0 by decide);have Y:=T8 (c/5) (show(0:Int)<2 by decide);have m3:bZ (.int M) (.int (c/3%2))=some (.int (M*(c/3%2))):=cF (by lia) (by lia) (by lia) (by lia);have m4:bZ (.int M) (.int (c/5%2))=some (.int (M*(c/5%2))):=cF (by lia) (by lia) (by lia) (by lia);have w0:=T7 (c/7) (show(1000000000000000000000000000000:Int)≠0 by decide);have w1:=T8 (c/7) (show(0:Int)<1000000000000000000000000000000 by decide);have pw:vS (.int 10) (.int 30)=some (.int 1000000000000000000000000000000):=tL (by decide) (by decide) (by decide);have dm:eB (.int (c/7)) (.int 1000000000000000000000000000000)=some (.int (c/7%1000000000000000000000000000000)):=bH (by decide);have F:∀ {x y:Int},(0<=x/\x<=M)->0<=y->y<2->Bd 61 (x-M*y):=λ{x y} hx y0 y1=>by
  have q:(10:Int)^61=10000000000000000000000000000000000000000000000000000000000000:=by decide +kernel
  have:y=0\/y=1:=by lia
  rcases this with rfl|rfl
  ·exact⟨by rw[q];lia,by rw[q];lia⟩
  ·exact⟨by rw[q];lia,by rw[q];lia⟩
 refine⟨⟨j,k,A-M*(c/3%2),(t.z-A*s.z)%M-M*(c/5%2),c/7%1000000000000000000000000000000⟩,aP ?_,rfl,rfl,⟨N,jk,km⟩,w0,by show c/7%1000000000000000000000000000000<=_;lia,F ⟨a0,WI U⟩ e0 e1,F ⟨T7 _ (UT B),WI (T8 _ B)⟩ g0 Y⟩;unfold kW;rw[aD (aY (d:=.int A) (by simp_all[aE,es,et,OU,RI,m1,bH B,hA]))];rw[aD (aY (d:=.int ((t.z-A*s.z)%M)) (by ac_rfl))];simp_all[aE,gD,bH,m3,m4,pw,dm,aT]
theorem rE{ns:List Int}{M many:Int}{ss:List Se}(h3:3<=M)(U:M<10^60)(hm:1<=many/\many<=6)(hl:(ss.length:Int)=many)(hs:∀s∈ss,M3 M s):∃rs:List Ro,eM [.int M,.lst (ss.map eI),.lst (ns.map .int)]=some (.lst (rs.map aT))/\rs.length<=12/\∀r∈rs,vW many r:=by
 suffices h:∃d,eM [.int M,.lst (ss.map eI),.lst (ns.map .int)]=some d/\∃rs:List Ro,d=.lst (rs.map aT)/\rs.length<=12/\∀r∈rs,vW many r by
  obtain⟨d,e,rs,rfl,h⟩:=h;exact⟨rs,e,h⟩
 obtain⟨f,hf⟩:=eV ns;have f3:=hf 3 (by decide) (by decide);have Y:∀ {rs:List Ro} {r:Ro},(∀r∈rs,vW many r)->vW many r->∀q∈rs++[r],vW many q:=λh k q hq=>by
  rcases List.mem_append.mp hq with z|z
  ·exact h q z
  ·rw[List.mem_singleton.mp z];exact k
 refine d7 ?_;unfold jL;have el:gW [.lst (ss.map eI)]=some (.int many):=by rw[q_lenL,T2,hl]
 refine dM (aY (aQ (by ac_rfl) el)) (dM (ρ':=List.set _ 4 (some (.lst []))) (by ac_rfl) ?_);have r1:b8 [.int 1,.int many]=some (aU 1 1 (many-1).toNat):=cP (by decide) (by decide) (by lia) (by lia);refine i9 (items:=aU 1 1 (many-1).toNat) (by ac_rfl) (λi ρ=>∃(rs:List Ro) (G J F:Option D),ρ=[some (.int M),some (.lst (ss.map eI)),some (.lst (ns.map .int)),some (.int many),some (.lst (rs.map aT)),G,J,F,none]/\rs.length<=i/\∀r∈rs,vW many r) ⟨[],none,none,none,by ac_rfl,by simp[-TR,-TU,aA,aI],λ_ h=>nomatch h⟩ ?_ ?_
 ·rintro i x ρ hx ⟨rs,G,J,F,rfl,W,B⟩
  obtain⟨ae,rfl⟩:=bD hx;have hI:1<=(1:Int)+(i:Int)*1/\(1:Int)+(i:Int)*1<many:=by lia
  generalize (1:Int)+(i:Int)*1=I at hI;have fI:=hf (9+I) (by lia) (by lia);generalize f (9+I)=c at fI;have hz:(rs.map aT).length<=1000000:=by rw[T2];lia
  have pI:0<I+1:=by lia
  have N:=T7 (c/11) (UT pI);have w1:=T8 (c/11) pI;have hj:∃j:Int,-1<=j/\j<I/\bT (eD 7 (bU HE (aL 5) (eC (.int 1)))) (tW (mS (bU vV (bU eB (aW cI (aK (aL 2) (aK (eC (.int 3)) bO))) (eC (.int 3))) (eC (.int 2)))) (eD 7 (bU HE (bU eB (bU qQ (aL 6) (eC (.int 11))) (bU b5 (aL 5) (eC (.int 1)))) (eC (.int 1)))) HQ) [some (.int M),some (.lst (ss.map eI)),some (.lst (ns.map .int)),some (.int many),some (.lst (rs.map aT)),some (.int I),some (.int c),F,none]=some (.nx [some (.int M),some (.lst (ss.map eI)),some (.lst (ns.map .int)),some (.int many),some (.lst (rs.map aT)),some (.int I),some (.int c),some (.int j),none]):=by
   by_cases h:f 3%3=2
   ·exact⟨c/11%(I+1)-1,by lia,by lia,by simp_all[f3,bH,h,gD,bH pI]⟩
   ·exact⟨I-1,by lia,by lia,by ac_rfl⟩
  obtain⟨j,j0,j1,ej⟩:=hj;have es:∀ {g h k:Sv} {ρ:bK},bT g (bT h k) ρ=bT (bT g h) k ρ:=by
   intro g h k ρ;unfold bT;cases g ρ with
   | none=>rfl
   | some o=>cases o <;> rfl
  by_cases h:0<=j
  ·obtain⟨r,er,_,_,ok⟩:=kX (c:=c/77) h3 U hl hs h j1 hI.2
   apply fK
   ·refine dH rfl (cZ (by ac_rfl) (iV ?_))
    rw[es];exact cZ ej (iV (by ac_rfl))
   ·exact⟨rs++[r],_,_,_,by rw[VX];rfl,by simp[-TR,-TU,aA,aI];lia,Y B ok⟩
  ·apply fK
   ·refine dH rfl (cZ (by ac_rfl) (iV ?_))
    rw[es];exact cZ ej (iV (by ac_rfl))
   ·exact⟨rs,_,_,_,rfl,by lia,B⟩
 ·rintro ρ ⟨rs,G,J,F,rfl,W,B⟩
  rw[bC]at W;have r2:b8 [.int 15,.int 19]=some (aU 15 1 4):=cP (by decide) (by decide) (by decide) (by decide);refine i9 (items:=aU 15 1 4) (by ac_rfl) (λi ρ=>∃(rs:List Ro) (G J F:Option D),ρ=[some (.int M),some (.lst (ss.map eI)),some (.lst (ns.map .int)),some (.int many),some (.lst (rs.map aT)),G,J,F,none]/\rs.length<=5+i/\∀r∈rs,vW many r) ⟨rs,G,J,F,rfl,by lia,B⟩ ?_ ?_
  ·rintro i x ρ hx ⟨rs,G,J,F,rfl,W,B⟩
   obtain⟨ae,rfl⟩:=bD hx;have hI:15<=(15:Int)+(i:Int)*1/\(15:Int)+(i:Int)*1<19:=by lia
   generalize (15:Int)+(i:Int)*1=I at hI;have fI:=hf I (by lia) (by lia);generalize f I=c at fI;have hz:(rs.map aT).length<=1000000:=by rw[T2];lia
   by_cases h1:1<many
   ·by_cases h2:c%2=1
    ·have p1:0<many-1:=by lia
     have N:=T7 (c/2) (UT p1);have w1:=T8 (c/2) p1;have d1:eB (.int (c/2)) (.int (many-1))=some (.int (c/2%(many-1))):=bH p1;generalize c/2%(many-1)=j at N w1 d1;have p2:0<many-1-j:=by lia
     have u0:=T7 (c/10) (UT p2);have u1:=T8 (c/10) p2;obtain⟨r,er,_,_,ok⟩:=kX (j:=j) (k:=j+1+c/10%(many-1-j)) (c:=c/50) h3 U hl hs N (by lia) (by lia);apply fK
     ·exact dH rfl (by ac_rfl)
     ·exact⟨rs++[r],_,_,_,by rw[VX];rfl,by simp[-TR,-TU,aA,aI];lia,Y B ok⟩
    ·apply fK
     ·exact dH rfl (by ac_rfl)
     ·exact⟨rs,_,_,_,rfl,by lia,B⟩
   ·apply fK
    ·exact dH rfl (by ac_rfl)
    ·exact⟨rs,_,_,_,rfl,by lia,B⟩
  ·rintro ρ ⟨rs,G,J,F,rfl,W,B⟩
   rw[bC]at W;have ln:(rs.map aT).length=rs.length:=T2 ..;have lp:(0:Int)<((rs.map aT).length:Int)+1:=by lia
   have N:=T7 (f 3/3) (UT lp);have w1:=T8 (f 3/3) lp;refine dM (by ac_rfl) ?_;generalize f 3/3%(((rs.map aT).length:Int)+1)=sp at N w1;obtain⟨c1,c2⟩:=mC (w:=rs.map aT) (c:=sp) N (by lia);refine⟨.lst ((rs.drop sp.toNat++rs.take sp.toNat).map aT),?_,_,rfl,by simp[-TR,-TU,aA,aI];lia,λr h=>?_⟩
   ·have d1:gR (.lst (rs.map aT)) (some sp) none=some (.lst ((rs.map aT).drop sp.toNat)):=by rw[q_slL,c2]
    have d2:gR (.lst (rs.map aT)) none (some sp)=some (.lst ((rs.map aT).take sp.toNat)):=by rw[q_slL,c1]
    have hz:((rs.map aT).drop sp.toNat).length+((rs.map aT).take sp.toNat).length<=1000000:=by simp[-TR,-TU,aA,aI];lia
    rw[VX,List.map_drop,List.map_take]
    ac_rfl
   ·rcases List.mem_append.mp h with z|z
    ·exact B r (List.mem_of_mem_drop z)
    ·exact B r (List.mem_of_mem_take z)
def QA(n:Nat)(t:My.Tm):Prop:=t.1.length=n/\(∀e∈t.1,0<=e/\e<=2)/\Bd 61 t.2
theorem gH(B:0<M)(es:c7 S g=some (eI s))(q:s.x=x):∀(ts:List My.Tm) (o1 o2:Option D),(∀t∈ts,bZ (.int x) (.int t.2)=some (.int (x*t.2)))->bR (mN 2 (dZ (bX 0) (dZ (bX 1) tO))) D3 (gT (aK (aL 0) (aK (bU eB (bU bZ (bU aO (bU aO (aL 2) (aL 3)) (eC (.int 0))) (aL 1)) (aL 4)) bO))) (ts.map gE) [o1,o2,some (.lst S),some (.int g),some (.int M)]=some ((ts.map λt=>(t.1,x*t.2%M)).map gE)
 | [],_,_,_=>rfl
 | t::ts,o1,o2,h=>by
  have ih:=gH B es q ts (some (tupI t.1)) (some (.int t.2)) λu F=>h u (UN _ F)
  have m:=h t (UW ..);rw[T1,bR];simp[-TR,-TU,aA,aI,gE,es,OU,q,m,bH B]at ih ⊢;simp_all[ih]
theorem rF{M many g:Int}{ss:List Se}{tk so:List Int}(h3:3<=M)(B:M<10^60)(hl:(ss.length:Int)=many)(hs:∀s∈ss,M3 M s)(ak:(∃t,tk=[t])\/∃t u,tk=[t,u])(ac:∀t∈tk,0<=t/\t<many)(g0:0<=g)(g1:g<many)(al:∃a b c d:Int,so=[a,b,c,d])(W:∀x∈so,0<=x/\x<=M) :
  ∃ts:List My.Tm,jZ [.int M,.lst (ss.map eI),tupI tk,.int g,.lst (so.map .int)]=some (.lst (ts.map gE))/\ts.length<=6/\∀t∈ts,QA tk.length t:=by
 have Mp:0<M:=by lia
 obtain⟨a,b,c,d,rfl⟩:=al;have ba:=Bd.of B (W a (by simp[-TR,-TU,aA,aI]));have bb:=Bd.of B (W b (by simp[-TR,-TU,aA,aI]));have J:=Bd.of B (W c (by simp[-TR,-TU,aA,aI]));have N:=Bd.of B (W d (by simp[-TR,-TU,aA,aI]));obtain⟨⟨X,Y,Z⟩,aq,es⟩:=pA (ss:=ss) (i:=g) g0 (by lia);obtain⟨s1,s2,s3⟩:=hs _ aq;have bx:Bd 60 X:=Bd.of B s1;have ag:Bd 60 Y:=Bd.of B s2;have bz:Bd 60 Z:=Bd.of B s3;have b1:c7 (ss.map eI) g=some (.tup [.int X,.int Y,.int Z]):=es;have two:Bd 60 2:=⟨by decide +kernel,by decide +kernel⟩;have v3:=ag.mul bz;have m3:=ag.mulH bz (by decide) (by decide);have U:∀ {v:Int},Bd 400 v->bZ (.int X) (.int v)=some (.int (X*v)):=λh=>bx.mulH h (by decide) (by decide)
 rcases ak with⟨t,rfl⟩|⟨t,u,rfl⟩
 ·have t0:=ac t (by simp[-TR,-TU,aA,aI])
  obtain⟨⟨_,i,z⟩,ad,er⟩:=pA (ss:=ss) (i:=t) t0.1 (by lia);obtain⟨r1,r2,r3⟩:=hs _ ad;have F:Bd 60 i:=Bd.of B r2;have bw:Bd 60 z:=Bd.of B r3;have G:=F.neg.mul bw;have mo:=F.neg.mulH bw (by decide) (by decide);have ap:c7 (ss.map eI) t=some (.tup [.int _,.int i,.int z]):=er;generalize -i*z=o at G mo;have n1:=bb.mulH G (by decide) (by decide);have n2:=J.mulH G (by decide) (by decide);have n3:=(J.mul G).mulH G (by decide) (by decide);have n4:=J.mulH F (by decide) (by decide);have n5:=(J.mul F).mulH F (by decide) (by decide);have n6:=bb.mulH F (by decide) (by decide);have n7:=two.mulH J (by decide) (by decide);have n8:=(two.mul J).mulH F (by decide) (by decide);have n9:=((two.mul J).mul F).mulH G (by decide) (by decide);have e1:=U ((((ba.mono (show 60<=300 by decide)).add ((bb.mul G).mono (show 60+(60+60)<=300 by decide))).add (((J.mul G).mul G).mono (show 60+(60+60)+(60+60)<=300+1 by decide))).mono (show 300+1+1<=400 by decide));have e2:=U (((J.mul F).mul F).mono (show 60+60+60<=400 by decide));have e3:=U ((((bb.mul F).mono (show 60+60<=350 by decide)).add ((((two.mul J).mul F).mul G).mono (show 60+60+60+(60+60)<=350 by decide))).mono (show 350+1<=400 by decide));have e4:=U (v3.mono (show 60+60<=400 by decide));have cm:=gH Mp es rfl [([0],a+b*o+c*o*o),([2],c*i*i),([1],b*i+2*c*i*o),([0],Y*Z)] none none (by simp only[U0,U1,or_false];rintro t (rfl|rfl|rfl|rfl) <;> assumption);refine⟨_,aP (d:=.lst (_)) (by unfold eU;ac_rfl),by simp[-TR,-TU,aA,aI],λq hq=>?_⟩;simp only[T1,W2,U0,U1,or_false]at hq;rcases hq with rfl|rfl|rfl|rfl <;> exact⟨rfl,by simp[-TR,-TU,aA,aI],Bd.mod Mp B⟩
 ·have t0:=ac t (by simp[-TR,-TU,aA,aI])
  have u0:=ac u (by simp[-TR,-TU,aA,aI]);obtain⟨⟨_,i,z⟩,ad,er⟩:=pA (ss:=ss) (i:=t) t0.1 (by lia);obtain⟨⟨_,e,w⟩,ar,eq⟩:=pA (ss:=ss) (i:=u) u0.1 (by lia);obtain⟨r1,r2,r3⟩:=hs _ ad;obtain⟨q1,q2,q3⟩:=hs _ ar;have F:Bd 60 i:=Bd.of B r2;have bw:Bd 60 z:=Bd.of B r3;have G:=F.neg.mul bw;have mo:=F.neg.mulH bw (by decide) (by decide);have be:Bd 60 e:=Bd.of B q2;have bv:Bd 60 w:=Bd.of B q3;have bp:=be.neg.mul bv;have mp:=be.neg.mulH bv (by decide) (by decide);have ap:c7 (ss.map eI) t=some (.tup [.int _,.int i,.int z]):=er;have b3:c7 (ss.map eI) u=some (.tup [.int _,.int e,.int w]):=eq;generalize -i*z=o at G mo;generalize -e*w=p at bp mp;have n1:=N.mulH F (by decide) (by decide);have n2:=(N.mul F).mulH be (by decide) (by decide);have n3:=bb.mulH G (by decide) (by decide);have n4:=J.mulH bp (by decide) (by decide);have n5:=N.mulH G (by decide) (by decide);have n6:=(N.mul G).mulH bp (by decide) (by decide);have n7:=J.mulH be (by decide) (by decide);have n8:=(N.mul G).mulH be (by decide) (by decide);have n9:=bb.mulH F (by decide) (by decide);have bl:=(N.mul F).mulH bp (by decide) (by decide);have e1:=U (((N.mul F).mul be).mono (show 60+60+60<=400 by decide));have e2:=U (((((ba.mono (show 60<=300 by decide)).add ((bb.mul G).mono (show 60+(60+60)<=300 by decide))).add ((J.mul bp).mono (show 60+(60+60)<=300+1 by decide))).add (((N.mul G).mul bp).mono (show 60+(60+60)+(60+60)<=300+1+1 by decide))).mono (show 300+1+1+1<=400 by decide));have e3:=U ((((J.mul be).mono (show 60+60<=350 by decide)).add (((N.mul G).mul be).mono (show 60+(60+60)+60<=350 by decide))).mono (show 350+1<=400 by decide));have e4:=U ((((bb.mul F).mono (show 60+60<=350 by decide)).add (((N.mul F).mul bp).mono (show 60+60+(60+60)<=350 by decide))).mono (show 350+1<=400 by decide));have e5:=U (v3.mono (show 60+60<=400 by decide));have cm:=gH Mp es rfl [([1,1],d*i*e),([0,0],a+b*o+c*p+d*o*p),([0,1],c*e+d*o*e),([1,0],b*i+d*i*p),([0,0],Y*Z)] none none (by simp only[U0,U1,or_false];rintro t (rfl|rfl|rfl|rfl|rfl) <;> assumption);refine⟨_,aP (d:=.lst (_)) (by unfold eU;ac_rfl),by simp[-TR,-TU,aA,aI],λq hq=>?_⟩;simp only[T1,W2,U0,U1,or_false]at hq;rcases hq with rfl|rfl|rfl|rfl|rfl <;> exact⟨rfl,by simp[-TR,-TU,aA,aI],Bd.mod Mp B⟩
theorem ED{ss:List Str}(h:∀s∈ss,∃n,s=⟨#[n]⟩):(ss.map (·.length)).sum=ss.length:=by
 induction ss with
 | nil=>rfl
 | cons s ss ih=>
  obtain⟨n,rfl⟩:=h s (UW ..);rw[T1,List.sum_cons,ih λt q=>h t (UN _ q),UK];show 1+ss.length=ss.length+1
  lia
noncomputable def sg(S:Str)(i:Int):Nat:=S.cps.toList.getD i.toNat 0
theorem FC(hz:z.length<=1000)(h0:0<=i)(h:i<(z.length:Int)):aO (.str z) (.int i)=some (.str ⟨#[sg z i]⟩):=by
 obtain⟨j,rfl⟩:∃j:Nat,i=(j:Int):=⟨i.toNat,by lia⟩;have q:j<z.cps.toList.length:=by rw[VF];show j<z.length;lia
 have e:c7 z.cps.toList (j:Int)=some z.cps.toList[j]:=b7 (by simp_all[q]);have B:sg z (j:Int)=z.cps.toList[j]:=by
  unfold sg;rw[V4,List.getD_eq_getElem?_getD,U8 q];rfl
 rw[B];show(if aV z.length then(c7 z.cps.toList (j:Int)).map (λc=>D.str ⟨#[c]⟩)else none)=_;rw[if_pos (show aV z.length=true from decide_eq_true (by lia)),e];rfl
theorem join_ones:∀l:List Nat,(Str.join "" (l.map λg=>(⟨#[g]⟩:Str))).cps.toList=l
 | []=>rfl
 | [g]=>rfl
 | g::g'::l=>by
  have ih:=join_ones (g'::l);show((⟨#[g]⟩:Str) ++ "" ++ Str.join "" ((g'::l).map λg=>(⟨#[g]⟩:Str))).cps.toList=_;have e:∀a b:Str,(a++b).cps=a.cps++b.cps:=λ_ _=>rfl
  rw[e,e,Array.toList_append,Array.toList_append,ih];rfl
theorem BJ:Txt.join sep ys=Str.join sep ys:=by
 have:=join_closes (sep:=sep) (sep':=sep) (ys:=ys) rfl;simpa using this
theorem B9(l:List Nat):((l.map λg=>(⟨#[g]⟩:Str)).map (·.length)).sum=l.length:=by
 rw[ED (ss:=l.map λg=>(⟨#[g]⟩:Str)) λs hs=>by obtain⟨g,_,rfl⟩:=List.mem_map.mp hs;exact⟨g,rfl⟩,T2]
noncomputable def low(c:Nat):Bool:=decide (97<=c) && decide (c<=122)
def mG(x:Str):Bool:=decide (1<=x.length) && decide (x.length<=8) && (x.cps.toList.all low) && !((["let", "in", "pick", "again"]:List Str).contains x)
theorem J5(c:Nat):(!decide ((⟨#[c]⟩:Str).cps.toList<("a" : Str).cps.toList))=decide (97<=c)/\(!decide (("z" : Str).cps.toList<(⟨#[c]⟩:Str).cps.toList))=decide (c<=122):=by
 have ea:("a" : Str).cps.toList=[97]:=by decide
 have B:("z" : Str).cps.toList=[122]:=by decide
 have q:(⟨#[c]⟩:Str).cps.toList=[c]:=rfl;rw[ea,B,q];have h1:([c]<[97])↔c<97:=by simp_all[List.cons_lt_cons_iff]
 have h2:([122]<[c])↔122<c:=by simp_all[List.cons_lt_cons_iff]
 constructor
 ·by_cases h:c<97
  ·rw[decide_eq_true (h1.mpr h),decide_eq_false (by lia)];rfl
  ·rw[decide_eq_false (λz=>h (h1.mp z)),decide_eq_true (by lia)];rfl
 ·by_cases h:122<c
  ·rw[decide_eq_true (h2.mpr h),decide_eq_false (by lia)];rfl
  ·rw[decide_eq_false (λz=>h (h2.mp z)),decide_eq_true (by lia)];rfl
theorem rZ:∀(cs:List Nat) (o:Option D),bR (bX 0) D3 (d6 tT tT (eC (.str "a")) (aL 0) (eC (.str "z"))) (cs.map λc=>.str ⟨#[c]⟩) [o]=some ((cs.map low).map .bl)
 | [],o=>rfl
 | c::cs,o=>by
  have ih:=rZ cs (some (.str ⟨#[c]⟩));obtain⟨B,F⟩:=J5 c;have q:tT (.str "a") (.str ⟨#[c]⟩)=some (.bl (decide (97<=c))):=by rw[q_leAS,B]
  have G:tT (.str ⟨#[c]⟩) (.str "z")=some (.bl (decide (c<=122))):=by rw[q_leAS,F]
  by_cases h:97<=c
  ·simp_all[-VM,-q_leAS,bR,d6,q,G,h,ih,low]
  ·simp_all[-VM,-q_leAS,bR,d6,q,h,ih,low]
theorem nE(hl:x.length<=1000):iX [.str x]=some (.bl (mG x)):=by
 refine aP ?_;have hz:aV x.length=true:=decide_eq_true (by lia);have le:gW [.str x]=some (.int (x.length:Int)):=if_pos hz;have W:=rZ x.cps.toList none;have G:aV (P.signs x).length=true:=by
  have:(P.signs x).length=x.length:=by unfold P.signs;rw[T2,VF];rfl
  rw[this];exact hz
 have Y:(List.map low x.cps.toList).all id=x.cps.toList.all low:=by rw[List.all_map];rfl
 unfold oM mG;by_cases h1:x.length<1
 ·have B:(x.length:Int)<1:=by lia
  have h2:decide (1<=x.length)=false:=decide_eq_false (by lia);rw[h2]
  ac_rfl
 ·have B:¬ (x.length:Int)<1:=by lia
  have h2:decide (1<=x.length)=true:=decide_eq_true (by lia);rw[h2];by_cases h8:8<x.length
  ·have q:(8:Int)<(x.length:Int):=by lia
   have F:decide (x.length<=8)=false:=decide_eq_false (by lia);rw[F]
   ac_rfl
  ·have q:¬ (8:Int)<(x.length:Int):=by lia
   have F:decide (x.length<=8)=true:=decide_eq_true (by lia);rw[F];unfold P.signs at G;by_cases J:x = "let" \/ x = "in" \/ x = "pick" \/ x = "again"
   ·have N:(["let", "in", "pick", "again"]:List Str).contains x=true:=by simpa using J
    rw[N]
    ac_rfl
   ·have N:(["let", "in", "pick", "again"]:List Str).contains x=false:=by simpa using J
    rw[N];have sg:P.signs x=x.cps.toList.map λc=>D.str ⟨#[c]⟩:=rfl
    have U:zX [.lst ((x.cps.toList.map low).map .bl)]=some (.bl (x.cps.toList.all low)):=by rw[q_all,Y]
    have M:aV x.cps.size=true:=hz;simp[-TR,-TU,aA,aI,-VM,-q_all,aE,le,B,q,J,sg,M,tZ,W]at U ⊢
    ac_rfl
theorem IB(h0:0<=i)(h:i<26):aO (.str "abcdefghijklmnopqrstuvwxyz") (.int i)=some (.str ⟨#[97+i.toNat]⟩):=by
 have l:("abcdefghijklmnopqrstuvwxyz" : Str).length=26:=by decide +kernel
 rw[FC (by rw[l];decide) h0 (by rw[l];exact h)];have:∀j:Fin 26,sg "abcdefghijklmnopqrstuvwxyz" (j.val:Int)=97+j.val:=by decide +kernel
 have e:=this ⟨i.toNat,by lia⟩;have q:((i.toNat:Nat):Int)=i:=by lia
 rw[q]at e;rw[e]
noncomputable def gY(c:Int):Int:=if c/26%8=0 then 1 else if c/26%8=7 then 8 else c/26%8+2
def kL(c k:Int):List Nat:=if c/1664%3=0 then UF (1+(c+k)%8).toNat (97+(c%26).toNat)else(UF (gY c).toNat (97+(c%26).toNat)).set (c/208%gY c).toNat (97+((c+1+k)%26).toNat)
def eE(c k:Int):Str:=⟨(kL c k).toArray⟩
theorem xT(c:Int):1<=gY c/\gY c<=8/\gY c≠2:=by
 unfold gY;have:=T7 (c/26) (show(8:Int)≠0 by decide);have:=T8 (c/26) (show(0:Int)<8 by decide);split
 ·lia
 ·split <;> lia
theorem iO(c k:Int):(kL c k).length=(if c/1664%3=0 then(1+(c+k)%8).toNat else(gY c).toNat):=by
 unfold kL;split <;> simp[-TR,-TU,aA,aI]
theorem vH(c k:Int):1<=(eE c k).length/\(eE c k).length<=8:=by
 have e:(eE c k).length=(kL c k).length:=by show(kL c k).toArray.size=_;simp[-TR,-TU,aA,aI]
 have z:=xT c;rw[e,iO];split <;> lia
theorem J9(c k:Int):(eE c k).cps.toList.all low=true:=by
 show(kL c k).toArray.toList.all low=true;rw[YF];intro x q;have q:x∈kL c k:=by simpa using q
 have a:x=97+(c%26).toNat\/x=97+((c+1+k)%26).toNat:=by
  unfold kL at q;split at q
  ·exact .inl (X1 q)
  ·rcases List.mem_or_eq_of_mem_set q with z|z
   ·exact .inl (X1 z)
   ·exact .inr z
 unfold low;have:97<=x/\x<=122:=by lia
 ac_rfl
theorem GF(c k:Int):∃(a s:Nat),∀i x,i≠s->(kL c k)[i]?=some x->x=a:=by
 unfold kL;split
 ·exact⟨97+(c%26).toNat,100,λi x _ h=>X1 (UJ h)⟩
 ·refine⟨97+(c%26).toNat,(c/208%gY c).toNat,λi x hi h=>?_⟩
  rw[YU (UH hi)]at h;exact X1 (UJ h)
theorem three{a s i j k x y z:Nat}{w:List Nat}(h:∀i x,i≠s->w[i]?=some x->x=a)(G:w[i]?=some x)(B:w[j]?=some y)(hz:w[k]?=some z)(n:i≠j/\i≠k/\j≠k)(m:x≠y/\x≠z/\y≠z):False:=by
 by_cases e:i=s
 ·have p:=h j y (λq=>n.1 (e.trans q.symm)) B
  have q:=h k z (λq=>n.2.1 (e.trans q.symm)) hz;exact m.2.2 (p.trans q.symm)
 ·have p:=h i x e G
  by_cases F:j=s
  ·exact m.2.1 (p.trans (h k z (λq=>n.2.2 (F.trans q.symm)) hz).symm)
  ·exact m.1 (p.trans (h j y F B).symm)
theorem pQ{c k:Int}{w:List Nat}(hw:w=[108,101,116]\/w=[112,105,99,107]\/w=[97,103,97,105,110]):kL c k≠w:=by
 rintro rfl;obtain⟨a,s,h⟩:=GF c k;rcases hw with e|e|e <;> rw[e]at h
 ·exact three (i:=0) (j:=1) (k:=2) h rfl rfl rfl (by decide) (by decide)
 ·exact three (i:=0) (j:=1) (k:=2) h rfl rfl rfl (by decide) (by decide)
 ·exact three (i:=0) (j:=1) (k:=3) h rfl rfl rfl (by decide) (by decide)
theorem JJ:kL c k≠[105,110]:=by
 intro e;have l:=congrArg V0 e;rw[iO]at l;have z:=xT c;unfold kL at e;split at e
 ·have h0:(105:Nat)∈[105,110]:=by decide
  have h1:(110:Nat)∈[105,110]:=by decide
  rw[<- e]at h0 h1;have:=(X1 h0).trans (X1 h1).symm
  lia
 ·rw[if_neg (by assumption)]at l
  have l:(gY c).toNat=2:=l
  lia
theorem ID(h0:0<=k)(h:k<25):mG (eE c k)=true:=by
 obtain⟨q,F⟩:=vH c k;have hw:(["let", "in", "pick", "again"]:List Str).contains (eE c k)=false:=by
  have e:∀s:Str,eE c k=s->kL c k=s.cps.toList:=λs z=>by rw[<- z];simp_all[eE]
  have M:("let" : Str).cps.toList=[108,101,116]:=by decide
  have J:("in" : Str).cps.toList=[105,110]:=by decide
  have B:("pick" : Str).cps.toList=[112,105,99,107]:=by decide
  have G:("again" : Str).cps.toList=[97,103,97,105,110]:=by decide
  have:¬ (eE c k = "let" \/ eE c k = "in" \/ eE c k = "pick" \/ eE c k = "again"):=by
   rintro(z|z|z|z)
   ·exact pQ (.inl M) (e _ z)
   ·exact JJ ((e _ z).trans J)
   ·exact pQ (.inr (.inl B)) (e _ z)
   ·exact pQ (.inr (.inr G)) (e _ z)
  simpa using this
 unfold mG;rw[hw,J9,decide_eq_true q,decide_eq_true F];rfl
theorem JV(h0:0<=k)(h:k<8)(h2:0<=m)(J:m<8)(e:eE c k=eE c m):k=m:=by
 have e:kL c k=kL c m:=by
  have:=congrArg (λs:Str=>s.cps.toList) e;simpa[eE]using this
 have z:=xT c;by_cases q:c/1664%3=0
 ·have l:=congrArg V0 e
  rw[iO,iO,if_pos q,if_pos q]at l
  lia
 ·unfold kL at e
  rw[if_neg q,if_neg q]at e;have B:=T7 (c/208) (show gY c≠0 by lia);have F:=T8 (c/208) (show 0<gY c by lia);have G:=congrArg (λl:List Nat=>l[(c/208%gY c).toNat]?) e;simp[-TR,-TU,aA,aI,List.getElem?_set,show(c/208%gY c).toNat<(gY c).toNat by lia]at G
  lia
theorem lS:∀n:Nat,(UF n [x]).flatten=UF n x
 | 0=>rfl
 | n+1=>by rw[WV,W3,lS n];rfl
theorem J0(l:List Nat)(h:l.length<=100):oV (.str "") (.lst (l.map λg=>.str ⟨#[g]⟩))=some (.str ⟨l.toArray⟩):=by
 have j:=JR (sep := "") (ss:=l.map λg=>(⟨#[g]⟩:Str)) (by
  rw[B9];show l.length+_*0<=_
  lia)
 rw[VM]at j;refine Eq.trans j ?_;congr 2;rw[BJ];have:=join_ones l;cases hs:Str.join "" (l.map λg=>(⟨#[g]⟩:Str))with
 | mk cps=>
  rw[hs]at this;simp only at this;rw[<- this]
theorem BC(h0:0<=i)(h:i<8):c7 [D.int 1,.int 3,.int 4,.int 5,.int 6,.int 7,.int 8,.int 8] i=some (.int (if i=0 then 1 else if i=7 then 8 else i+2)):=by
 have:i=0\/i=1\/i=2\/i=3\/i=4\/i=5\/i=6\/i=7:=by lia
 rcases this with rfl|rfl|rfl|rfl|rfl|rfl|rfl|rfl <;> rfl
theorem jJ(h0:0<=many)(h:many<=6):eQ [.int c,.int many]=some (.lst ((UU many.toNat).map λ(k:Nat)=>.str (eE c (k:Int)))):=by
 obtain⟨z1,z2,_⟩:=xT c;have i0:=T7 (c/26) (show(8:Int)≠0 by decide);have i1:=T8 (c/26) (show(0:Int)<8 by decide);have es:=BC i0 i1;have s0:=T7 (c/208) (show gY c≠0 by lia);have s1:=T8 (c/208) (show 0<gY c by lia);have a0:=T7 c (show(26:Int)≠0 by decide);have a1:=T8 c (show(0:Int)<26 by decide);have z8:aV 8=true:=rfl;refine aP ?_;unfold jG;rw[aD (aY (d:=.str "abcdefghijklmnopqrstuvwxyz") (by simp[-TR,-TU,aA,aI]))];rw[aD (aY (d:=.int (gY c)) (by simp_all[aE,gD,bH,es,gY,z8]))];rw[aD (aY (d:=.int (c/208%gY c)) (by ac_rfl))];rw[aD (aY (d:=.lst []) (by simp[-TR,-TU,aA,aI]))];refine cG (items:=aU 0 1 many.toNat) (by simp_all[aE,cU h0 (show many<=1000000 by lia)]) (λi ρ=>∃W N,ρ=[some (.int c),some (.int many),some (.str "abcdefghijklmnopqrstuvwxyz"),some (.int (gY c)),some (.int (c/208%gY c)),some (.lst ((UU i).map λ(k:Nat)=>.str (eE c (k:Int)))),W,N]) ⟨none,none,by ac_rfl⟩ ?_ ?_
 ·rintro i x ρ hx ⟨W,N,rfl⟩
  obtain⟨ab,rfl⟩:=bD hx;have hI:(0:Int)+(i:Int)*1=(i:Int):=by lia
  rw[hI];have b0:=T7 (c+1+(i:Int)) (show(26:Int)≠0 by decide);have b1:=T8 (c+1+(i:Int)) (show(0:Int)<26 by decide);have n0:=T7 (c+(i:Int)) (show(8:Int)≠0 by decide);have n1:=T8 (c+(i:Int)) (show(0:Int)<8 by decide);have hz:aV i=true:=decide_eq_true (by lia);have q:aV (gY c).toNat=true:=decide_eq_true (by lia);have M:aV (1+(c+(i:Int))%8).toNat=true:=decide_eq_true (by lia);have F:b6 (gY c)=true:=by simp only[b6,UR,decide_eq_true_eq];lia
  have U:b6 (1+(c+(i:Int))%8)=true:=by simp only[b6,UR,decide_eq_true_eq];lia
  have Y:=IB a0 a1;have e2:=IB b0 b1;have nl:(kL c (i:Int)).length<=100:=by rw[iO];split <;> lia
  have G:=J0 (kL c (i:Int)) nl;have pt:=J3 (l:=UF (gY c).toNat (D.str ⟨#[97+(c%26).toNat]⟩)) (k:=c/208%gY c) (e:=.str ⟨#[97+((c+1+(i:Int))%26).toNat]⟩) s0 (by rw[List.length_replicate];lia);refine⟨[some (.int c),some (.int many),some (.str "abcdefghijklmnopqrstuvwxyz"),some (.int (gY c)),some (.int (c/208%gY c)),some (.lst ((UU (i+1)).map λ(k:Nat)=>.str (eE c (k:Int)))),some (.int (i:Int)),some (.lst ((kL c (i:Int)).map λg=>.str ⟨#[g]⟩))],?_,_,_,rfl⟩;have rs:(UU (i+1)).map (λ(k:Nat)=>D.str (eE c (k:Int)))=(UU i).map (λ(k:Nat)=>D.str (eE c (k:Int)))++[.str (eE c (i:Int))]:=by rw[List.range_succ,VX];rfl
  rw[rs];by_cases J:c/1664%3=0
  ·have B:kL c (i:Int)=UF (1+(c+(i:Int))%8).toNat (97+(c%26).toNat):=by unfold kL;rw[if_pos J]
   rw[B,List.map_replicate]at G ⊢;have hs:eE c (i:Int)=⟨(UF (1+(c+(i:Int))%8).toNat (97+(c%26).toNat)).toArray⟩:=by unfold eE;rw[B]
   simp_all[turn,bH,gD,Y,e2,lS,q,M,F,U,pt,J,G,hz,hs]
  ·have B:kL c (i:Int)=(UF (gY c).toNat (97+(c%26).toNat)).set (c/208%gY c).toNat (97+((c+1+(i:Int))%26).toNat):=by unfold kL;rw[if_neg J]
   rw[B,List.map_set,List.map_replicate]at G ⊢;have hs:eE c (i:Int)=⟨((UF (gY c).toNat (97+(c%26).toNat)).set (c/208%gY c).toNat (97+((c+1+(i:Int))%26).toNat)).toArray⟩:=by unfold eE;rw[B]
   simp_all[turn,bH,gD,Y,e2,lS,q,F,pt,J,G,hz,hs]
 ·rintro ρ ⟨W,N,rfl⟩
  rw[bC];simp[-TR,-TU,aA,aI]
structure Mk where
 nm:Str
 tk:List Int
 gv:Int
 ts:List My.Tm
 p:Int
def c6(m:Mk):D:=.tup [.str m.nm,tupI m.tk,.int m.gv,.lst (m.ts.map gE),.int m.p]
structure OkM(many:Int)(n:Nat)(m:Mk):Prop where
 nm:mG m.nm=true
 nl:m.nm.length<=8
 tk:(∃t,m.tk=[t])\/∃t u,m.tk=[t,u]
 tb:∀t∈m.tk,0<=t/\t<many
 gv:0<=m.gv/\m.gv<many
 tl:m.ts.length<=n
 tt:∀t∈m.ts,QA m.tk.length t
 pr:0<=m.p/\m.p<=10^30
theorem MM{q:Type}{P:q->Prop}{l:List q}{x:q}(h:∀y∈l,P y)(k:P x):∀y∈l++[x],P y:=λy B=>by
 rcases List.mem_append.mp B with z|z
 ·exact h y z
 ·rw[List.mem_singleton.mp z];exact k
theorem rG{ns:List Int}{M many:Int}{ss:List Se}(h3:3<=M)(am:M<10^60)(hm:1<=many/\many<=6)(hl:(ss.length:Int)=many)(hs:∀s∈ss,M3 M s):∃ms:List Mk,eO [.int M,.lst (ss.map eI),.lst (ns.map .int)]=some (.lst (ms.map c6))/\ms.length<=5/\∀m∈ms,OkM many 6 m:=by
 suffices h:∃d,eO [.int M,.lst (ss.map eI),.lst (ns.map .int)]=some d/\∃ms:List Mk,d=.lst (ms.map c6)/\ms.length<=5/\∀m∈ms,OkM many 6 m by
  obtain⟨d,e,ms,rfl,h⟩:=h;exact⟨ms,e,h⟩
 have Mp:0<M:=by lia
 have mp:0<many:=by lia
 obtain⟨f,U⟩:=eV ns;have f3:=U 3 (by decide) (by decide);have a5:=U 28 (by decide) (by decide);have b0:=U 24 (by decide) (by decide);have ba:=U 25 (by decide) (by decide);have bc:=U 26 (by decide) (by decide);have bu:=U 27 (by decide) (by decide);have mb:∀x:Int,0<=x%M/\x%M<=M:=λx=>by
  have:=T7 x (UT Mp);have:=T8 x Mp
  lia
 have mm:∀x:Int,0<=x%many/\x%many<many:=λx=>⟨T7 x (UT mp),T8 x mp⟩
 have bh:b8 [.int 24,.int 28]=some [.int 24,.int 25,.int 26,.int 27]:=cP (by decide) (by decide) (by decide) (by decide);obtain⟨a,ha,ab⟩:∃a,f 24%M=a/\0<=a/\a<=M:=⟨_,rfl,mb _⟩;obtain⟨b,hb,bb⟩:∃a,f 25%M=a/\0<=a/\a<=M:=⟨_,rfl,mb _⟩;obtain⟨c,hc,cb⟩:∃a,f 26%M=a/\0<=a/\a<=M:=⟨_,rfl,mb _⟩;obtain⟨d,hd,db⟩:∃a,f 27%M=a/\0<=a/\a<=M:=⟨_,rfl,mb _⟩;have nn:=jJ (c:=f 28) (many:=3) (by decide) (by decide);have e3:(UU (3:Int).toNat).map (λ(k:Nat)=>D.str (eE (f 28) (k:Int)))=[.str (eE (f 28) 0),.str (eE (f 28) 1),.str (eE (f 28) 2)]:=rfl;rw[e3]at nn;have el:gW [.lst (ss.map eI)]=some (.int many):=by rw[q_lenL,T2,hl]
 generalize hN:eE (f 28)=N at nn;refine d7 ?_;unfold j4;refine dM (aY (aQ (by ac_rfl) el)) (dM (aY (d:=.lst [.int a,.int b,.int c,.int d]) (by rw[<- ha,<- hb,<- hc,<- hd];ac_rfl)) (dM (aY (d:=.lst [.str (N 0),.str (N 1),.str (N 2)]) (by ac_rfl)) (dM (by ac_rfl) ?_)));generalize decide (0<f 28/5000%3)=al;refine dM (by ac_rfl) ?_;have s0:=T7 (f 3/30) (show(6:Int)≠0 by decide);have s1:=T8 (f 3/30) (show(0:Int)<6 by decide);generalize f 3/30%6=sz at s0 s1;have hsz:∃q:Int,0<=q/\q<=5/\tW (mS (bU kE (aL 3) (eC (.int 4)))) (eD 7 (bU eB (aL 7) (eC (.int 3)))) HQ [some (.int M),some (.lst (ss.map eI)),some (.lst (ns.map .int)),some (.int many),some (.lst [.int a,.int b,.int c,.int d]),some (.lst [.str (N 0),.str (N 1),.str (N 2)]),some (.bl al),some (.int sz),none,none,none,none,none,none,none]=some (.nx [some (.int M),some (.lst (ss.map eI)),some (.lst (ns.map .int)),some (.int many),some (.lst [.int a,.int b,.int c,.int d]),some (.lst [.str (N 0),.str (N 1),.str (N 2)]),some (.bl al),some (.int q),none,none,none,none,none,none,none]):=by
  by_cases h:4<many
  ·exact⟨sz%3,by lia,by lia,by ac_rfl⟩
  ·exact⟨sz,s0,by lia,by ac_rfl⟩
 obtain⟨q,y0,y1,ey⟩:=hsz;refine dM ey (dM (ρ':=List.set _ 8 (some (.lst []))) (by ac_rfl) ?_);have bf:b8 [.int 19,.int (19+q)]=some (aU 19 1 (19+q-19).toNat):=cP (by decide) (by decide) (by lia) (by lia);refine i9 (items:=aU 19 1 (19+q-19).toNat) (by ac_rfl) (λi ρ=>∃(ms:List Mk) (W o9 ac B G J F:Option D),ρ=[some (.int M),some (.lst (ss.map eI)),some (.lst (ns.map .int)),some (.int many),some (.lst [.int a,.int b,.int c,.int d]),some (.lst [.str (N 0),.str (N 1),.str (N 2)]),some (.bl al),W,some (.lst (ms.map c6)),o9,ac,B,G,J,F]/\ms.length=i/\∀m∈ms,OkM many 6 m) ⟨[],some (.int q),none,none,none,none,none,none,rfl,rfl,λ_ h=>nomatch h⟩ ?_ ?_
 ·rintro i x ρ hx ⟨ms,W,o9,ac,B,G,J,F,rfl,hi,Y⟩
  obtain⟨bm,rfl⟩:=bD hx;have hI:19<=(19:Int)+(i:Int)*1/\(19:Int)+(i:Int)*1<=24:=by lia
  generalize (19:Int)+(i:Int)*1=I at hI;have fI:=U I (by lia) (by lia);generalize f I=x at fI;have tk:∃tk:List Int,((∃t,tk=[t])\/∃t u,tk=[t,u])/\(∀t∈tk,0<=t/\t<many)/\∀ {ρ:bK},aL 10 ρ=some (.int x)->aL 3 ρ=some (.int many)->(IL gR (gT (aK (bU eB (bU qQ (aL 10) (eC (.int 3))) (aL 3)) (aK (bU eB (bU qQ (aL 10) (eC (.int 18))) (aL 3)) bO))) tP (mO (bU b5 (eC (.int 1)) (aW zV (aK (bU kE (bU eB (aL 10) (eC (.int 3))) (eC (.int 0))) bO))))) ρ=some (tupI tk):=by
   by_cases h:0<x%3
   ·have hg:kE (.int (x%3)) (.int 0)=some (.bl true):=congrArg (λb=>some (D.bl b)) (decide_eq_true h)
    refine⟨[x/3%many,x/18%many],.inr ⟨_,_,rfl⟩,λt ht=>?_,λh1 h2=>by ac_rfl⟩;simp only[U0,U1,or_false]at ht;rcases ht with rfl|rfl <;> exact mm _
   ·have hg:kE (.int (x%3)) (.int 0)=some (.bl false):=congrArg (λb=>some (D.bl b)) (decide_eq_false h)
    refine⟨[x/3%many],.inl ⟨_,rfl⟩,λt ht=>?_,λh1 h2=>by ac_rfl⟩;rw[List.mem_singleton.mp ht];exact mm _
  obtain⟨tk,af,ae,aw⟩:=tk;have gb:=mm (x/108);have eg:eB (.int (x/108)) (.int many)=some (.int (x/108%many)):=bH mp;generalize x/108%many=g at gb eg;have hn:∃n:Int,(n=0\/n=1)/\∀ {W o8 o9 B G J F:Option D},bT (eD 13 (bU qQ (bU eB (bU qQ (aL 10) (eC (.int 648))) (eC (.int 4))) (eC (.int 3)))) (tW (mS (aL 6)) (eD 13 (eC (.int 0))) HQ) [some (.int M),some (.lst (ss.map eI)),some (.lst (ns.map .int)),some (.int many),some (.lst [.int a,.int b,.int c,.int d]),some (.lst [.str (N 0),.str (N 1),.str (N 2)]),some (.bl al),W,o8,o9,some (.int x),B,G,J,F]=some (.nx [some (.int M),some (.lst (ss.map eI)),some (.lst (ns.map .int)),some (.int many),some (.lst [.int a,.int b,.int c,.int d]),some (.lst [.str (N 0),.str (N 1),.str (N 2)]),some (.bl al),W,o8,o9,some (.int x),B,G,some (.int n),F]):=by
   cases al with
   | true=>exact⟨0,.inl rfl,by ac_rfl⟩
   | false=>
    have:=T7 (x/648) (show(4:Int)≠0 by decide);have:=T8 (x/648) (show(0:Int)<4 by decide);exact⟨x/648%4/3,by lia,by ac_rfl⟩
  obtain⟨n,hn,en⟩:=hn;have es:∀ {g h k:Sv} {ρ:bK},bT g (bT h k) ρ=bT (bT g h) k ρ:=by
   intro g h k ρ;unfold bT;cases g ρ with
   | none=>rfl
   | some o=>cases o <;> rfl
  have w0:=T7 (x/2592) (show(1000000000000000000000000000000:Int)≠0 by decide);have w1:=T8 (x/2592) (show(0:Int)<1000000000000000000000000000000 by decide);have pw:vS (.int 10) (.int 30)=some (.int 1000000000000000000000000000000):=tL (by decide) (by decide) (by decide);have dm:eB (.int (x/2592)) (.int 1000000000000000000000000000000)=some (.int (x/2592%1000000000000000000000000000000)):=bH (by decide);generalize x/2592%1000000000000000000000000000000=p at w0 w1 dm;have so:∃(so:List Int) (u v:List D),(∃a b c d:Int,so=[a,b,c,d])/\(∀x∈so,0<=x/\x<=M)/\cutD [D.int a,.int b,.int c,.int d] (some n) none=u/\cutD [D.int a,.int b,.int c,.int d] none (some n)=v/\u++v=so.map .int/\aV (u.length+v.length)=true:=by
   rcases hn with rfl|rfl
   ·refine⟨[a,b,c,d],_,_,⟨_,_,_,_,rfl⟩,λy hy=>?_,rfl,rfl,rfl,rfl⟩
    simp only[U0,U1,or_false]at hy;rcases hy with rfl|rfl|rfl|rfl <;> assumption
   ·refine⟨[b,c,d,a],_,_,⟨_,_,_,_,rfl⟩,λy hy=>?_,rfl,rfl,rfl,rfl⟩
    simp only[U0,U1,or_false]at hy;rcases hy with rfl|rfl|rfl|rfl <;> assumption
  obtain⟨so,u,v,aq,ap,cu,cv,au,as⟩:=so;obtain⟨ts,b2,tl,tt⟩:=rF (g:=g) h3 am hl hs af ae gb.1 gb.2 aq ap;have an:c7 [D.str (N 0),.str (N 1),.str (N 2)] n=some (.str (N n)):=by rcases hn with rfl|rfl <;> rfl
  have c1:gR (.lst [.int a,.int b,.int c,.int d]) (some n) none=some (.lst u):=congrArg (λl=>some (D.lst l)) cu;have c2:gR (.lst [.int a,.int b,.int c,.int d]) none (some n)=some (.lst v):=congrArg (λl=>some (D.lst l)) cv;have c3:b5 (.lst u) (.lst v)=some (.lst (so.map .int)):=by rw[<- au];exact if_pos as
  have lz:(ms.map c6).length<=1000000:=by rw[T2];lia
  apply fK
  ·refine dH rfl (cZ (by ac_rfl) (iV (cZ (aY (aw rfl rfl)) (iV (cZ (by ac_rfl) (iV ?_))))))
   rw[es];exact cZ en (iV (by ac_rfl))
  ·exact⟨ms++[(⟨N n,tk,g,ts,p⟩:Mk)],W,some (.int I),some (.int x),some (tupI tk),some (.int g),some (.int n),some (.lst (ts.map gE)),by rw[VX];rfl,by simp_all[hi],MM Y ⟨by rw[<- hN];exact ID (by lia) (by lia),by rw[<- hN];exact(vH _ _).2,af,ae,gb,tl,tt,w0,by show p<=_;lia⟩⟩
 ·rintro ρ ⟨ms,W,o9,ac,B,G,J,F,rfl,hi,Y⟩
  rw[bC]at hi;exact⟨_,by ac_rfl,ms,rfl,by lia,Y⟩
theorem OkM.mono(h:OkM many n m)(l:n<=k):OkM many k m:=⟨h.nm,h.nl,h.tk,h.tb,h.gv,UV h.tl l,h.tt,h.pr⟩
theorem R9{q:Type}{P:q->Prop}{l:List q}{x:q}{n m:Nat}(h:∀y∈l,P y)(k:P x):∀y∈l.take n++x::l.drop m,P y:=λy B=>by
 rcases List.mem_append.mp B with z|z
 ·exact h y (List.mem_of_mem_take z)
 ·rcases List.mem_cons.mp z with z|z
  ·rw[z];exact k
  ·exact h y (List.mem_of_mem_drop z)
theorem R7{q:Type}{f:q->D}{l:List q}{x:q}{n m:Nat}:(l.map f).take n++f x::(l.map f).drop m=(l.take n++x::l.drop m).map f:=by
 rw[VX,T1,List.map_take,List.map_drop]
theorem R8{q:Type}{l:List q}{x:q}{i:Int}(h0:0<=i)(h1:i<l.length):(l.take i.toNat++x::l.drop (i.toNat+1)).length=l.length:=by
 rw[VB,UK,X9,zar];lia
theorem SE{B:Type}{f:B->D}{l:List B}{c:Int}(h:0<((l.map f).length:Int)):0<=c%(l.map f).length/\c%(l.map f).length<(l.map f).length/\∃x∈l,c7 (l.map f) (c%(l.map f).length)=some (f x):=by
 have a0:=T7 c (UT h);have q:=T8 c h;obtain⟨d,F,_,e⟩:=DK a0 q;obtain⟨s,hs,rfl⟩:=List.mem_map.mp F;exact⟨a0,q,s,hs,e⟩
theorem spT{m:Mk}{t:My.Tm}{l:List Mk}{a b:Nat}:(l.map c6).take a++D.tup [.str m.nm,tupI m.tk,.int m.gv,.lst (m.ts.map gE++[gE t]),.int m.p]::(l.map c6).drop b=(l.take a++(⟨m.nm,m.tk,m.gv,m.ts++[t],m.p⟩:Mk)::l.drop b).map c6:=by
 rw[<- R7,c6,VX];rfl
theorem mV{M many cell:Int}{rs:List Ro}{ms:List Mk}(h3:3<=M)(F:M<10^60)(G:rs.length<=12)(B:∀r∈rs,vW many r)(J:ms.length<=5)(N:∀m∈ms,OkM many 6 m) :
  ∃(rs':List Ro) (ms':List Mk),fW [.int M,.int cell,.lst (rs.map aT),.lst (ms.map c6)]=some (.tup [.lst (rs'.map aT),.lst (ms'.map c6)])/\(rs'.length<=12/\∀r∈rs',vW many r)/\ms'.length<=5/\∀m∈ms',OkM many 7 m:=by
 have q:∀m∈ms,OkM many 7 m:=λm h=>(N m h).mono (by decide)
 have Mp:0<M:=by lia
 have Mq:0<M-1:=by lia
 have er:(rs.map aT).length=rs.length:=T2 ..;have em:(ms.map c6).length=ms.length:=T2 ..;have lr:(rs.map aT).length<=1000:=by lia
 have lm:(ms.map c6).length<=1000:=by lia
 by_cases h1:cell%4=1
 ·by_cases lp:0<((rs.map aT).length:Int)
  ·obtain⟨a0,a1,r,aa,e⟩:=SE (c:=cell/4) lp
   have ok:=B r aa;have U:c7 (rs.map aT) (cell/4%(rs.map aT).length)=some (.tup [.int r.j,.int r.k,.int r.a,.int r.b,.int r.p]):=e;by_cases h2:cell/40%2=1
   ·refine' ⟨rs.take _++(⟨r.j,r.k,r.a,(r.b+1+cell/80%(M-1))%M,r.p⟩:Ro)::rs.drop _,ms,aP (Eq.trans ?A (congrArg (λl=>some (Out.rt (.tup [.lst l,.lst (ms.map c6)]))) R7)),⟨?L,R9 B ⟨ok.1,ok.2.1,ok.2.2.1,ok.2.2.2.1,Bd.mod Mp F⟩⟩,J,q⟩
    case A=>unfold a7;ac_rfl
    case L=>rw[R8 a0 (by lia)];exact G
   ·refine' ⟨rs.take _++(⟨r.j,r.k,(r.a+1+cell/80%(M-1))%M,r.b,r.p⟩:Ro)::rs.drop _,ms,aP (Eq.trans ?A (congrArg (λl=>some (Out.rt (.tup [.lst l,.lst (ms.map c6)]))) R7)),⟨?L,R9 B ⟨ok.1,ok.2.1,ok.2.2.1,Bd.mod Mp F,ok.2.2.2.2⟩⟩,J,q⟩
    case A=>unfold a7;ac_rfl
    case L=>rw[R8 a0 (by lia)];exact G
  ·exact⟨rs,ms,aP (by unfold a7;ac_rfl),⟨G,B⟩,J,q⟩
 ·by_cases ah:cell%4=3
  ·by_cases lp:0<((ms.map c6).length:Int)
   ·obtain⟨a0,a1,m,ad,e⟩:=SE (c:=cell/4) lp
    have ok:=N m ad;have U:c7 (ms.map c6) (cell/4%(ms.map c6).length)=some (.tup [.str m.nm,.tup (m.tk.map .int),.int m.gv,.lst (m.ts.map gE),.int m.p]):=e;have z3:(m.ts.map gE).length+1<=1000000:=by rw[T2];have:=ok.tl;lia
    have x0:=T7 (cell/40) (show(3:Int)≠0 by decide);have x1:=T8 (cell/40) (show(0:Int)<3 by decide);have y0:=T7 (cell/120) (show(3:Int)≠0 by decide);have y1:=T8 (cell/120) (show(0:Int)<3 by decide);have ab:Bd 61 (1+cell/360%(M-1)):=by
     have u0:=T7 (cell/360) (UT Mq);have u1:=T8 (cell/360) Mq;exact(Bd.of F ⟨by lia,by lia⟩).mono (by decide)
    suffices h:∃t:List Int,t.length=m.tk.length/\(∀e∈t,0<=e/\e<=2)/\a7 (aE 15 [.int M,.int cell,.lst (rs.map aT),.lst (ms.map c6)])=some (.rt (.tup [.lst (rs.map aT),.lst ((ms.map c6).take (cell/4%(ms.map c6).length).toNat++D.tup [.str m.nm,.tup (m.tk.map .int),.int m.gv,.lst (m.ts.map gE++[.tup [.tup (t.map .int),.int (1+cell/360%(M-1))]]),.int m.p]::(ms.map c6).drop ((cell/4%(ms.map c6).length).toNat+1))])) by
     obtain⟨t,tl,tb,ev⟩:=h;exact⟨rs,_,aP (ev.trans (congrArg (λl=>some (Out.rt (.tup [.lst (rs.map aT),.lst l]))) (spT (t:=(t,_))))),⟨G,B⟩,by rw[R8 a0 (by lia)];exact J,R9 q ⟨ok.nm,ok.nl,ok.tk,ok.tb,ok.gv,by rw[VB];have:=ok.tl;simp[-TR,-TU,aA,aI];lia,MM ok.tt ⟨tl,tb,ab⟩,ok.pr⟩⟩
    rcases ok.tk with⟨t,W⟩|⟨t,u,W⟩
    ·refine⟨[cell/40%3],by rw[W];rfl,λe Y=>by rw[List.mem_singleton.mp Y];lia,?_⟩
     rw[W]at U ⊢;simp only[List.map]at U ⊢;unfold a7;ac_rfl
    ·refine⟨[cell/40%3,cell/120%3],by rw[W];rfl,λe Y=>by simp only[U0,U1,or_false]at Y;rcases Y with rfl|rfl <;> lia,?_⟩
     rw[W]at U ⊢;simp only[List.map]at U ⊢;unfold a7;ac_rfl
   ·exact⟨rs,ms,aP (by unfold a7;ac_rfl),⟨G,B⟩,J,q⟩
  ·exact⟨rs,ms,aP (by unfold a7;ac_rfl),⟨G,B⟩,J,q⟩
def bP(c:Int)(n:Nat):List D:=(UU n).map λ(k:Nat)=>.str (eE c (k:Int))
theorem cX(c:Int)(n:Nat):(bP c n).length=n:=by simp_all[bP]
theorem uQ(ns:List Int):∃(M c:Int) (n:Nat) (rs:List Ro) (ms:List Mk),gJ [.lst (ns.map .int)]=some (.tup [.int M,.lst (bP c n),.lst (rs.map aT),.lst (ms.map c6)])/\(3<=M/\M<10^60/\M%2=1)/\(1<=n/\n<=6)/\(rs.length<=12/\∀r∈rs,vW (n:Int) r)/\ms.length<=5/\∀m∈ms,OkM (n:Int) 7 m:=by
 obtain⟨f,U⟩:=eV ns;have f0:=U 0 (by decide) (by decide);have f1:=U 1 (by decide) (by decide);have f2:=U 2 (by decide) (by decide);have aq:=U 29 (by decide) (by decide);have ae:=U 30 (by decide) (by decide);have ap:(10:Int)^60=1000000000000000000000000000000000000000000000000000000000000:=by decide +kernel
 have pw:vS (.int 10) (.int 59)=some (.int 100000000000000000000000000000000000000000000000000000000000):=tL (by decide) (by decide) (by decide +kernel);have x0:=T7 (f 1) (show(100000000000000000000000000000000000000000000000000000000000:Int)≠0 by decide);have x1:=T8 (f 1) (show(0:Int)<100000000000000000000000000000000000000000000000000000000000 by decide);have dx:eB (.int (f 1)) (.int 100000000000000000000000000000000000000000000000000000000000)=some (.int (f 1%100000000000000000000000000000000000000000000000000000000000)):=bH (by decide);generalize f 1%100000000000000000000000000000000000000000000000000000000000=x at x0 x1 dx;have y0:=T7 (f 1) (show(4:Int)≠0 by decide);have y1:=T8 (f 1) (show(0:Int)<4 by decide);have dy:eB (.int (f 1)) (.int 4)=some (.int (f 1%4)):=bH (by decide);generalize f 1%4=y at y0 y1 dy;have m1:bZ (.int 2) (.int x)=some (.int (2*x)):=cF (by decide +kernel) (by decide +kernel) (by lia) (by lia);have m2:bZ (.int 2) (.int y)=some (.int (2*y)):=cF (by decide +kernel) (by decide +kernel) (by lia) (by lia)
 suffices h:∃d,gJ [.lst (ns.map .int)]=some d/\∃(M c:Int) (n:Nat) (rs:List Ro) (ms:List Mk),d=.tup [.int M,.lst (bP c n),.lst (rs.map aT),.lst (ms.map c6)]/\(3<=M/\M<10^60/\M%2=1)/\(1<=n/\n<=6)/\(rs.length<=12/\∀r∈rs,vW (n:Int) r)/\ms.length<=5/\∀m∈ms,OkM (n:Int) 7 m by
  obtain⟨d,e,M,c,n,rs,ms,rfl,h⟩:=h;exact⟨M,c,n,rs,ms,e,h⟩
 refine d7 ?_;unfold lA;rw[aD (aY (d:=.int (3+2*x)) (by ac_rfl))];refine pP (λρ=>∃M:Int,ρ=[some (.lst (ns.map .int)),some (.int M),none,none,none,none]/\3<=M/\M<10^60/\M%2=1) ?_ ?_
 ·by_cases h:f 0%4=0
  ·exact⟨_,by simp_all[aE,f0,f1,bH (i:=f 0),h,dy,m2],3+2*y,rfl,by lia,by lia,by lia⟩
  ·exact⟨_,by ac_rfl,3+2*x,rfl,by lia,by lia,by lia⟩
 rintro ρ ⟨M,rfl,G,q,J⟩;have v0:=T7 (f 2) (show(4:Int)≠0 by decide);have v1:=T8 (f 2) (show(0:Int)<4 by decide);rw[aD (aY (d:=.int (1+f 2%4)) (by ac_rfl))];refine pP (λρ=>∃many:Int,ρ=[some (.lst (ns.map .int)),some (.int M),some (.int many),none,none,none]/\1<=many/\many<=6) ?_ ?_
 ·by_cases h:f 2/4%8=1
  ·exact⟨_,by ac_rfl,6,rfl,by decide,by decide⟩
  ·exact⟨_,by ac_rfl,1+f 2%4,rfl,by lia,by lia⟩
 rintro ρ ⟨many,rfl,F,B⟩;obtain⟨ss,es,hl,hs⟩:=qT (ns:=ns) G q ⟨F,B⟩;obtain⟨rs,er,hr,ad⟩:=rE (ns:=ns) G q ⟨F,B⟩ hl hs;obtain⟨ms,em,hm,aa⟩:=rG (ns:=ns) G q ⟨F,B⟩ hl hs;obtain⟨N,W,e2,ab,ac,Y⟩:=mV (cell:=f 29) G q hr ad hm aa;rw[aD (aY (d:=.lst (ss.map eI)) (by ac_rfl))];rw[aD (aY (d:=.lst (rs.map aT)) (by ac_rfl))];have en:=jJ (c:=f 30) (many:=many) (by lia) B;have ec:((many.toNat:Nat):Int)=many:=by lia
 refine⟨_,?_,M,f 30,many.toNat,N,W,rfl,⟨G,q,J⟩,by lia,by rw[ec];exact ab,ac,by rw[ec];exact Y⟩;rw[aD (ρ':=[some (.lst (ns.map .int)),some (.int M),some (.int many),some (.lst (ss.map eI)),some (.lst (N.map aT)),some (.lst (W.map c6))]) (by ac_rfl)];simp_all[ae,en,bP]
theorem kK(h:∃ρ,f (aE n ds)=some (.nx ρ)):bA n f ds=some .non:=by
 obtain⟨ρ,e⟩:=h;exact JQ e
theorem u5(q:f ρ=some items)(I:Nat->bK->Prop)(h0:I 0 ρ)(hs:∀i x ρ,items[i]?=some x->I i ρ->∃ρ',turn g b x ρ=some (.nx ρ')/\I (i+1) ρ'):∃ρ',nB f g b ρ=some (.nx ρ'):=by
 obtain⟨ρ',e,_⟩:=qM (g:=g) (b:=b) I h0 hs;exact⟨ρ',by rw[q_for,q,aA];exact e⟩
theorem yN{f:Lv}{g:Gv}{b rest:Sv}{ρ:bK}{items:List D}(F:f ρ=some items)(I:Nat->bK->Prop)(h0:I 0 ρ)(hs:∀i x ρ,items[i]?=some x->I i ρ->∃ρ',turn g b x ρ=some (.nx ρ')/\I (i+1) ρ')(k:∀ρ',I items.length ρ'->∃q,rest ρ'=some (.nx q)):∃ρ',bT (nB f g b) rest ρ=some (.nx ρ'):=by
 obtain⟨ρ',e,i⟩:=qM (g:=g) (b:=b) I h0 hs;obtain⟨q,B⟩:=k ρ' i;exact⟨q,by rw[aD (ρ':=ρ') (by rw[q_for,F,aA];exact e)];exact B⟩
theorem EH(B:3<=M)(q:M<10^60)(F:M%2=1):w9 [.int M]=some (.int M):=by
 refine aP ?_;have pw:vS (.int 10) (.int 60)=some (.int (10^60)):=tL (by decide) (by decide) (by decide +kernel);have a:¬ M<3:=by lia
 have b:¬ 10^60<M:=by lia
 unfold wD;simp only[Int.reducePow]at pw b
 ac_rfl
theorem k9(h0:0<=p)(h:p<=10^30):gF [.int p]=some (.bl true):=by
 refine aP ?_;have pw:vS (.int 10) (.int 30)=some (.int (10^30)):=tL (by decide) (by decide) (by decide +kernel);simp only[Int.reducePow]at pw h;simp_all[lD,aE,d6,pw,h0,h]
theorem DR(h:0<M):vT [.int M,.int n]=some (.int (n%M)):=by
 refine aP ?_;simp_all[PJ,aE,bH h]
open Classical in
theorem sO(x:Str):∀l:List Str,(l.map D.str).any (λd=>decide (d=.str x))=l.contains x
 | []=>rfl
 | y::l=>by
  rw[T1,VQ,sO x l,List.contains_cons];congr 1;by_cases h:y=x
  ·subst h;simp[-TR,-TU,aA,aI]
  ·have h2:¬ x=y:=λz=>h z.symm
   have q:¬ D.str y=D.str x:=λz=>h (by injection z)
   rw[decide_eq_false q]
   ac_rfl
theorem all_strs:∀l:List Str,(l.map D.str).all fB=true
 | []=>rfl
 | _::l=>by rw[T1,XF,all_strs l];rfl
theorem E4(x:Str)(l:List Str):HG (.str x) (.lst (l.map D.str))=some (.bl (l.contains x)):=by
 show P8 (.str x) (.lst (l.map D.str))=_;unfold P8 HH;dsimp only;rw[if_pos ⟨rfl,all_strs l⟩,sO];rfl
def DZ(c:Int)(n:Nat):List Str:=(UU n).map λ(k:Nat)=>eE c (k:Int)
theorem KQ(c:Int)(n:Nat):bP c n=(DZ c n).map D.str:=by unfold bP DZ;rw[VM];rfl
theorem mZ(h1:1<=n)(h6:n<=6):f7 [.lst (bP c n)]=some .non:=by
 refine kK ?_;unfold fO;have hz:aV n=true:=decide_eq_true (by lia);have a:¬ (n:Int)<1:=by lia
 have b:¬ 6<(n:Int):=by lia
 rw[aD (ρ':=aE 3 [.lst (bP c n)]) (by simp_all[aE,cX,a,b])];refine u5 (items:=eA 0 (bP c n)) (by ac_rfl) (λi ρ=>∃G M,ρ=[some (.lst (bP c n)),G,M]) ⟨none,none,rfl⟩ ?_;rintro i x ρ W ⟨G,M,rfl⟩;obtain⟨y,B,rfl⟩:=fE W;have hi:i<n:=by have:=(List.getElem?_eq_some_iff.mp B).1;rw[cX]at this;exact this
 have Y:y=.str (eE c (i:Int)):=by
  unfold bP at B;rw[UA,List.getElem?_range hi]at B;exact(UL B).symm
 subst Y;have J:=nE (x:=eE c (i:Int)) (by have:=(vH c (i:Int)).2;lia);rw[ID (by lia) (by lia)]at J;have ct:=(mC (w:=bP c n) (c:=(i:Int)) (by lia) (by rw[cX];lia)).1;have tk:(bP c n).take i=(DZ c i).map D.str:=by
  rw[<- KQ];unfold bP;rw[<- List.map_take,List.take_range,Nat.min_eq_left (by lia)]
 have N:(DZ c i).contains (eE c (i:Int))=false:=by
  rw[<- YQ,List.contains_iff_mem];intro U;obtain⟨k,F,e⟩:=List.mem_map.mp U;have F:=List.mem_range.mp F;have:=JV (c:=c) (k:=(k:Int)) (m:=(i:Int)) (by lia) (by lia) (by lia) (by lia) e
  lia
 have q:=E4 (eE c (i:Int)) (DZ c i);rw[N]at q;rw[YR];refine⟨[some (.lst (bP c n)),some (.int (i:Int)),some (.str (eE c (i:Int)))],?_,_,_,rfl⟩;simp_all[turn,J,ct,tk,q]
noncomputable def red(M:Int)(r:Ro):Ro:=⟨r.j,r.k,r.a%M,r.b%M,r.p⟩
theorem uC{M:Int}{n:Nat}{rs:List Ro}(h3:3<=M)(hl:rs.length<=12)(hr:∀r∈rs,vW (n:Int) r):kR [.int M,.int (n:Int),.lst (rs.map aT)]=some (.tup ((rs.map (red M)).map aT)):=by
 have Mp:0<M:=by lia
 have hz:aV rs.length=true:=decide_eq_true (by lia);have b:(rs.length:Int)<=12:=by lia
 refine aP ?_;unfold lE;rw[aD (ρ':=aE 9 [.int M,.int (n:Int),.lst (rs.map aT)]) (by simp_all[aE,b])];rw[aD (aY (d:=.lst []) (by simp[-TR,-TU,aA,aI]))];refine cG (items:=rs.map aT) (by ac_rfl) (λi ρ=>∃U B J F N,ρ=[some (.int M),some (.int (n:Int)),some (.lst (rs.map aT)),some (.lst (((rs.take i).map (red M)).map aT)),U,B,J,F,N]) ⟨none,none,none,none,none,by ac_rfl⟩ ?_ ?_
 ·rintro i x ρ W ⟨U,B,J,F,N,rfl⟩
  rw[UA]at W;obtain⟨r,q,rfl⟩:=map_some W;obtain⟨⟨j0,jk,kn⟩,p0,p1,_⟩:=hr r (UJ q);have Y:=k9 p0 p1;have hi:i<rs.length:=(List.getElem?_eq_some_iff.mp q).1;have G:aV (min i rs.length)=true:=decide_eq_true (by lia);refine⟨[some (.int M),some (.int (n:Int)),some (.lst (rs.map aT)),some (.lst (((rs.take (i+1)).map (red M)).map aT)),some (.int r.j),some (.int r.k),some (.int r.a),some (.int r.b),some (.int r.p)],?_,_,_,_,_,_,rfl⟩;rw[WX,q];simp_all[turn,aT,red,j0,jk,kn,Y,DR Mp,G,iM]
 ·rintro ρ ⟨U,B,J,F,N,rfl⟩
  rw[T2,X2]
  ac_rfl
theorem gZ{n:Nat}{k:List Int}(h:k.length=n)(h2:∀e∈k,0<=e/\e<=2):dB [.int (n:Int),tupI k]=some .non:=by
 refine kK ?_;unfold c9;rw[aD (ρ':=aE 3 [.int (n:Int),tupI k]) (by simp_all[aE,tupI,h])];refine u5 (items:=k.map .int) (by ac_rfl) (λi ρ=>∃o,ρ=[some (.int (n:Int)),some (tupI k),o]) ⟨none,rfl⟩ ?_;rintro i x ρ q ⟨o,rfl⟩;rw[UA]at q;obtain⟨e,B,rfl⟩:=map_some q;have:=h2 e (UJ B);exact⟨[some (.int (n:Int)),some (tupI k),some (.int e)],by ac_rfl,_,rfl⟩
theorem oH{M:Int}(h0:0<M){ρ1 ρ2:Option D}:∀(qs:List My.Tm) (o1 o2:Option D),bR (mN 2 (dZ (bX 0) (dZ (bX 1) tO))) (mS (bU xW (aW vT (aK (aL 2) (aK (aL 1) bO))) (eC (.int 0)))) (gT (aK (aL 0) (aK (aW vT (aK (aL 2) (aK (aL 1) bO))) bO))) (qs.map gE) [o1,o2,some (.int M)]=some ((My.j8 M qs).map gE)
 | [],o1,o2=>rfl
 | t::qs,o1,o2=>by
  have ih:=oH h0 (ρ1:=ρ1) (ρ2:=ρ2) qs (some (tupI t.1)) (some (.int t.2));rw[T1,bR];by_cases e:t.2%M=0
  ·simp[-TR,-TU,aA,aI,gE,DR h0,e,My.j8]at ih ⊢
   exact ih
  ·simp[-TR,-TU,aA,aI,gE,DR h0,e,My.j8]at ih ⊢
   rw[ih]
   ac_rfl
theorem zF{q:Type}(l:List (List Int×q)):(bJ l).length=l.length:=(cV l).length_eq
theorem zU{M:Int}{cs:List My.Tm}(h0:0<M)(h:cs.length<64):oK [.int M,.dT (cs.map kD)]=some (.tup ((My.j8 M (bJ cs)).map gE)):=by
 refine aP ?_;have e:=oH h0 (ρ1:=none) (ρ2:=none) (bJ cs) none none;have hz:aV (bJ cs).length=true:=decide_eq_true (by rw[zF];lia);simp_all[nZ,aE,uE h,tZ,e,hz]
theorem V_form{M:Int}{n:Nat}{ts:List My.Tm}(h0:0<M)(hn:n=1\/n=2)(hl:ts.length<=7)(W:∀t∈ts,QA n t):CY [.int M,.int (n:Int),.lst (ts.map gE)]=some (.tup ((My.j8 M (bJ (My.bI ts))).map gE)):=by
 refine aP ?_;unfold CM;rw[aD (ρ':=aE 6 [.int M,.int (n:Int),.lst (ts.map gE)]) (by rcases hn with rfl|rfl <;> simp_all[aE])];rw[aD (ρ':=[some (.int M),some (.int (n:Int)),some (.lst (ts.map gE)),some (.dT []),none,none]) (by ac_rfl)];refine cG (items:=ts.map gE) (by simp[-TR,-TU,aA,aI]) (λi ρ=>∃G F,ρ=[some (.int M),some (.int (n:Int)),some (.lst (ts.map gE)),some (.dT ((My.bI (ts.take i)).map kD)),G,F]) ⟨none,none,rfl⟩ ?_ ?_
 ·rintro i x ρ U ⟨G,F,rfl⟩
  rw[UA]at U;obtain⟨t,N,rfl⟩:=map_some U;obtain⟨Y,g2,_⟩:=W t (UJ N);have es:My.bI (ts.take (i+1))=My.mP (My.bI (ts.take i)) t:=by rw[WX,N];exact My.zS _ _
  have q:(My.bI (ts.take i)).length<=1000000:=by
   have:=(My.k4 (ts.take i)).1;rw[X9]at this
   lia
  have J:=gZ Y g2;refine⟨[some (.int M),some (.int (n:Int)),some (.lst (ts.map gE)),some (.dT ((My.bI (ts.take (i+1))).map kD)),some (tupI t.1),some (.int t.2)],?_,_,_,rfl⟩;have B:=GV (cs:=My.bI (ts.take i)) t.1 ((My.look (My.bI (ts.take i)) t.1).getD 0+t.2) q;cases e:My.look (My.bI (ts.take i)) t.1 with
  | none=>simp[-TR,-TU,aA,aI,turn,gE,J,e,es,My.mP]at B ⊢;simp_all[B]
  | some v=>simp[-TR,-TU,aA,aI,turn,gE,J,e,es,My.mP]at B ⊢;simp_all[B]
 ·rintro ρ ⟨G,F,rfl⟩
  have hs:(My.bI ts).length<64:=by have:=(My.k4 ts).1;lia
  rw[T2,X2];simp_all[zU h0 hs]
theorem wB:∀(k:List Int) (m:Int),(∀e∈k,0<=e/\e<=2)->m<=2->k.foldl (λm y=>if y>m then y else m) m<=2
 | [],m,_,h=>h
 | e::k,m,h,hm=>by
  rw[ZA];refine wB k _ (λx q=>h x (UN _ q)) ?_;have:=(h e (UW ..)).2;split <;> lia
theorem GL(h:∀e∈k,0<=e/\e<=2)(B:d<=2):My.z4 d k<=2:=by
 cases k with
 | nil=>exact B
 | cons e k=>exact wB k e (λx q=>h x (UN _ q)) (h e (UW ..)).2
def IP(M:Int)(ts:List My.Tm):D:=.tup ((My.j8 M (bJ (My.bI ts))).map gE)
theorem qU(h0:0<M)(Y:n=1\/n=2)(U:ts.length<=7)(G:∀t∈ts,QA n t):jI [.int M,.int (n:Int),.lst (ts.map gE)]=some (IP M ts):=by
 have vf:=V_form h0 Y U G;refine aP ?_;unfold jP;rw[aD (aY (d:=IP M ts) (by simp_all[aE,vf,IP]))];refine cG (items:=ts.map gE) (by ac_rfl) (λi ρ=>∃q B F,ρ=[some (.int M),some (.int (n:Int)),some (.lst (ts.map gE)),some (IP M ts),q,B,F]) ⟨none,none,none,rfl⟩ ?_ ?_
 ·rintro i x ρ N ⟨q,B,F,rfl⟩
  rw[UA]at N;obtain⟨t,W,rfl⟩:=map_some N;obtain⟨J,g2,_⟩:=G t (UJ W);refine⟨[some (.int M),some (.int (n:Int)),some (.lst (ts.map gE)),some (IP M ts),q,some (tupI t.1),some (.int t.2)],?_,_,_,_,rfl⟩;have mx:tN [tupI t.1]=some (.int (My.z4 0 t.1)):=by
   cases hk:t.1 with
   | nil=>rw[hk]at J;simp[-TR,-TU,aA,aI]at J;lia
   | cons e k=>exact q_max1
  have ml:=GL g2 (d:=0) (by decide)
  ac_rfl
 ·rintro ρ ⟨q,B,F,rfl⟩
  simp[-TR,-TU,aA,aI]
theorem GH{κ:Type}[DecidableEq κ](l:List (κ×D))(k:κ)(e:D):cN (putD l k e) k=some e:=by
 unfold cN putD;split
 ·rename_i h
  induction l with
  | nil=>simp[-TR,-TU,aA,aI]at h
  | cons p l ih=>
   by_cases q:p.1=k
   ·simp_all[q]
   ·rw[VQ,decide_eq_false q,Bool.false_or]at h
    rw[T1,if_neg q,List.find?_cons_of_neg (by simpa using q)];exact ih h
 ·rename_i h
  rw[List.find?_append];have:l.find? (λp=>decide (p.1=k))=none:=by
   rw[List.find?_eq_none];intro p q z;exact h (List.any_eq_true.mpr ⟨p,q,z⟩)
  rw[this];simp[-TR,-TU,aA,aI]
theorem FR{κ:Type}[DecidableEq κ]{l:List (κ×D)}{k:κ}{e:D}{P:D->Prop}(h:∀p∈l,P p.2)(F:P e):∀p∈putD l k e,P p.2:=by
 intro p B;unfold putD at B;split at B
 ·obtain⟨q,G,rfl⟩:=List.mem_map.mp B
  split
  ·exact F
  ·exact h q G
 ·rcases List.mem_append.mp B with z|z
  ·exact h p z
  ·rw[List.mem_singleton.mp z];exact F
theorem p5{κ:Type}[DecidableEq κ](l:List (κ×D))(k:κ)(e:D):(putD l k e).length<=l.length+1:=by
 unfold putD;split
 ·rw[T2];lia
 ·rw[VB];simp[-TR,-TU,aA,aI]
theorem EG{κ:Type}[DecidableEq κ]{l:List (κ×D)}{k:κ}(h:cN l k=some d):∃p∈l,p.2=d:=by
 obtain⟨p,q,e⟩:=map_some h;exact⟨p,List.mem_of_find?_eq_some q,e⟩
def EA(M:Int)(m:Mk):D:=.tup [.str m.nm,tupI m.tk,.int m.gv,IP M m.ts,.int m.p]
theorem m8{M:Int}{ms:List Mk}(hl:ms.length<=5):fV [.lst (ms.map (EA M))]=some .non:=by
 refine kK ?_;unfold fU;rw[aD (aY (d:=.dT []) (by simp[-TR,-TU,aA,aI]))];refine u5 (items:=ms.map (EA M)) (by ac_rfl) (λi ρ=>∃(ys:List (List Key×D)) (o2 o3 o4 J U N:Option D),ρ=[some (.lst (ms.map (EA M))),some (.dT ys),o2,o3,o4,J,U,N]/\ys.length<=i/\∀p∈ys,∃c:Int,p.2=.int c/\c<=(i:Int)) ⟨[],none,none,none,none,none,none,by ac_rfl,T5 _,λ_ h=>nomatch h⟩ ?_;rintro i x ρ Y ⟨ys,o2,o3,o4,J,U,N,rfl,hy,W⟩;rw[UA]at Y;obtain⟨m,hm,rfl⟩:=map_some Y;have hi:i<ms.length:=(List.getElem?_eq_some_iff.mp hm).1;have hz:aV ys.length=true:=decide_eq_true (by lia);have q:EC (.tup [.str m.nm,.int (m.tk.length:Int)])=some [.inr m.nm,.inl (m.tk.length:Int)]:=rfl;generalize hk:([.inr m.nm,.inl (m.tk.length:Int)]:List Key)=k at q;have lk:dG (.dT ys) (.tup [.str m.nm,.int (m.tk.length:Int)])=some (cN ys k):=by
  show(EC (.tup [.str m.nm,.int (m.tk.length:Int)])).map _=_;rw[q];rfl
 have G:∃c:Int,((cN ys k).getD (.int 0))=.int c/\c<=(i:Int):=by
  cases hv:cN ys k with
  | none=>exact⟨0,rfl,by lia⟩
  | some d=>
   obtain⟨p,B,rfl⟩:=EG hv;exact W p B
 obtain⟨c,ec,ag⟩:=G;have pt:AA (.dT ys) (.tup [.str m.nm,.int (m.tk.length:Int)]) (.int (c+1))=some (.dT (putD ys k (.int (c+1)))):=by
  unfold _root_.P.AA;dsimp only;rw[q,aA,if_pos hz]
 have F:dG (.dT (putD ys k (.int (c+1)))) (.tup [.str m.nm,.int (m.tk.length:Int)])=some (some (.int (c+1))):=by
  show(EC (.tup [.str m.nm,.int (m.tk.length:Int)])).map _=_;rw[q,aI,GH]
 refine⟨[some (.lst (ms.map (EA M))),some (.dT (putD ys k (.int (c+1)))),some (.str m.nm),some (tupI m.tk),some (.int m.gv),some (IP M m.ts),some (.int m.p),some (.tup [.str m.nm,.int (m.tk.length:Int)])],?_,_,_,_,_,_,_,_,rfl,UV (p5 _ _ _) (by lia),FR (P:=λd=>∃c:Int,d=.int c/\c<=((i+1:Nat):Int)) (λp B=>by obtain⟨c,e,h⟩:=W p B;exact⟨c,e,by lia⟩) ⟨c+1,rfl,by lia⟩⟩;simp_all[turn,EA,tupI,lk,ec,pt,F,show ¬ 6<c+1 by lia]
theorem pD(ok:OkM (n:Int) 7 m):g6 [.int (n:Int),.str m.nm,tupI m.tk,.int m.gv,.int m.p]=some .non:=by
 have J:=nE (x:=m.nm) (by have:=ok.nl;lia);rw[ok.nm]at J;have M:=k9 ok.pr.1 ok.pr.2;have hz:aV (m.tk.length+1)=true:=by rcases ok.tk with⟨t,e⟩|⟨t,u,e⟩ <;> rw[e] <;> rfl
 have q:(m.tk.length:Int)=1\/(m.tk.length:Int)=2:=by rcases ok.tk with⟨t,e⟩|⟨t,u,e⟩ <;> rw[e] <;> simp[-TR,-TU,aA,aI]
 refine kK ?_;unfold hU;rw[aD (ρ':=aE 6 [.int (n:Int),.str m.nm,tupI m.tk,.int m.gv,.int m.p]) (by ac_rfl)];rw[aD (ρ':=aE 6 [.int (n:Int),.str m.nm,tupI m.tk,.int m.gv,.int m.p]) (by rcases q with e|e <;> simp_all[aE,tupI,e])];have G:tJ (bU b5 (aW cA (aK (aL 2) bO)) (zY (aK (aL 3) bO))) (aE 6 [.int (n:Int),.str m.nm,tupI m.tk,.int m.gv,.int m.p])=some ((m.tk++[m.gv]).map .int):=by simp_all[aE,tupI,cA,hz]
 refine yN (items:=(m.tk++[m.gv]).map .int) G (λi ρ=>∃o,ρ=[some (.int (n:Int)),some (.str m.nm),some (tupI m.tk),some (.int m.gv),some (.int m.p),o]) ⟨none,rfl⟩ ?_ ?_
 ·rintro i x ρ B ⟨o,rfl⟩
  rw[UA]at B;obtain⟨e,F,rfl⟩:=map_some B;have b:0<=e/\e<(n:Int):=MM (P:=λe=>0<=e/\e<(n:Int)) ok.tb ok.gv e (UJ F);exact⟨[some (.int (n:Int)),some (.str m.nm),some (tupI m.tk),some (.int m.gv),some (.int m.p),some (.int e)],by simp_all[turn,d6,b.1,b.2],_,rfl⟩
 ·rintro ρ ⟨o,rfl⟩
  exact⟨[some (.int (n:Int)),some (.str m.nm),some (tupI m.tk),some (.int m.gv),some (.int m.p),o],by ac_rfl⟩
theorem uH{M:Int}{n:Nat}{ms:List Mk}(h3:3<=M)(hl:ms.length<=5)(ho:∀m∈ms,OkM (n:Int) 7 m):kY [.int M,.int (n:Int),.lst (ms.map c6)]=some (.tup (ms.map (EA M))):=by
 have Mp:0<M:=by lia
 have b:(ms.length:Int)<=16:=by lia
 refine aP ?_;unfold kT;rw[aD (ρ':=aE 9 [.int M,.int (n:Int),.lst (ms.map c6)]) (by simp_all[aE,b])];rw[aD (aY (d:=.lst []) (by simp[-TR,-TU,aA,aI]))];refine cG (items:=ms.map c6) (by ac_rfl) (λi ρ=>∃U q J F N,ρ=[some (.int M),some (.int (n:Int)),some (.lst (ms.map c6)),some (.lst ((ms.take i).map (EA M))),U,q,J,F,N]) ⟨none,none,none,none,none,by ac_rfl⟩ ?_ ?_
 ·rintro i x ρ Y ⟨U,q,J,F,N,rfl⟩
  rw[UA]at Y;obtain⟨m,G,rfl⟩:=map_some Y;have ok:=ho m (UJ G);have hi:i<ms.length:=(List.getElem?_eq_some_iff.mp G).1;have B:aV (min i ms.length)=true:=decide_eq_true (by lia);have W:=pD ok;have vf:=qU (M:=M) (n:=m.tk.length) (ts:=m.ts) Mp (by rcases ok.tk with⟨t,e⟩|⟨t,u,e⟩ <;> rw[e] <;> simp[-TR,-TU,aA,aI]) ok.tl ok.tt;refine⟨[some (.int M),some (.int (n:Int)),some (.lst (ms.map c6)),some (.lst ((ms.take (i+1)).map (EA M))),some (.str m.nm),some (tupI m.tk),some (.int m.gv),some (.lst (m.ts.map gE)),some (.int m.p)],?_,_,_,_,_,_,rfl⟩;rw[WX,G];simp only[tupI]at W;simp_all[turn,c6,EA,tupI,W,vf,B,gN]
 ·rintro ρ ⟨U,q,J,F,N,rfl⟩
  rw[T2,X2];simp_all[gN,m8 hl]
def AB(M c:Int)(n:Nat)(rs:List Ro)(ms:List Mk):D:=.tup [.int M,.tup (bP c n),.tup ((rs.map (red M)).map aT),.tup (ms.map (EA M))]
theorem J8{M c:Int}{n:Nat}{rs:List Ro}{ms:List Mk}(q:3<=M/\M<10^60/\M%2=1)(B:1<=n/\n<=6)(F:rs.length<=12/\∀r∈rs,vW (n:Int) r)(J:ms.length<=5)(N:∀m∈ms,OkM (n:Int) 7 m):qG [.int M,.lst (bP c n),.lst (rs.map aT),.lst (ms.map c6)]=some (AB M c n rs ms):=by
 have Y:=EH q.1 q.2.1 q.2.2;have U:=mZ (c:=c) B.1 B.2;have G:=uC q.1 F.1 F.2;have W:=uH q.1 J N;refine aP ?_;simp[-TR,-TU,aA,aI,CS,aE,Y,U,G,W,cX,gN,AB]at G ⊢
theorem JM{M:Int}{n:Nat}{rs:List Ro}(N:3<=M)(J:rs.length<=12)(F:∀r∈rs,vW (n:Int) r):GR M (n:Int) (rs.map (red M)):=by
 have B:0<M:=by lia
 refine⟨by rw[T2];exact J,λr h=>?_,λr h=>?_,λr h=>?_⟩ <;> obtain⟨q,G,rfl⟩:=List.mem_map.mp h
 ·exact(F q G).1
 ·exact⟨⟨T7 _ (UT B),T8 _ B⟩,T7 _ (UT B),T8 _ B⟩
 ·exact⟨(F q G).2.1,(F q G).2.2.1⟩
theorem pZ:eG (rs.map (red M)) i=(eG rs i).map (red M):=by
 unfold eG;by_cases h:0<=i
 ·rw[if_pos h,if_pos h,UA]
 ·rw[if_neg h,if_neg h];rfl
theorem AK(h:w.length<=900):b5 (tupI w) (.tup [.int x])=some (tupI (w++[x])):=by
 have q:aV (w.length+1)=true:=decide_eq_true (by lia);simp_all[tupI,q]
theorem MJ:aO (aT r) (.int 0)=some (.int r.j):=by unfold aT;rw[q_itT];exact at0
theorem MH:aO (aT r) (.int 1)=some (.int r.k):=by unfold aT;rw[q_itT];exact at1
theorem O8:aO (aT r) (.int 2)=some (.int r.a):=by unfold aT;rw[q_itT];exact at2
theorem OT:aO (aT r) (.int 3)=some (.int r.b):=by unfold aT;rw[q_itT];exact S3
theorem bY{M:Int}{rs:List Ro}(h0:0<M)(F:M<10^60)(hb:∀r∈rs,Bd 61 r.a/\Bd 61 r.b){w:List Int}(hw:∀n∈w,∃r,eG (rs.map (red M)) n=some r){x:Int}(hx:0<=x/\x<M):eP [.int M,.lst (rs.map aT),tupI w,.int x]=some (.int (aZ (rs.map (red M)) M x w)):=by
 refine aP ?_;unfold jH;refine cG (items:=w.map .int) (by ac_rfl) (λi ρ=>∃o,ρ=[some (.int M),some (.lst (rs.map aT)),some (tupI w),some (.int (aZ (rs.map (red M)) M x (w.take i))),o]) ⟨none,by ac_rfl⟩ ?_ ?_
 ·rintro i y ρ N ⟨o,rfl⟩
  rw[UA]at N;obtain⟨n,J,rfl⟩:=map_some N;obtain⟨r,U⟩:=hw n (UJ J);have B:=U;rw[pZ]at B;obtain⟨q,W,rfl⟩:=map_some B;have bq:=hb q (iQ W);have G:=cQ (rs:=rs.map (red M)) h0 (w.take i) x hx;have es:aZ (rs.map (red M)) M x (w.take (i+1))=((red M q).a*aZ (rs.map (red M)) M x (w.take i)+(red M q).b)%M:=by
   rw[WX,J];unfold aZ;rw[ZS];simp_all[U]
  have at_:=qK W;generalize aZ (rs.map (red M)) M x (w.take i)=y at G es;have mu:=bq.1.mulH (Bd.of F ⟨G.1,WI G.2⟩) (by decide) (by decide);have em:(q.a*y+q.b)%M=aZ (rs.map (red M)) M x (w.take (i+1)):=by
   rw[es];show _=(q.a%M*y+q.b%M)%M;refine lC ?_;have Y:M∣q.a-q.a%M:=Z7;have d2:M∣q.b-q.b%M:=Z7;have:q.a*y+q.b-(q.a%M*y+q.b%M)=(q.a*y-q.a%M*y)+(q.b-q.b%M):=by lia
   rw[this];exact Int.dvd_add (jO Y (iA M y)) d2
  refine⟨_,?_,some (.int n),rfl⟩;rw[<- em];simp_all[turn,at_,O8,OT,mu,bH h0]
 ·rintro ρ ⟨o,rfl⟩
  simp[-TR,-TU,aA,aI]
theorem RA:aO (AB M c n rs ms) (.int 0)=some (.int M):=by unfold AB;rw[q_itT];exact at0
theorem sZ(h0:0<M)(q:M<10^60)(B:0<=a/\a<M)(F:0<=x/\x<M):iL [.int M,.tup [.int a,.int b],.int x]=some (.int ((a*x+b)%M)):=by
 have G:=(Bd.of q ⟨B.1,WI B.2⟩).mulH (Bd.of q ⟨F.1,WI F.2⟩) (by decide) (by decide);refine aP ?_;simp_all[sX,aE,at0,at1,G,DR h0]
theorem L4(h0:0<M)(q:M<10^60)(F:0<=a/\a<M)(J:0<=b/\b<M)(B:0<=c/\c<M):CN [.int M,.tup [.int a,.int b],.tup [.int c,.int d]]=some (.tup [.int (a*c%M),.int ((c*b+d)%M)]):=by
 have G:=(Bd.of q ⟨F.1,WI F.2⟩).mulH (Bd.of q ⟨B.1,WI B.2⟩) (by decide) (by decide);refine aP ?_;simp_all[CU,aE,at0,at1,G,DR h0,sZ h0 q B J]
theorem oO(U:aO bk (.int 0)=some (.int M))(hB:aO bk (.int 2)=some (.tup (R.map aT)))(h3:3<=M)(q:M<10^60)(g:GR M many R)(hw:∀n∈w,∃r,eG R n=some r):nG [bk,tupI w]=some (M0 (pC R M (1,0) w)):=by
 have h0:0<M:=by lia
 refine aP ?_;unfold nJ;rw[aD (aY (d:=M0 (1,0)) (by ac_rfl))];refine cG (items:=w.map .int) (by ac_rfl) (λi ρ=>∃G,ρ=[some bk,some (tupI w),some (M0 (pC R M (1,0) (w.take i))),G]) ⟨none,by ac_rfl⟩ ?_ ?_
 ·rintro i x ρ J ⟨G,rfl⟩
  rw[UA]at J;obtain⟨n,N,rfl⟩:=map_some J;obtain⟨r,F⟩:=hw n (UJ N);have W:=g.ab r (iQ F);have B:=i8 (rs:=R) h0 (w.take i) (1,0) 0 0 ⟨by decide,by show(1:Int)<M;lia⟩ ⟨by decide,by show(0:Int)<M;lia⟩ (by simp[-TR,-TU,aA,aI]);have es:pC R M (1,0) (w.take (i+1))=((pC R M (1,0) (w.take i)).1*r.a%M,(r.a*(pC R M (1,0) (w.take i)).2+r.b)%M):=by
   rw[WX,N];unfold pC;rw[ZS];simp_all[F]
  refine⟨[some bk,some (tupI w),some (M0 (pC R M (1,0) (w.take (i+1)))),some (.int n)],?_,_,rfl⟩;rw[es];generalize pC R M (1,0) (w.take i)=t at B;have Y:=L4 (M:=M) (a:=t.1) (b:=t.2) (c:=r.a) (d:=r.b) h0 q B.1 B.2.1 W.1;simp_all[turn,U,hB,qK F,N9,M0,Y]
 ·rintro ρ' ⟨G,rfl⟩
  simp[-TR,-TU,aA,aI]
theorem CO{rs:List Ro}{M many k:Int}{bk:D}(hB:aO bk (.int 2)=some (.tup (rs.map aT)))(g:GR M many rs):∀(n:Nat) (x:Int),k-x<(n:Int)->0<n->k-x<=5->vR 6 gO n [bk,.int x,.int k]=some (.lst ((c5 rs k n x).map tupI))
 | 0,x,_,h,_=>absurd h (VN 0)
 | n+1,x,hn,_,h5=>by
  have Y:∀y:Int,k-y<(n:Int)->0<n->k-y<=5->vR 6 gO n [bk,.int y,.int k]=some (.lst ((c5 rs k n y).map tupI)):=λy=>CO hB g n y
  show bA 6 (gO (vR 6 gO n)) _=_;generalize vR 6 gO n=R at Y ⊢;refine aP ?_;unfold gO c5;by_cases e:x=k
  ·rw[if_pos e]
   simp_all[aE,e,tupI]
  rw[if_neg e];rw[aD (ρ':=aE 6 [bk,.int x,.int k]) (by simp_all[aE,e])];rw[aD (aY (d:=.lst []) (by simp[-TR,-TU,aA,aI]))];refine cG (items:=eA 0 (rs.map aT)) (by simp_all[aE,hB]) (λi ρ=>∃W F,ρ=[some bk,some (.int x),some (.int k),some (.lst ((fl (λi r=>if r.j=x/\r.k<=k then(c5 rs k n r.k).map λw=>(i:Int)::w else []) 0 (rs.take i)).map tupI)),W,F]) ⟨none,none,by simp_all[aE,fl]⟩ ?_ ?_
  ·rintro i y ρ hy ⟨W,F,rfl⟩
   obtain⟨z,hz,rfl⟩:=fE hy;rw[UA]at hz;obtain⟨r,U,rfl⟩:=map_some hz;rw[YR];have gr:=g.jk r (UJ U);have hi:i<rs.length:=(List.getElem?_eq_some_iff.mp U).1;have gl:=g.len;refine⟨[some bk,some (.int x),some (.int k),some (.lst ((fl (λi r=>if r.j=x/\r.k<=k then(c5 rs k n r.k).map λw=>(i:Int)::w else []) 0 (rs.take (i+1))).map tupI)),some (.int (i:Int)),some (aT r)],?_,_,_,rfl⟩;rw[GJ U];by_cases q:r.j=x/\r.k<=k
   ·have G:(fl (λi r=>if r.j=x/\r.k<=k then(c5 rs k n r.k).map λw=>(i:Int)::w else []) 0 (rs.take i)).length<=12*12^4:=by
     refine UV (iG (B:=12^4) λt N er=>?_) (Nat.mul_le_mul_right _ (by simp[-TR,-TU,aA,aI];lia));split
     ·rw[T2]
      have J:rs[t]?=some N:=by rw[List.getElem?_take]at er;split at er;exact er;cases er
      have ad:=g.jk N (UJ J);exact lZ g n N.k 4 (by lia)
     ·exact UZ _
    rw[if_pos q];generalize fl (λi r=>if r.j=x/\r.k<=k then(c5 rs k n r.k).map λw=>(i:Int)::w else []) 0 (rs.take i)=told at G;have ih:=Y r.k (by lia) (by lia) (by lia);have al:=lZ g n r.k 4 (k:=k) (by lia);have cm:=kQ (t:=(i:Int)) (c5 rs k n r.k) none λw hw=>by
     have:=dY g (gG hw);lia
    have z1:aV (c5 rs k n r.k).length=true:=decide_eq_true (by lia);have z2:aV (told.length+(c5 rs k n r.k).length)=true:=decide_eq_true (by lia);simp_all[-VM,turn,ML,OV,q.1,q.2,PN,ih,tZ,z1,cm,z2]
   ·rw[if_neg q,X8]
    by_cases h1:r.j=x
    ·have h2:¬ r.k<=k:=λz=>q ⟨h1,z⟩
     simp_all[turn,ML,OV,h1,h2]
    ·simp_all[turn,ML,h1]
  ·rintro ρ' ⟨W,F,rfl⟩
   rw[i5,T2,X2];simp[-TR,-TU,aA,aI]
theorem CL{R:List Ro}{M:Int}(B:3<=M)(w:List Int){x:Int}(q:0<=x/\x<M):((pC R M (1,0) w).1*x+(pC R M (1,0) w).2)%M=aZ R M x w:=by
 obtain⟨_,_,c⟩:=i8 (rs:=R) (M:=M) (by lia) w (1,0) x x ⟨by decide,by show(1:Int)<M;lia⟩ ⟨by decide,by show(0:Int)<M;lia⟩ (by simp[-TR,-TU,aA,aI]);have r:=cQ (rs:=R) (by lia) w x q;rw[<- c];exact Int.emod_eq_of_lt r.1 r.2
noncomputable def R6(p q F B:Int):D:=if p≠F then .int 0 else if q≠B then .int 1 else .non
theorem pF{R:List Ro}{M many:Int}{bk:D}(U:aO bk (.int 0)=some (.int M))(hB:aO bk (.int 2)=some (.tup (R.map aT)))(W:3<=M)(N:M<10^60)(g:GR M many R){a b:List Int}(ha:∀n∈a,∃r,eG R n=some r)(hb:∀n∈b,∃r,eG R n=some r):g9 [bk,tupI a,tupI b]=some (R6 (aZ R M 0 a) (aZ R M 1 a) (aZ R M 0 b) (aZ R M 1 b)):=by
 have ta:=oO U hB W N g ha;have tb:=oO U hB W N g hb;have ga:=λ(x:Int) hx=>CL (R:=R) W a (x:=x) hx
 have gb:=λ(x:Int) hx=>CL (R:=R) W b (x:=x) hx
 obtain⟨a1,a2,_⟩:=i8 (rs:=R) (M:=M) (by lia) a (1,0) 0 0 ⟨by decide,by show(1:Int)<M;lia⟩ ⟨by decide,by show(0:Int)<M;lia⟩ (by simp[-TR,-TU,aA,aI]);obtain⟨b1,b2,_⟩:=i8 (rs:=R) (M:=M) (by lia) b (1,0) 0 0 ⟨by decide,by show(1:Int)<M;lia⟩ ⟨by decide,by show(0:Int)<M;lia⟩ (by simp[-TR,-TU,aA,aI]);have h0:0<M:=by lia
 have vt:∀(t:Int×Int) (x:Int),0<=t.1/\t.1<M->0<=x/\x<M->iL [.int M,M0 t,.int x]=some (.int ((t.1*x+t.2)%M)):=λt x h1 h2=>sZ h0 N h1 h2
 have Y:(0:Int)<=0/\(0:Int)<M:=by lia
 have z1:(0:Int)<=1/\(1:Int)<M:=by lia
 have F:=vt _ 0 a1 Y;have G:=vt _ 1 a1 z1;have J:=vt _ 0 b1 Y;have B:=vt _ 1 b1 z1;rw[ga 0 Y]at F;rw[ga 1 z1]at G;rw[gb 0 Y]at J;rw[gb 1 z1]at B;refine aP ?_;unfold hZ R6;generalize pC R M (1,0) a=tA at *;generalize pC R M (1,0) b=tB at *;generalize aZ R M 0 a=p at *;generalize aZ R M 1 a=q at *;generalize aZ R M 0 b=p' at *;generalize aZ R M 1 b=q' at *;have rl:dX [.int 2]=some [.int 0,.int 1]:=rfl;by_cases e:p=p'
 ·by_cases e':q=q'
  ·subst e e'
   simp_all[aE,turn,c4,rl,U,ta,tb,F,G,J,B]
  ·subst e
   simp_all[aE,turn,c4,rl,U,ta,tb,F,G,J,B,e']
 ·simp_all[aE,turn,c4,rl,U,ta,tb,F,G,J,B,e]
def HU(R:List Ro)(M j k:Int):Prop:=∀w q:List Int,gw R j w=some k->gw R j q=some k->aZ R M 0 w=aZ R M 0 q/\aZ R M 1 w=aZ R M 1 q
structure Ptw(R:List Ro)(M j k:Int)(one other:List Int)(x:Int):Prop where
 w1:gw R j one=some k
 w2:gw R j other=some k
 lt:HT.lexLt one other=true
 le:∀w,gw R j w=some k->HT.lexLt w one=false
 bt:∀w,gw R j w=some k->HT.lexLt w other=true->aZ R M 0 w=aZ R M 0 one/\aZ R M 1 w=aZ R M 1 one
 at_:x=0/\aZ R M 0 one≠aZ R M 0 other\/x=1/\aZ R M 0 one=aZ R M 0 other/\aZ R M 1 one≠aZ R M 1 other
theorem fL:∀a b:List Int,HT.lexLt a b=true\/a=b\/HT.lexLt b a=true
 | [],[]=>.inr (.inl rfl)
 | [],_::_=>.inl rfl
 | _::_,[]=>.inr (.inr rfl)
 | x::a,y::b=>by
  show(if x=y then HT.lexLt a b else decide (x<y))=true\/_\/(if y=x then HT.lexLt b a else decide (y<x))=true;by_cases e:x=y
  ·subst e
   rw[if_pos rfl,if_pos rfl];rcases fL a b with z|z|z
   ·exact .inl z
   ·exact .inr (.inl (by rw[z]))
   ·exact .inr (.inr z)
  ·rw[if_neg e,if_neg (UH e)]
   rcases Int.lt_or_lt_of_ne e with z|z
   ·exact .inl (decide_eq_true z)
   ·exact .inr (.inr (decide_eq_true z))
theorem lO:∀ {a b:List Int},HT.lexLt a b=true->HT.lexLt b a=false
 | [],[],h=>nomatch h
 | [],_::_,_=>rfl
 | _::_,[],h=>nomatch h
 | x::a,y::b,h=>by
  have h:(if x=y then HT.lexLt a b else decide (x<y))=true:=h;show(if y=x then HT.lexLt b a else decide (y<x))=false;by_cases e:x=y
  ·subst e
   rw[if_pos rfl]at h ⊢;exact lO h
  ·rw[if_neg e]at h
   rw[if_neg (UH e)];have:=of_decide_eq_true h;exact decide_eq_false (by lia)
theorem v9{g:Gv}{b:Sv}{items:List D}{ρ:bK}(I:Nat->bK->Prop)(R:D->Prop)(h0:I 0 ρ)(hs:∀i x ρ,items[i]?=some x->I i ρ->(∃d,turn g b x ρ=some (.rt d)/\R d)\/∃ρ',turn g b x ρ=some (.nx ρ')/\I (i+1) ρ'):(∃d,c4 g b items ρ=some (.rt d)/\R d)\/∃ρ',c4 g b items ρ=some (.nx ρ')/\I items.length ρ':=by
 have B:∀(m:List D) (k:Nat) (ρ:bK),items.drop k=m->k<=items.length->I k ρ->(∃d,c4 g b m ρ=some (.rt d)/\R d)\/∃ρ',c4 g b m ρ=some (.nx ρ')/\I items.length ρ':=by
  intro m;induction m with
  | nil=>
   intro k ρ e G h;have:items.length<=k:=by simpa using e
   exact .inr ⟨ρ,rfl,by rwa [show items.length=k by lia]⟩
  | cons x m ih=>
   intro k ρ e G h;have F:items[k]?=some x:=by rw[<- List.head?_drop,e];rfl
   have lt:k<items.length:=(List.getElem?_eq_some_iff.mp F).1;rcases hs k x ρ F h with⟨d,q,r⟩|⟨ρ1,q,h1⟩
   ·refine .inl ⟨d,?_,r⟩
    unfold turn at q;obtain⟨ρ1,M,J⟩:=bind_some q;rw[c4,M,aA,J,aA]
   ·rcases ih (k+1) ρ1 (by rw[<- List.tail_drop,e];rfl) lt h1 with⟨d,e2,r⟩|⟨ρ2,e2,h2⟩
    ·exact .inl ⟨d,pW q e2,r⟩
    ·exact .inr ⟨ρ2,pW q e2,h2⟩
 exact B items 0 ρ rfl (UZ _) h0
theorem CV{f:Lv}{g:Gv}{b rest:Sv}{ρ:bK}{items:List D}{R:D->Prop}(q:f ρ=some items)(I:Nat->bK->Prop)(h0:I 0 ρ)(hs:∀i x ρ,items[i]?=some x->I i ρ->(∃d,turn g b x ρ=some (.rt d)/\R d)\/∃ρ',turn g b x ρ=some (.nx ρ')/\I (i+1) ρ')(k:∀ρ',I items.length ρ'->∃d,rest ρ'=some (.rt d)/\R d):∃d,bT (nB f g b) rest ρ=some (.rt d)/\R d:=by
 rcases v9 (g:=g) (b:=b) I R h0 hs with⟨d,e,r⟩|⟨ρ',e,h⟩
 ·exact⟨d,by unfold bT;rw[q_for,q,aA,e];rfl,r⟩
 ·rw[aD (by rw[q_for,q];exact e)]
  exact k ρ' h
theorem qV{L:List (List Int)}(h:L.Pairwise λa b=>HT.lexLt a b=true){i:Nat}{w v:List Int}(hw:L[i]?=some w)(B:v∈L)(lt:HT.lexLt v w=true):v∈L.take i:=by
 rw[<- List.take_append_drop i L]at B h;rcases List.mem_append.mp B with z|z
 ·exact z
 ·exfalso
  have F:L.drop i=w::L.drop (i+1):=by
   have lt:=(List.getElem?_eq_some_iff.mp hw);rw[XY lt.1,lt.2]
  have p2:=(List.pairwise_append.mp h).2.1;rw[F]at z p2;rcases List.mem_cons.mp z with q|q
  ·rw[q,iY]at lt;cases lt
  ·have:=lO ((List.pairwise_cons.mp p2).1 v q)
   rw[lt]at this;cases this
def SN(R:List Ro)(M j k:Int)(d:D):Prop:=(d=.non/\HU R M j k)\/∃one q x,d=.tup [.int j,.int k,tupI one,tupI q,.int x]/\Ptw R M j k one q x
theorem BB{R:List Ro}{M:Int}{n:Nat}{bk:D}(hk:aO bk (.int 0)=some (.int M))(hB:aO bk (.int 2)=some (.tup (R.map aT)))(h3:3<=M)(ae:M<10^60)(hn:n<=6)(g:GR M (n:Int) R){j k:Int}(hj:0<=j)(ap:k<(n:Int)):∃d,dI [bk,.int j,.int k]=some d/\SN R M j k d:=by
 have vw:DF [bk,.int j,.int k]=some (.lst ((c5 R k 7 j).map tupI)):=CO hB g 7 j (by lia) (by decide) (by lia);have q:∀w,gw R j w=some k->w∈c5 R k 7 j:=λw hw=>sM g (by lia) hw
 have F:∀w∈c5 R k 7 j,gw R j w=some k:=λw hw=>gG hw
 have W:=jX (rs:=R) (k:=k) 7 j;generalize c5 R k 7 j=L at *;refine d7 ?_;unfold fY;rw[aD (aY (d:=.lst (L.map tupI)) (by ac_rfl))];refine CV (items:=L.map tupI) (by ac_rfl) (λi ρ=>∃o4 U,ρ=[some bk,some (.int j),some (.int k),some (.lst (L.map tupI)),o4,U]/\∀f,L[0]?=some f->∀w∈L.take i,aZ R M 0 w=aZ R M 0 f/\aZ R M 1 w=aZ R M 1 f) ⟨none,none,rfl,λ_ _ w h=>nomatch h⟩ ?_ ?_
 ·rintro i y ρ hy ⟨o4,U,rfl,B⟩
  rw[UA]at hy;obtain⟨w,hw,rfl⟩:=map_some hy;obtain⟨f,J⟩:∃f,L[0]?=some f:=by
   cases L with
   | nil=>cases hw
   | cons f L=>exact⟨f,rfl⟩
  have fm:f∈L:=UJ J;have wm:w∈L:=UJ hw;have N:=pF hk hB h3 ae g (d8 (F f fm)) (d8 (F w wm));have i0:aO (.lst (L.map tupI)) (.int 0)=some (tupI f):=by
   show c7 (L.map tupI) ((0:Nat):Int)=_;exact b7 (by rw[UA,J];rfl)
  have Y:∀v∈L,HT.lexLt v f=false:=λv G=>by
   cases L with
   | nil=>cases J
   | cons f' L=>
    cases J;rcases List.mem_cons.mp G with z|z
    ·rw[z];exact iY f
    ·exact lO ((List.pairwise_cons.mp W).1 v z)
  have aa:(f≠w)->∀x,(x=0/\aZ R M 0 f≠aZ R M 0 w\/x=1/\aZ R M 0 f=aZ R M 0 w/\aZ R M 1 f≠aZ R M 1 w)->Ptw R M j k f w x:=λne x hx=>
   ⟨F f fm,F w wm,(fL f w).elim id (λz=>z.elim (λz=>absurd z ne) (λz=>absurd z (by rw[Y w wm];decide))),λv G=>Y v (q v G),λv G lt=>B f J v (qV W hw (q v G) lt),hx⟩
  unfold R6 at N;by_cases e:aZ R M 0 f=aZ R M 0 w
  ·by_cases e':aZ R M 1 f=aZ R M 1 w
   ·rw[if_neg (λz=>z e),if_neg (λz=>z e')]at N
    refine .inr ⟨[some bk,some (.int j),some (.int k),some (.lst (L.map tupI)),some (tupI w),some .non],?_,_,_,rfl,λf' ad v G=>?_⟩
    ·refine dH (ρ':=[some bk,some (.int j),some (.int k),some (.lst (L.map tupI)),some (tupI w),U]) rfl ((aD (ρ':=[some bk,some (.int j),some (.int k),some (.lst (L.map tupI)),some (tupI w),some (.non)]) (bN (aQ (aB rfl (aB (aN rfl rfl i0) (aB rfl rfl))) N) rfl)).trans ?_)
     exact s_iff (bG (aN rfl rfl rfl)) rfl
    ·rw[J]at ad;cases ad
     rw[WX,hw]at G;rcases List.mem_append.mp G with z|z
     ·exact B f J v z
     ·rw[List.mem_singleton.mp z];exact⟨e.symm,e'.symm⟩
   ·rw[if_neg (λz=>z e),if_pos e']at N
    refine .inl ⟨.tup [.int j,.int k,tupI f,tupI w,.int 1],?_,.inr ⟨f,w,1,rfl,aa (λz=>e' (by rw[z])) 1 (.inr ⟨rfl,e,e'⟩)⟩⟩;refine dH (ρ':=[some bk,some (.int j),some (.int k),some (.lst (L.map tupI)),some (tupI w),U]) rfl ((aD (ρ':=[some bk,some (.int j),some (.int k),some (.lst (L.map tupI)),some (tupI w),some (.int 1)]) (bN (aQ (aB rfl (aB (aN rfl rfl i0) (aB rfl rfl))) N) rfl)).trans ?_);exact s_ift (bG (aN rfl rfl rfl)) (mL (cJ (aB rfl (aB rfl (aB (aN rfl rfl i0) (aB rfl (aB rfl rfl)))))))
  ·rw[if_pos e]at N
   refine .inl ⟨.tup [.int j,.int k,tupI f,tupI w,.int 0],?_,.inr ⟨f,w,0,rfl,aa (λz=>e (by rw[z])) 0 (.inl ⟨rfl,e⟩)⟩⟩;refine dH (ρ':=[some bk,some (.int j),some (.int k),some (.lst (L.map tupI)),some (tupI w),U]) rfl ((aD (ρ':=[some bk,some (.int j),some (.int k),some (.lst (L.map tupI)),some (tupI w),some (.int 0)]) (bN (aQ (aB rfl (aB (aN rfl rfl i0) (aB rfl rfl))) N) rfl)).trans ?_);exact s_ift (bG (aN rfl rfl rfl)) (mL (cJ (aB rfl (aB rfl (aB (aN rfl rfl i0) (aB rfl (aB rfl rfl)))))))
 ·rintro ρ ⟨o4,U,rfl,B⟩
  refine⟨_,D2 rfl,.inl ⟨rfl,λw w' hw ag=>?_⟩⟩;rw[T2,X2]at B;cases L with
  | nil=>exact nomatch q w hw
  | cons f L=>
   obtain⟨a,b⟩:=B f rfl w (q w hw);obtain⟨c,d⟩:=B f rfl w' (q w' ag);exact⟨a.trans c.symm,b.trans d.symm⟩
def R4(R:List Ro)(M:Int)(n:Nat)(d:D):Prop:=(d=.non/\∀j k:Int,0<=j->j<k->k<(n:Int)->HU R M j k)\/∃(j k:Int) (one other:List Int) (x:Int),d=.tup [.int j,.int k,tupI one,tupI other,.int x]/\(0<=j/\j<k/\k<(n:Int))/\Ptw R M j k one other x/\∀q B:Int,0<=q->q<B->B<(n:Int)->(q<j\/q=j/\B<k)->HU R M q B
theorem qS{R:List Ro}{M:Int}{n:Nat}{bk:D}(hk:aO bk (.int 0)=some (.int M))(hB:aO bk (.int 2)=some (.tup (R.map aT))){K:List D}(hK:aO bk (.int 1)=some (.tup K))(kl:K.length=n)(B:3<=M)(N:M<10^60)(hn:n<=6)(g:GR M (n:Int) R):∃d,j6 [bk]=some d/\R4 R M n d:=by
 have el:gW [.tup K]=some (.int (n:Int)):=by rw[q_lenT,kl]
 have rl:dX [.int (n:Int)]=some (aU 0 1 n):=by
  have:=cU (show(0:Int)<=(n:Int) by lia) (show(n:Int)<=1000000 by lia)
  rwa [V4]at this
 refine d7 ?_;unfold j5;rw[aD (aY (d:=.int (n:Int)) (by ac_rfl))];refine CV (items:=aU 0 1 n) (by ac_rfl) (λi ρ=>∃W F G,ρ=[some bk,some (.int (n:Int)),W,F,G]/\∀j k:Int,0<=j->j<(i:Int)->j<k->k<(n:Int)->HU R M j k) ⟨none,none,none,rfl,λj k _ h=>by lia⟩ ?_ ?_
 ·rintro i y ρ U ⟨W,F,G,rfl,q⟩
  obtain⟨ag,rfl⟩:=bD U;rw[show(0:Int)+(i:Int)*1=(i:Int) by lia];have Y:b8 [.int ((i:Int)+1),.int (n:Int)]=some (aU ((i:Int)+1) 1 (n-(i+1))):=by
   have:=cP (a:=(i:Int)+1) (b:=(n:Int)) (by lia) (by lia) (by lia) (by lia)
   rwa [show((n:Int)-((i:Int)+1)).toNat=n-(i+1) by lia]at this
  have inner:=v9 (g:=bX 3) (b:=bT (eD 4 (aW dI (aK (aL 0) (aK (aL 2) (aK (aL 3) bO))))) (tW (mS (bU xS (aL 4) (eC .non))) (MZ (aL 4)) HQ)) (items:=aU ((i:Int)+1) 1 (n-(i+1))) (ρ:=[some bk,some (.int (n:Int)),some (.int (i:Int)),F,G]) (λm ρ=>∃F G,ρ=[some bk,some (.int (n:Int)),some (.int (i:Int)),F,G]/\∀k:Int,(i:Int)<k->k<(i:Int)+1+(m:Int)->k<(n:Int)->HU R M (i:Int) k) (R4 R M n) ⟨_,_,rfl,λk _ h=>by lia⟩ ?_
  ·rcases inner with⟨d,e,r⟩|⟨ρ',e,F,G,rfl,ok⟩
   ·exact .inl ⟨d,dH (ρ':=[some bk,some (.int (n:Int)),some (.int (i:Int)),_,_]) rfl (by rw[q_for,show lR b8 (aK (bU b5 (aL 2) (eC (.int 1))) (aK (aL 1) bO)) [some bk,some (.int (n:Int)),some (.int (i:Int)),_,_]=some (aU ((i:Int)+1) 1 (n-(i+1)))from pB rfl Y,aA];exact e),r⟩
   ·refine .inr ⟨_,dH (ρ':=[some bk,some (.int (n:Int)),some (.int (i:Int)),_,_]) rfl (by rw[q_for,show lR b8 (aK (bU b5 (aL 2) (eC (.int 1))) (aK (aL 1) bO)) [some bk,some (.int (n:Int)),some (.int (i:Int)),_,_]=some (aU ((i:Int)+1) 1 (n-(i+1)))from pB rfl Y,aA];exact e),_,_,_,rfl,λj k h0 h1 h2 B=>?_⟩
    rw[bC]at ok;by_cases z:j<(i:Int)
    ·exact q j k h0 z h2 B
    ·have:j=(i:Int):=by lia
     subst this;exact ok k h2 (by lia) B
  ·rintro m y ρ U ⟨F,G,rfl,ok⟩
   obtain⟨hm,rfl⟩:=bD U;have e1:(i:Int)+1+(m:Int)*1=(i:Int)+1+(m:Int):=by lia
   rw[e1];have kn:(i:Int)+1+(m:Int)<(n:Int):=by lia
   obtain⟨d,ed,un⟩:=BB hk hB B N hn g (j:=(i:Int)) (k:=(i:Int)+1+(m:Int)) (by lia) kn;rcases un with⟨rfl,ev⟩|⟨one,J,x,rfl,pt⟩
   ·refine .inr ⟨[some bk,some (.int (n:Int)),some (.int (i:Int)),some (.int ((i:Int)+1+(m:Int))),some .non],?_,_,_,rfl,λk h1 h2 B=>?_⟩
    ·simp_all[turn,ed,iT]
    ·by_cases z:k<(i:Int)+1+(m:Int)
     ·exact ok k h1 z B
     ·have:k=(i:Int)+1+(m:Int):=by lia
      subst this;exact ev
   ·refine .inl ⟨_,?_,.inr ⟨(i:Int),(i:Int)+1+(m:Int),one,J,x,rfl,by lia,pt,λj' k' h0 h1 h2 B=>?_⟩⟩
    ·simp_all[turn,ed,iT]
    ·rcases B with z|⟨z,z'⟩
     ·exact q j' k' h0 z h1 h2
     ·subst z;exact ok k' h1 z' h2
 ·rintro ρ ⟨W,F,G,rfl,q⟩
  rw[bC]at q;exact⟨_,D2 rfl,.inl ⟨rfl,λj k h0 h1 h2=>q j k h0 (by lia) h1 h2⟩⟩
theorem EQ{q:Type}{l:List q}{x:q}:c7 (l++[x]) (-1)=some x:=by
 have:AC (l++[x]).length (-1)=some l.length:=by
  unfold AC;rw[VB,zat];rw[if_neg (by decide)];split
  ·exact congrArg some (by lia)
  ·lia
 unfold c7;rw[this,aA];simp[-TR,-TU,aA,aI]
theorem j3{c:Bv}{τ:bK}{p:D->Bool}:∀(l:List D) (o:Option D),(∀x∈l,c (some x::τ)=some (p x))->bR (bX 0) c (aL 0) l (o::τ)=some (l.filter p)
 | [],_,_=>rfl
 | x::l,o,h=>by
  have ih:=j3 l (some x) λy B=>h y (UN _ B)
  have q:=h x (UW ..);rw[bR,show bX 0 x (o::τ)=some (some x::τ)from rfl,aA,q,aA,zau];cases p x with
  | true=>rw[if_pos rfl,if_pos rfl,show aL 0 (some x::τ)=some x from rfl,aA,ih,aA]
  | false=>rw[if_neg (by decide),if_neg (by decide),ih]
def fN(R:List Ro)(M j k:Int)(w:List Int):D:=.tup [.int j,.int k,tupI w,.int (aZ R M 0 w),.int (aZ R M 1 w)]
def M1(R:List Ro)(M:Int)(n:Nat)(d:D):Prop:=∃(j k:Int) (w:List Int),d=fN R M j k w/\0<=j/\k<(n:Int)/\gw R j w=some k
theorem wY{R:List Ro}{M x n:Int}{w:List Int}{r:Ro}(q:eG R n=some r):aZ R M x (w++[n])=(r.a*aZ R M x w+r.b)%M:=by
 unfold aZ;rw[ZS];simp_all[q]
theorem wN{M y:Int}{q:Ro}:(q.a*y+q.b)%M=((red M q).a*y+(red M q).b)%M:=by
 show _=(q.a%M*y+q.b%M)%M;refine lC ?_;have B:M∣q.a-q.a%M:=Z7;have F:M∣q.b-q.b%M:=Z7;have:q.a*y+q.b-(q.a%M*y+q.b%M)=(q.a*y-q.a%M*y)+(q.b-q.b%M):=by lia
 rw[this];exact Int.dvd_add (jO B (iA M y)) F
theorem rR{rs:List Ro}{c:Bv}{τ:bK}{at_:Int}(M:∀(i:Nat) (q:Ro),rs[i]?=some q->c (some (.int (i:Int))::τ)=some (decide (q.j=at_))):∃L:List D,bR (bX 0) c (aL 0) (aU 0 1 rs.length) (none::τ)=some L/\L.length<=rs.length/\∀d∈L,∃(r:Int) (q:Ro),d=.int r/\eG rs r=some q/\q.j=at_:=by
 refine⟨_,j3 (p:=λd=>match d with | .int r=>(match eG rs r with|some q=>decide (q.j=at_)|none=>false)|_=>false) (aU 0 1 rs.length) none (λx U=>?_),?_,λd J=>?_⟩
 ·obtain⟨i,hi⟩:=List.mem_iff_getElem?.mp U
  obtain⟨B,rfl⟩:=bD hi;have N:(0:Int)+(i:Int)*1=(i:Int):=by lia
  have G:rs[i]?=some rs[i]:=U8 B;have F:eG rs (i:Int)=some rs[i]:=by unfold eG;rw[if_pos (by lia),V4];exact G
  rw[N];dsimp only;rw[F];exact M i _ G
 ·refine UV (List.length_filter_le ..) ?_
  rw[bC];exact T5 _
 ·obtain⟨h1,h2⟩:=List.mem_filter.mp J
  obtain⟨i,hi⟩:=List.mem_iff_getElem?.mp h1;obtain⟨B,rfl⟩:=bD hi;dsimp only at h2;cases F:eG rs (0+(i:Int)*1)with
  | none=>rw[F]at h2;cases h2
  | some q=>rw[F]at h2;exact⟨_,q,rfl,F,of_decide_eq_true h2⟩
theorem nI{rs:List Ro}{i:Nat}{q:Ro}(h:rs[i]?=some q):aO (.lst (rs.map aT)) (.int (i:Int))=some (aT q):=by
 show c7 _ _=_;exact b7 (by rw[UA,h];rfl)
theorem pN{M cell:Int}{n:Nat}{rs:List Ro}(h3:3<=M)(U:M<10^60)(g:GR M (n:Int) (rs.map (red M)))(hb:∀r∈rs,Bd 61 r.a/\Bd 61 r.b)(hn:1<=n/\n<=6):∃l:List D,dS [.int M,.lst (rs.map aT),.int (n:Int),.int cell]=some (.lst l)/\l.length<=10/\∀d∈l,M1 (rs.map (red M)) M n d:=by
 suffices h:∃d,dS [.int M,.lst (rs.map aT),.int (n:Int),.int cell]=some d/\∃l:List D,d=.lst l/\l.length<=10/\∀d∈l,M1 (rs.map (red M)) M n d by
  obtain⟨d,e,l,rfl,h⟩:=h;exact⟨l,e,h⟩
 have Y:0<M:=by lia
 have np:(0:Int)<(n:Int):=by lia
 have hl:rs.length<=12:=by have:=g.len;rwa [T2]at this
 have el:gW [.lst (rs.map aT)]=some (.int (rs.length:Int)):=by rw[q_lenL,T2]
 have rl:dX [.int (rs.length:Int)]=some (aU 0 1 rs.length):=by
  have:=cU (show(0:Int)<=(rs.length:Int) by lia) (show(rs.length:Int)<=1000000 by lia)
  rwa [V4]at this
 have zl:(aU 0 1 rs.length).length<=1000000:=by rw[bC];lia
 have j0:=T7 cell (UT np);have j1:=T8 cell np;have dj:eB (.int cell) (.int (n:Int))=some (.int (cell%(n:Int))):=bH np;have dd:qQ (.int cell) (.int (n:Int))=some (.int (cell/(n:Int))):=gD np (by lia);generalize cell%(n:Int)=j at j0 j1 dj;generalize cell/(n:Int)=c0 at dd;refine d7 ?_;unfold g7;rw[show aE 10 [.int M,.lst (rs.map aT),.int (n:Int),.int cell]=[some (.int M),some (.lst (rs.map aT)),some (.int (n:Int)),some (.int cell),none,none,none,none,none,none]from rfl];rw[aD (bN (d:=.int j) (ρ':=[some (.int M),some (.lst (rs.map aT)),some (.int (n:Int)),some (.int cell),some (.int j),none,none,none,none,none]) (by ac_rfl) rfl)];rw[aD (bN (d:=.int c0) (ρ':=[some (.int M),some (.lst (rs.map aT)),some (.int (n:Int)),some (.int c0),some (.int j),none,none,none,none,none]) (by ac_rfl) rfl)];rw[aD (bN (d:=.lst [fN (rs.map (red M)) M j j []]) (ρ':=[some (.int M),some (.lst (rs.map aT)),some (.int (n:Int)),some (.int c0),some (.int j),some (.lst [fN (rs.map (red M)) M j j []]),none,none,none,none]) (show _=some (D.lst [.tup [.int j,.int j,.tup [],.int 0,.int 1]]) by ac_rfl) rfl)];obtain⟨L0,cL,lL,hL⟩:=rR (rs:=rs) (c:=mS (bU vV (bU aO (bU aO (aL 1) (aL 0)) (eC (.int 0))) (aL 2))) (τ:=[some (.lst (rs.map aT)),some (.int j)]) (at_:=j) (λi q hq=>by
  have a:=nI hq;have b:=MJ (r:=q);simp_all[a,b])
 rw[aD (bN (d:=.lst L0) (ρ':=[some (.int M),some (.lst (rs.map aT)),some (.int (n:Int)),some (.int c0),some (.int j),some (.lst [fN (rs.map (red M)) M j j []]),some (.lst L0),none,none,none]) (qC (pB (aB (aQ (by ac_rfl) el) rfl) rl) zl cL) rfl)];refine zL (λm ρ=>∃(at_ c:Int) (w:List Int) (O L:List D) (o7 J G:Option D),ρ=[some (.int M),some (.lst (rs.map aT)),some (.int (n:Int)),some (.int c),some (.int j),some (.lst O),some (.lst L),o7,J,G]/\O[0]?=some (fN (rs.map (red M)) M j j [])/\c7 O (-1)=some (fN (rs.map (red M)) M j at_ w)/\(O.length:Int)<=at_+1/\(∀d∈O,M1 (rs.map (red M)) M n d)/\gw (rs.map (red M)) j w=some at_/\(0<=at_/\at_<(n:Int))/\L.length<=12/\(∀d∈L,∃(r:Int) (q:Ro),d=.int r/\eG rs r=some q/\q.j=at_)/\((n:Int)-at_).toNat=m) (λρ=>∃(c:Int) (O:List D) (o6 o7 J G:Option D),ρ=[some (.int M),some (.lst (rs.map aT)),some (.int (n:Int)),some (.int c),some (.int j),some (.lst O),o6,o7,J,G]/\O.length<=10/\∀d∈O,M1 (rs.map (red M)) M n d) ((n:Int)-j).toNat (by lia) ⟨j,c0,[],[fN (rs.map (red M)) M j j []],L0,none,none,none,rfl,rfl,rfl,by simp[-TR,-TU,aA,aI];lia,λd hd=>by rw[List.mem_singleton.mp hd];exact⟨j,j,[],rfl,j0,j1,rfl⟩,rfl,⟨j0,j1⟩,by lia,hL,rfl⟩ ?_ ?_
 ·rintro m ρ ⟨at_,c,w,O,L,o7,J,G,rfl,O0,O1,ol,oW,W,ab,ll,hL,hm⟩
  have eL:gW [.lst L]=some (.int (L.length:Int)):=q_lenL;by_cases N:0<(L.length:Int)
  ·have a0:=T7 c (UT N)
   have a1:=T8 c N;obtain⟨d,hd,_,ed⟩:=DK a0 a1;obtain⟨r,q,rfl,hr,hj⟩:=hL d hd;have F:eG (rs.map (red M)) r=some (red M q):=by rw[pZ,hr];rfl
   have gq:0<=q.j/\q.j<q.k/\q.k<(n:Int):=g.jk (red M q) (iQ F);have B:=qK hr;have bq:=hb q (iQ hr);have g0:=cQ (rs:=rs.map (red M)) Y w 0 ⟨by decide,Y⟩;have g1:=cQ (rs:=rs.map (red M)) Y w 1 ⟨by decide,by lia⟩;have m0:=bq.1.mulH (Bd.of U ⟨g0.1,WI g0.2⟩) (by decide) (by decide);have m1:=bq.1.mulH (Bd.of U ⟨g1.1,WI g1.2⟩) (by decide) (by decide);have s0:(q.a*aZ (rs.map (red M)) M 0 w+q.b)%M=aZ (rs.map (red M)) M 0 (w++[r]):=by rw[wY F,wN]
   have s1:(q.a*aZ (rs.map (red M)) M 1 w+q.b)%M=aZ (rs.map (red M)) M 1 (w++[r]):=by rw[wY F,wN]
   have dm:eB (.int c) (.int (L.length:Int))=some (.int (c%(L.length:Int))):=bH N;have dv:qQ (.int c) (.int (L.length:Int))=some (.int (c/(L.length:Int))):=gD N (by lia);have wl:=dY g W;have sn:=AK (w:=w) (x:=r) (by lia);have gn:gw (rs.map (red M)) j (w++[r])=some q.k:=wR (r:=red M q) W F hj;obtain⟨L',an,bo,aj⟩:=rR (rs:=rs) (c:=mS (bU vV (bU aO (bU aO (aL 1) (aL 0)) (eC (.int 0))) (bU aO (bU aO (aL 1) (aL 2)) (eC (.int 1))))) (τ:=[some (.lst (rs.map aT)),some (.int r)]) (at_:=q.k) (λi q' ai=>by
    have a:=nI ai;have b:=MJ (r:=q');have c:=MH (r:=q);simp_all[a,b,c,B])
   have r1:=MH (r:=q);have r2:=O8 (r:=q);have r3:=OT (r:=q);have om:aO (.lst O) (.int (-1))=some (fN (rs.map (red M)) M j at_ w):=O1;have oz:aO (.lst O) (.int 0)=some (fN (rs.map (red M)) M j j []):=by
    show c7 O ((0:Nat):Int)=_;exact b7 O0
   have w3:aO (fN (rs.map (red M)) M j at_ w) (.int 3)=some (.int (aZ (rs.map (red M)) M 0 w)):=rfl;have w4:aO (fN (rs.map (red M)) M j at_ w) (.int 4)=some (.int (aZ (rs.map (red M)) M 1 w)):=rfl;have w2:aO (fN (rs.map (red M)) M j at_ w) (.int 2)=some (tupI w):=rfl;have w0:aO (fN (rs.map (red M)) M j j []) (.int 0)=some (.int j):=rfl;have zO:O.length<=1000000:=by lia
   have pos:O≠[]:=λz=>by rw[z]at O0;cases O0
   refine .inl ⟨bG (aN (aQ (aB rfl rfl) eL) rfl (by rw[q_gtA,decide_eq_true N])),((n:Int)-q.k).toNat,[some (.int M),some (.lst (rs.map aT)),some (.int (n:Int)),some (.int (c/(L.length:Int))),some (.int j),some (.lst (O++[fN (rs.map (red M)) M j q.k (w++[r])])),some (.lst L'),some (.int r),some (.int (aZ (rs.map (red M)) M 0 (w++[r]))),some (.int (aZ (rs.map (red M)) M 1 (w++[r])))],by lia,?_,q.k,_,w++[r],_,L',_,_,_,rfl,?_,EQ,by simp[-TR,-TU,aA,aI];lia,λd hd=>?_,gn,by lia,by lia,aj,rfl⟩
   ·rw[aD (bN (d:=.int r) (ρ':=[some (.int M),some (.lst (rs.map aT)),some (.int (n:Int)),some (.int c),some (.int j),some (.lst O),some (.lst L),some (.int r),J,G]) (by ac_rfl) rfl)]
    rw[aD (bN (ρ':=[some (.int M),some (.lst (rs.map aT)),some (.int (n:Int)),some (.int (c/(L.length:Int))),some (.int j),some (.lst O),some (.lst L),some (.int r),J,G]) (by ac_rfl) rfl)];rw[aD (bN (d:=.int (aZ (rs.map (red M)) M 0 (w++[r]))) (ρ':=[some (.int M),some (.lst (rs.map aT)),some (.int (n:Int)),some (.int (c/(L.length:Int))),some (.int j),some (.lst O),some (.lst L),some (.int r),some (.int (aZ (rs.map (red M)) M 0 (w++[r]))),G]) (by rw[<- s0];simp_all[B,r2,r3,O1,w3,m0,bH Y]) rfl)];rw[aD (bN (d:=.int (aZ (rs.map (red M)) M 1 (w++[r]))) (ρ':=[some (.int M),some (.lst (rs.map aT)),some (.int (n:Int)),some (.int (c/(L.length:Int))),some (.int j),some (.lst O),some (.lst L),some (.int r),some (.int (aZ (rs.map (red M)) M 0 (w++[r]))),some (.int (aZ (rs.map (red M)) M 1 (w++[r])))]) (by rw[<- s1];simp_all[B,r2,r3,O1,w4,m1,bH Y]) rfl)];rw[aD (CI (xs:=O) (x:=fN (rs.map (red M)) M j q.k (w++[r])) rfl (cJ (aB (aN (aN rfl rfl oz) rfl w0) (aB (aN (aN rfl rfl B) rfl r1) (aB (aN (aN (aN rfl (DD rfl) om) rfl w2) (cJ (aB rfl rfl)) sn) (aB rfl (aB rfl rfl)))))) zO)];exact bN (d:=.lst L') (qC (pB (aB (aQ (by ac_rfl) el) rfl) rl) zl an) rfl
   ·cases O with
    | nil=>exact absurd rfl pos
    | cons a O=>exact O0
   ·rcases List.mem_append.mp hd with z|z
    ·exact oW d z
    ·rw[List.mem_singleton.mp z];exact⟨j,q.k,w++[r],rfl,j0,gq.2.2,gn⟩
  ·exact .inr ⟨bG (aN (aQ (aB rfl rfl) eL) rfl (by rw[q_gtA,decide_eq_false N])),c,O,_,_,_,_,rfl,by lia,oW⟩
 ·rintro ρ ⟨c,O,o6,o7,J,G,rfl,h1,h2⟩
  exact⟨_,D2 rfl,O,rfl,h1,h2⟩
theorem rA{ns:List Int}{M:Int}{n:Nat}{rs:List Ro}(hs:ns.length<=63)(F:3<=M)(q:M<10^60)(g:GR M (n:Int) (rs.map (red M)))(hb:∀r∈rs,Bd 61 r.a/\Bd 61 r.b)(Y:1<=n/\n<=6):∃l:List D,eS [.int M,.lst (ns.map .int),.lst (rs.map aT),.int (n:Int)]=some (.lst l)/\l.length<=1000/\∀d∈l,M1 (rs.map (red M)) M n d:=by
 suffices h:∃d,eS [.int M,.lst (ns.map .int),.lst (rs.map aT),.int (n:Int)]=some d/\∃l:List D,d=.lst l/\l.length<=1000/\∀d∈l,M1 (rs.map (red M)) M n d by
  obtain⟨d,e,l,rfl,h⟩:=h;exact⟨l,e,h⟩
 obtain⟨f,hf⟩:=eV ns;have hi:∃hi:Int,31<=hi/\hi<=63/\(aK (eC (.int 31)) (aK (aW xM (aK (eC (.int 43)) (aK (aW xI (aK (aW gW (aK (aL 1) bO)) (aK (eC (.int 90)) bO))) bO))) bO)) [some (.int M),some (.lst (ns.map .int)),some (.lst (rs.map aT)),some (.int (n:Int)),some (.lst []),none]=some [.int 31,.int hi]:=by
  refine⟨if(if(90:Int)<(ns.length:Int)then 90 else(ns.length:Int))>43 then(if(90:Int)<(ns.length:Int)then 90 else(ns.length:Int))else 43,?_,?_,?_⟩
  ·split <;> lia
  ·split <;> (try split) <;> lia
  ·simp[-TR,-TU,aA,aI]
 obtain⟨hi,h1,h2,W⟩:=hi;have r2:=cP (a:=31) (b:=hi) (by decide) (by decide) (by lia) (by lia);refine d7 ?_;unfold jW;rw[show aE 6 [.int M,.lst (ns.map .int),.lst (rs.map aT),.int (n:Int)]=[some (.int M),some (.lst (ns.map .int)),some (.lst (rs.map aT)),some (.int (n:Int)),none,none]from rfl];rw[aD (bN (d:=.lst []) (ρ':=[some (.int M),some (.lst (ns.map .int)),some (.lst (rs.map aT)),some (.int (n:Int)),some (.lst []),none]) rfl rfl)];refine i9 (items:=aU 31 1 (hi-31).toNat) (pB W r2) (λi ρ=>∃(l:List D) (o:Option D),ρ=[some (.int M),some (.lst (ns.map .int)),some (.lst (rs.map aT)),some (.int (n:Int)),some (.lst l),o]/\l.length<=10*i/\∀d∈l,M1 (rs.map (red M)) M n d) ⟨[],none,rfl,by simp[-TR,-TU,aA,aI],λ_ h=>nomatch h⟩ ?_ ?_
 ·rintro i y ρ G ⟨l,o,rfl,B,hw⟩
  obtain⟨J,rfl⟩:=bD G;have fk:=hf ((31:Int)+(i:Int)*1) (by lia) (by lia);obtain⟨v,ev,vl,U⟩:=pN (cell:=f ((31:Int)+(i:Int)*1)) F q g hb Y;have ct:=mF (u:=l) (v:=v) (by lia);refine⟨[some (.int M),some (.lst (ns.map .int)),some (.lst (rs.map aT)),some (.int (n:Int)),some (.lst (l++v)),some (.int ((31:Int)+(i:Int)*1))],?_,l++v,_,rfl,by rw[VB];lia,λd N=>(List.mem_append.mp N).elim (hw d) (U d)⟩;refine dH (ρ':=[some (.int M),some (.lst (ns.map .int)),some (.lst (rs.map aT)),some (.int (n:Int)),some (.lst l),some (.int ((31:Int)+(i:Int)*1))]) rfl ?_;exact bN (aN rfl (aQ (aB rfl (aB rfl (aB rfl (aB (aQ (aB rfl (aB rfl rfl)) fk) rfl)))) ev) ct) rfl
 ·rintro ρ ⟨l,o,rfl,B,hw⟩
  rw[bC]at B;exact⟨_,D2 rfl,l,rfl,by lia,hw⟩
inductive Gd:Nat->D->Prop
 | int {k:Nat} {i:Int}:Gd k (.int i)
 | str {k:Nat} {s:Str}:Gd k (.str s)
 | tup {k:Nat} {l:List D} (h:∀d∈l,Gd k d):Gd (k+1) (.tup l)
theorem Gd.mono{k m:Nat}{d:D}(h:Gd k d)(l:k<=m):Gd m d:=by
 induction h generalizing m with
 | int=>exact .int
 | str=>exact .str
 | tup _ ih=>
  obtain⟨m,rfl⟩:∃p,m=p+1:=⟨m-1,by lia⟩;exact .tup λd q=>ih d q (by lia)
theorem Gd.ints{k:Nat}{w:List Int}:Gd (k+1) (tupI w):=.tup λd q=>by
 obtain⟨i,_,rfl⟩:=List.mem_map.mp q;exact .int
theorem C4{k:Nat}:∀l:List D,(∀d∈l,∃x,fD d=some x/\x.nb=true/\x.dep<=k)->∃xs,gU l=some xs/\My.EB xs=true/\My.qR xs<=k
 | [],_=>⟨[],rfl,rfl,UZ _⟩
 | a::l,h=>by
  obtain⟨x,h1,h2,G⟩:=h a (UW ..);obtain⟨xs,B,F,J⟩:=C4 l λd q=>h d (UN _ q)
  exact⟨x::xs,by rw[gU,h1,TR,B,TR],by rw[My.EB,h2,F];rfl,by rw[My.qR];lia⟩
theorem Gd.x{k:Nat}{d:D}(h:Gd k d):∃x,fD d=some x/\x.nb=true/\x.dep<=k:=by
 induction h with
 | int=>exact⟨_,rfl,rfl,UZ _⟩
 | str=>exact⟨_,rfl,rfl,UZ _⟩
 | @tup k l _ ih=>
  obtain⟨xs,h1,h2,q⟩:=C4 l ih;exact⟨.tup xs,by rw[fD,h1];rfl,by rw[My.Dx.nb];exact h2,by rw[My.Dx.dep];lia⟩
theorem Gd.ok{k:Nat}{d:D}(h:Gd k d)(l:k<=60):fB d=true:=by
 obtain⟨x,h1,h2,q⟩:=h.x;unfold fB;rw[h1];show(x.nb && decide (x.dep<=60))=true;rw[h2,decide_eq_true (show x.dep<=60 by lia)];rfl
theorem NV{l:List D}{k:Nat}(h:Gd k (.tup l))(q:k<=60):xW (.tup l) (.tup l)=some (.bl false):=by
 unfold xW AD;rw[if_pos (.inr ⟨rfl,rfl,h.ok q,h.ok q⟩)];simp[-TR,-TU,aA,aI]
theorem Gd.fm{M:Int}{ts:List My.Tm}{k:Nat}:Gd (k+3) (IP M ts):=.tup λd q=>by
 obtain⟨t,_,rfl⟩:=List.mem_map.mp q;exact .tup λd q=>by
  simp only[U0,U1,or_false]at q;rcases q with rfl|rfl
  ·exact .ints
  ·exact .int
theorem eqT{a b:D}(B:D5 a=true)(G:D5 b=true)(q:fB a=true)(F:fB b=true):(a=b->vV a b=some (.bl true)/\xW a b=some (.bl false))/\(a≠b->vV a b=some (.bl false)/\xW a b=some (.bl true)):=by
 have e:AD a b=some (@decide (a=b) (V6 _)):=if_pos (.inr ⟨B,G,q,F⟩);unfold vV xW;rw[e];refine⟨λh=>?_,λh=>?_⟩
 ·rw[@decide_eq_true _ (V6 _) h];exact⟨rfl,rfl⟩
 ·rw[@decide_eq_false _ (V6 _) h];exact⟨rfl,rfl⟩
theorem NI{R:List Ro}{j k:Int}{w:List Int}(h:gw R j w=some k){i:Nat}{r:Int}(F:w[i]?=some r):∃q,eG R r=some q/\gw R j (w.take i)=some q.j/\gw R j (w.take (i+1))=some q.k:=by
 have lt:=List.getElem?_eq_some_iff.mp F;have sp:w=w.take i++(r::w.drop (i+1)):=by rw[<- lt.2,<- XY lt.1,List.take_append_drop]
 rw[sp,i3]at h;cases e:gw R j (w.take i)with
 | none=>rw[e]at h;cases h
 | some a=>
  rw[e,aA]at h;unfold gw at h;cases er:eG R r with
  | none=>rw[er]at h;cases h
  | some q=>
   rw[er,aA]at h;by_cases B:q.j=a
   ·refine⟨q,rfl,by rw[B],?_⟩
    rw[WX,F];exact wR e er B
   ·rw[if_neg B]at h;cases h
theorem oJ{M:Int}{rs:List Ro}{j k:Int}{w:List Int}(h:gw (rs.map (red M)) j w=some k)(hl:rs.length<=12):nX [.lst (rs.map aT),.int j,tupI w]=some (.int k):=by
 have el:gW [.lst (rs.map aT)]=some (.int (rs.length:Int)):=by rw[q_lenL,T2]
 have it:mQ "tuple" (tupI w)=true:=rfl;refine aP ?_;unfold nU;rw[show aE 4 [.lst (rs.map aT),.int j,tupI w]=[some (.lst (rs.map aT)),some (.int j),some (tupI w),none]from rfl];rw[aD (ρ':=[some (.lst (rs.map aT)),some (.int j),some (tupI w),none]) (by simp_all[it])];refine cG (items:=w.map .int) (by simp_all[tupI]) (λi ρ=>∃(a:Int) (o:Option D),ρ=[some (.lst (rs.map aT)),some (.int a),some (tupI w),o]/\gw (rs.map (red M)) j (w.take i)=some a) ⟨j,none,rfl,rfl⟩ ?_ ?_
 ·rintro i y ρ J ⟨a,o,rfl,B⟩
  rw[UA]at J;obtain⟨r,hr,rfl⟩:=map_some J;obtain⟨q,N,G,W⟩:=NI h hr;rw[B]at G;cases G;rw[pZ]at N;obtain⟨p,F,rfl⟩:=map_some N;have lt:=vF F;have at_:=qK F;have r0:=MJ (r:=p);have U:=MH (r:=p);have n1:¬ r<0:=by lia
  have Y:¬ (rs.length:Int)<=r:=by lia
  have e0:(red M p).j=p.j:=rfl;refine⟨[some (.lst (rs.map aT)),some (.int p.k),some (tupI w),some (.int r)],?_,p.k,_,rfl,W⟩;simp_all[turn,mQ,el,n1,Y,at_,r0,U,e0]
 ·rintro ρ ⟨a,o,rfl,B⟩
  rw[T2,X2,h]at B;cases B;simp[-TR,-TU,aA,aI]
theorem pH{M:Int}{n:Nat}{rs:List Ro}(h3:3<=M)(F:M<10^60)(N:rs.length<=12)(G:∀r∈rs,Bd 61 r.a/\Bd 61 r.b){j k x:Int}{one B:List Int}(pt:Ptw (rs.map (red M)) M j k one B x):hJ [.int M,.lst (rs.map aT),.tup [.int j,.int k,tupI one,tupI B,.int x]]=some (.bl true):=by
 have U:=oJ pt.w1 N;have l2:=oJ pt.w2 N;have h0:0<M:=by lia
 have a0:=bY h0 F G (d8 pt.w1) (x:=0) ⟨by decide,h0⟩;have W:=bY h0 F G (d8 pt.w1) (x:=1) ⟨by decide,by lia⟩;have Y:=bY h0 F G (d8 pt.w2) (x:=0) ⟨by decide,h0⟩;have b1:=bY h0 F G (d8 pt.w2) (x:=1) ⟨by decide,by lia⟩;have lt:=pt.lt;have at_:=pt.at_;have J:=xG one B;rw[lt]at J;generalize aZ (rs.map (red M)) M 0 one=p at *;generalize aZ (rs.map (red M)) M 1 one=q at *;generalize aZ (rs.map (red M)) M 0 B=p' at *;generalize aZ (rs.map (red M)) M 1 B=q' at *;refine aP ?_;unfold g5;rw[show aE 10 [.int M,.lst (rs.map aT),.tup [.int j,.int k,tupI one,tupI B,.int x]]=[some (.int M),some (.lst (rs.map aT)),some (.tup [.int j,.int k,tupI one,tupI B,.int x]),none,none,none,none,none,none,none]from rfl];rw[aD (ρ':=[some (.int M),some (.lst (rs.map aT)),some (.tup [.int j,.int k,tupI one,tupI B,.int x]),some (.int j),some (.int k),some (tupI one),some (tupI B),some (.int x),none,none]) (u3 rfl rfl)];generalize tupI one=d1 at *;generalize tupI B=d2 at *;rcases at_ with⟨rfl,ne⟩|⟨rfl,e,ne⟩
 ·simp_all[U,l2,J,a0,W,Y,b1,ne]
 ·simp_all[U,l2,J,a0,W,Y,b1,e,ne]
theorem mT{a b c:Int}:fS [.lst [.int a,.int b,.int c]]=some (.bl true):=by
 refine aP ?_;unfold fR;simp_all[aE,c4,turn,mQ]
def P7(R:List Ro)(M:Int)(l:List (List Key×D)):Prop:=∀p∈l,∃(j k:Int) (w:List Int),p.1=[.inl j,.inl k]/\p.2=.tup [.int (aZ R M 0 w),.int (aZ R M 1 w)]/\gw R j w=some k
theorem GU{R:List Ro}{M:Int}{n:Nat}(g:GR M (n:Int) R){j:Int}:HU R M j j:=λw B h h'=>by
 have a:=dY g h;have b:=dY g h';have e:w=[]:=List.length_eq_zero_iff.mp (by lia);have q:B=[]:=List.length_eq_zero_iff.mp (by lia);rw[e,q];exact⟨rfl,rfl⟩
theorem NO{z:Nat}{f:Qe}{a b:Sv}{ρ:bK}{l:D}{o:Option Out}(h:f ρ=some (.bl true,l))(k:b (ρ.set z (some l))=o):HI z f a b ρ=o:=by
 unfold HI;rw[h,aA];exact k
theorem y4{R:List Ro}{M:Int}{n:Nat}(g:GR M (n:Int) R){q:D}(wf:R4 R M n q){l:List (List Key×D)}(sn:P7 R M l)(ll:l.length<=100000){j k:Int}{w:List Int}(hj:0<=j)(hk:k<(n:Int))(hw:gw R j w=some k):∃J,oF [.dT l,q,fN R M j k w]=some (.bl true,.dT J)/\P7 R M J/\J.length<=l.length+1:=by
 have jk:=dY g hw;have ev:∀(ok:j<k->HU R M j k),HU R M j k:=λok=>by
  by_cases z:j<k
  ·exact ok z
  ·have:j=k:=by lia
   subst this;exact GU g
 obtain⟨G,J,e1,ai,ad,ag⟩:∃(G:List Int) (J:List (List Key×D)),(match cN l [.inl j,.inl k]with|some d=>(d,D.dT l)|none=>(.tup [.int (aZ R M 0 w),.int (aZ R M 1 w)],D.dT (putD l [.inl j,.inl k] (.tup [.int (aZ R M 0 w),.int (aZ R M 1 w)]))))=(.tup [.int (aZ R M 0 G),.int (aZ R M 1 G)],D.dT J)/\gw R j G=some k/\P7 R M J/\J.length<=l.length+1:=by
  cases hv:cN l ([.inl j,.inl k]:List Key)with
  | some d=>
   unfold cN at hv;obtain⟨p,Y,rfl⟩:=map_some hv;have pm:=List.mem_of_find?_eq_some Y;have U:=List.find?_some Y;obtain⟨j',k',G,q1,q2,q3⟩:=sn p pm;have U:p.1=[.inl j,.inl k]:=by simpa using U
   rw[q1]at U;simp only[List.cons.injEq,Sum.inl.injEq,and_true]at U;obtain⟨rfl,rfl⟩:=U;exact⟨G,l,by rw[<- q2],q3,sn,by lia⟩
  | none=>
   have na:l.any (λp=>decide (p.1=([.inl j,.inl k]:List Key)))=false:=by
    unfold cN at hv;rw[Option.map_eq_none_iff,List.find?_eq_none]at hv;rw[List.any_eq_false];exact hv
   have ep:putD l ([.inl j,.inl k]:List Key) (.tup [.int (aZ R M 0 w),.int (aZ R M 1 w)])=l++[([.inl j,.inl k],.tup [.int (aZ R M 0 w),.int (aZ R M 1 w)])]:=by
    unfold putD;rw[na];rfl
   refine⟨w,l++[([.inl j,.inl k],.tup [.int (aZ R M 0 w),.int (aZ R M 1 w)])],by rw[ep],hw,λp Y=>?_,by simp[-TR,-TU,aA,aI]⟩;rcases List.mem_append.mp Y with z|z
   ·exact sn p z
   ·rw[List.mem_singleton.mp z];exact⟨j,k,w,rfl,rfl,hw⟩
 have hz:aV l.length=true:=decide_eq_true (by lia);have qd:HM 0 (gT (aK (aL 3) (aK (aL 4) bO))) (gT (aK (aL 6) (aK (aL 7) bO))) [some (.dT l),some q,some (fN R M j k w),some (.int j),some (.int k),some (tupI w),some (.int (aZ R M 0 w)),some (.int (aZ R M 1 w)),none]=some (.tup [.int (aZ R M 0 G),.int (aZ R M 1 G)],.dT J):=by
  rw[<- e1];show(if aV l.length=true then some _ else none)=_;exact if_pos hz
 refine⟨J,?_,ad,ag⟩;refine GI ?_;unfold nD;rw[show aE 9 [.dT l,q,fN R M j k w]=[some (.dT l),some q,some (fN R M j k w),none,none,none,none,none,none]from rfl];refine gQ (IT (ρ':=[some (.dT l),some q,some (fN R M j k w),some (.int j),some (.int k),some (tupI w),some (.int (aZ R M 0 w)),some (.int (aZ R M 1 w)),none]) rfl rfl) (xJ ?_);refine gQ (G0 (ρ':=[some (.dT J),some q,some (fN R M j k w),some (.int j),some (.int k),some (tupI w),some (.int (aZ R M 0 w)),some (.int (aZ R M 1 w)),some (.tup [.int (aZ R M 0 G),.int (aZ R M 1 G)])]) qd rfl) (xJ ?_);have fin:HU R M j k->vV (.tup [.int (aZ R M 0 G),.int (aZ R M 1 G)]) (.tup [.int (aZ R M 0 w),.int (aZ R M 1 w)])=some (.bl true):=λh=>by
  obtain⟨a,b⟩:=h G w ai hw;rw[a,b];exact((eqT rfl rfl rfl rfl).1 rfl).1
 have rt:∀ {f:Ev} {ρ:bK},f ρ=some (.bl true)->aL 0 ρ=some (.dT J)->RX 0 f ρ=some (.rt (.bl true) (.dT J)):=λa b=>by unfold RX;rw[a,aA,b,aI]
 rcases wf with⟨rfl,all⟩|⟨B,F,one,N,x,rfl,fb,pt,less⟩
 ·refine gQ (tR (c:=true) (oY (c:=true) (bG (aN rfl rfl rfl)) (m9 rfl rfl)) (m9 rfl (rt (aN rfl (cJ (aB rfl (aB rfl rfl))) (fin (ev λz=>all j k hj z hk))) rfl))) rfl
 ·have d1:M9 (.tup [.int j,.int k]) (.tup [.int B,.int F])=some (.bl (HT.lexLt [j,k] [B,F])):=xG [j,k] [B,F]
  have d2:kE (.tup [.int j,.int k]) (.tup [.int B,.int F])=some (.bl (HT.lexLt [B,F] [j,k])):=q_gtT (ns:=[j,k]) (ms:=[B,F]);have W:PX (mS (bU HJ (aL 1) (eC .non))) (mS (bU M9 (gT (aK (aL 3) (aK (aL 4) bO))) (gT (aK (bU aO (aL 1) (eC (.int 0))) (aK (bU aO (aL 1) (eC (.int 1))) bO))))) [some (.dT J),some (.tup [.int B,.int F,tupI one,tupI N,.int x]),some (fN R M j k w),some (.int j),some (.int k),some (tupI w),some (.int (aZ R M 0 w)),some (.int (aZ R M 1 w)),some (.tup [.int (aZ R M 0 G),.int (aZ R M 1 G)])]=some (HT.lexLt [j,k] [B,F]):=oY (c:=false) (bG (aN rfl rfl rfl)) (qO rfl (bG (aN (cJ (aB rfl (aB rfl rfl))) (cJ (aB (aN rfl rfl rfl) (aB (aN rfl rfl rfl) rfl))) d1)));have lx:∀a b c d:Int,HT.lexLt [a,b] [c,d]=true↔a<c\/a=c/\b<d:=λa b c d=>by
   show(if a=c then(if b=d then HT.lexLt [] []else decide (b<d))else decide (a<c))=true↔_;have n0:HT.lexLt [] []=false:=rfl;by_cases h1:a=c
   ·by_cases h2:b=d
    ·rw[if_pos h1,if_pos h2,n0];constructor
     ·intro z;cases z
     ·intro z;lia
    ·rw[if_pos h1,if_neg h2,decide_eq_true_iff];lia
   ·rw[if_neg h1,decide_eq_true_iff];lia
  by_cases h1:HT.lexLt [j,k] [B,F]=true
  ·have af:=(lx j k B F).mp h1
   rw[h1]at W;exact gQ (tR (c:=true) W (m9 rfl (rt (aN rfl (cJ (aB rfl (aB rfl rfl))) (fin (ev λz=>less j k hj z hk af))) rfl))) rfl
  ·have ac:HT.lexLt [j,k] [B,F]=false:=by simpa using h1
   rw[ac]at W;refine gQ (tR (c:=false) W (qO rfl rfl)) (xJ ?_);have c2:mS (bU kE (gT (aK (aL 3) (aK (aL 4) bO))) (gT (aK (bU aO (aL 1) (eC (.int 0))) (aK (bU aO (aL 1) (eC (.int 1))) bO)))) [some (.dT J),some (.tup [.int B,.int F,tupI one,tupI N,.int x]),some (fN R M j k w),some (.int j),some (.int k),some (tupI w),some (.int (aZ R M 0 w)),some (.int (aZ R M 1 w)),some (.tup [.int (aZ R M 0 G),.int (aZ R M 1 G)])]=some (HT.lexLt [B,F] [j,k]):=bG (aN (cJ (aB rfl (aB rfl rfl))) (cJ (aB (aN rfl rfl rfl) (aB (aN rfl rfl rfl) rfl))) d2);by_cases h2:HT.lexLt [B,F] [j,k]=true
   ·rw[h2]at c2
    exact gQ (tR (c:=true) c2 (m9 rfl (rt rfl rfl))) rfl
   ·have ab:HT.lexLt [B,F] [j,k]=false:=by simpa using h2
    rw[ab]at c2;refine gQ (tR (c:=false) c2 (qO rfl rfl)) (xJ ?_);have n1:¬ (j<B\/j=B/\k<F):=λz=>h1 ((lx j k B F).mpr z)
    have n2:¬ (B<j\/B=j/\F<k):=λz=>h2 ((lx B F j k).mpr z)
    have ej:j=B:=by lia
    have ek:k=F:=by lia
    subst ej ek;have d3:tU (tupI w) (tupI one)=some (.bl true):=by rw[q_geT,pt.le w hw];rfl
    exact rt (aN rfl (aN rfl rfl rfl) d3) rfl
theorem mY{M:Int}{n:Nat}{rs:List Ro}(h3:3<=M)(G:M<10^60)(Y:∀r∈rs,Bd 61 r.a/\Bd 61 r.b){B F x:Int}{one q:List Int}(pt:Ptw (rs.map (red M)) M B F one q x){j k:Int}{w:List Int}(hw:gw (rs.map (red M)) j w=some k):fX [.int M,.lst (rs.map aT),.tup [.int B,.int F,tupI one,tupI q,.int x],fN (rs.map (red M)) M j k w]=some (.bl true):=by
 have h0:0<M:=by lia
 have a0:=bY h0 G Y (d8 pt.w1) (x:=0) ⟨by decide,h0⟩;have a1:=bY h0 G Y (d8 pt.w1) (x:=1) ⟨by decide,by lia⟩;have ne:=eqT (a:=.tup [.int j,.int k]) (b:=.tup [.int B,.int F]) rfl rfl rfl rfl;have J:tU (tupI w) (tupI q)=some (.bl (!HT.lexLt w q)):=q_geT;refine aP ?_;unfold fQ;rw[show aE 5 [.int M,.lst (rs.map aT),.tup [.int B,.int F,tupI one,tupI q,.int x],fN (rs.map (red M)) M j k w]=[some (.int M),some (.lst (rs.map aT)),some (.tup [.int B,.int F,tupI one,tupI q,.int x]),some (fN (rs.map (red M)) M j k w),none]from rfl];have U:gR (fN (rs.map (red M)) M j k w) none (some 2)=some (.tup [.int j,.int k]):=rfl;have W:gR (.tup [.int B,.int F,tupI one,tupI q,.int x]) none (some 2)=some (.tup [.int B,.int F]):=rfl;have s3:gR (fN (rs.map (red M)) M j k w) (some 3) none=some (.tup [.int (aZ (rs.map (red M)) M 0 w),.int (aZ (rs.map (red M)) M 1 w)]):=rfl;by_cases e:D.tup [.int j,.int k]=.tup [.int B,.int F]
 ·have N:=(ne.1 e).2
  cases hl:HT.lexLt w q with
  | false=>
   rw[hl]at J;exact cZ (xU (c:=true) (oY (c:=false) (bG (aN (gC rfl rfl (gB rfl) U) (gC rfl rfl (gB rfl) W) N)) (qO rfl (bG (aN (aN rfl rfl rfl) (aN rfl rfl rfl) J)))) (m9 rfl (mL rfl))) rfl
  | true=>
   rw[hl]at J;simp only[D.tup.injEq,List.cons.injEq,D.int.injEq,and_true]at e;obtain⟨rfl,rfl⟩:=e;obtain⟨b0,b1⟩:=pt.bt w hw hl;refine(aD (ρ':=[some (.int M),some (.lst (rs.map aT)),some (.tup [.int j,.int k,tupI one,tupI q,.int x]),some (fN (rs.map (red M)) M j k w),none]) (xU (c:=false) (oY (c:=false) (bG (aN (gC rfl rfl (gB rfl) U) (gC rfl rfl (gB rfl) W) N)) (qO rfl (bG (aN (aN rfl rfl rfl) (aN rfl rfl rfl) J)))) (qO rfl rfl))).trans ?_;refine(aD (ρ':=[some (.int M),some (.lst (rs.map aT)),some (.tup [.int j,.int k,tupI one,tupI q,.int x]),some (fN (rs.map (red M)) M j k w),some (.tup [.int (aZ (rs.map (red M)) M 0 one),.int (aZ (rs.map (red M)) M 1 one)])]) (bN (cJ (aB (aQ (aB rfl (aB rfl (aB (aN rfl rfl rfl) (aB rfl rfl)))) a0) (aB (aQ (aB rfl (aB rfl (aB (aN rfl rfl rfl) (aB rfl rfl)))) a1) rfl))) rfl)).trans ?_;refine mL (aN (gC rfl (gB rfl) rfl s3) rfl ?_);rw[b0,b1];exact((eqT rfl rfl rfl rfl).1 rfl).1
 ·have N:=(ne.2 e).2
  exact cZ (xU (c:=true) (oY (c:=true) (bG (aN (gC rfl rfl (gB rfl) U) (gC rfl rfl (gB rfl) W) N)) (m9 rfl rfl)) (m9 rfl (mL rfl))) rfl
theorem Gd.bk{M c:Int}{n:Nat}{rs:List Ro}{ms:List Mk}:Gd 10 (AB M c n rs ms):=.tup λd q=>by
 simp only[U0,U1,or_false]at q;rcases q with rfl|rfl|rfl|rfl
 ·exact .int
 ·refine .tup λd q=>?_
  unfold bP at q;obtain⟨k,_,rfl⟩:=List.mem_map.mp q;exact .str
 ·refine .tup λd q=>?_
  obtain⟨r,_,rfl⟩:=List.mem_map.mp q;refine .tup λd q=>?_
  simp only[U0,U1,or_false]at q;rcases q with rfl|rfl|rfl|rfl|rfl <;> exact .int
 ·refine .tup λd q=>?_
  obtain⟨m,_,rfl⟩:=List.mem_map.mp q;refine .tup λd q=>?_
  simp only[U0,U1,or_false]at q;rcases q with rfl|rfl|rfl|rfl|rfl
  ·exact .str
  ·exact .ints
  ·exact .int
  ·exact .fm
  ·exact .int
theorem N7(ns:List Int)(hl:ns.length<=63):bA 9 DO [.lst (ns.map .int)]=some (.bl true):=by
 obtain⟨M,c,n,rs,ms,eb,F,hn,N,hm,aa⟩:=uQ ns;have vb:=J8 (c:=c) F hn N hm aa;have g:=JM F.1 N.1 N.2;have hb:∀r∈rs,Bd 61 r.a/\Bd 61 r.b:=λr h=>(N.2 r h).2.2.2
 have ec:gW [.lst (bP c n)]=some (.int (n:Int)):=by rw[q_lenL,cX]
 obtain⟨q,ef,wf⟩:=qS (bk:=AB M c n rs ms) (R:=rs.map (red M)) (n:=n) RA rfl (K:=bP c n) rfl (cX c n) F.1 F.2.1 hn.2 g;obtain⟨W,ew,wl,hW⟩:=rA hl F.1 F.2.1 g hb hn;have ne:=NV (Gd.bk (M:=M) (c:=c) (n:=n) (rs:=rs) (ms:=ms)) (by decide);have lk:cA [.lst (bP c n)]=some (.lst (bP c n)):=by
  have z:aV (bP c n).length=true:=decide_eq_true (by rw[cX];lia);simp_all[cA,z]
 have lr:cA [.lst (rs.map aT)]=some (.lst (rs.map aT)):=by
  have z:aV rs.length=true:=decide_eq_true (by lia);simp_all[cA,z]
 have lm:cA [.lst (ms.map c6)]=some (.lst (ms.map c6)):=by
  have z:aV ms.length=true:=decide_eq_true (by lia);simp_all[cA,z]
 have mk:aW qG (aK (aL 1) (aK (aW cA (aK (aL 2) bO)) (aK (aW cA (aK (aL 3) bO)) (aK (aW cA (aK (aL 4) bO)) bO)))) [some (.lst (ns.map .int)),some (.int M),some (.lst (bP c n)),some (.lst (rs.map aT)),some (.lst (ms.map c6)),none,none,none,none]=some (AB M c n rs ms):=aQ (aB rfl (aB (aQ (aB rfl rfl) lk) (aB (aQ (aB rfl rfl) lr) (aB (aQ (aB rfl rfl) lm) rfl)))) vb;have ad:aW qG (aK (aL 1) (aK (aW cA (aK (aL 2) bO)) (aK (aW cA (aK (aL 3) bO)) (aK (aW cA (aK (aL 4) bO)) bO)))) [some (.lst (ns.map .int)),some (.int M),some (.lst (bP c n)),some (.lst (rs.map aT)),some (.lst (ms.map c6)),some (AB M c n rs ms),some q,none,none]=some (AB M c n rs ms):=aQ (aB rfl (aB (aQ (aB rfl rfl) lk) (aB (aQ (aB rfl rfl) lr) (aB (aQ (aB rfl rfl) lm) rfl)))) vb;refine aP ?_;unfold DO;rw[show aE 9 [.lst (ns.map .int)]=[some (.lst (ns.map .int)),none,none,none,none,none,none,none,none]from rfl];refine(aD (ρ':=[some (.lst (ns.map .int)),some (.int M),some (.lst (bP c n)),some (.lst (rs.map aT)),some (.lst (ms.map c6)),none,none,none,none]) (u3 (aQ (aB rfl rfl) eb) rfl)).trans ?_;refine(aD (ρ':=[some (.lst (ns.map .int)),some (.int M),some (.lst (bP c n)),some (.lst (rs.map aT)),some (.lst (ms.map c6)),some (AB M c n rs ms),none,none,none]) (bN mk rfl)).trans ?_;refine(aD (ρ':=[some (.lst (ns.map .int)),some (.int M),some (.lst (bP c n)),some (.lst (rs.map aT)),some (.lst (ms.map c6)),some (AB M c n rs ms),some q,none,none]) (bN (aQ (aB rfl rfl) ef) rfl)).trans ?_;refine(aD (ρ':=[some (.lst (ns.map .int)),some (.int M),some (.lst (bP c n)),some (.lst (rs.map aT)),some (.lst (ms.map c6)),some (AB M c n rs ms),some q,none,none]) (s_iff (bG (aN rfl ad ne)) rfl)).trans ?_;generalize AB M c n rs ms=bk at *;refine(aD (ρ':=[some (.lst (ns.map .int)),some (.int M),some (.lst (bP c n)),some (.lst (rs.map aT)),some (.lst (ms.map c6)),some bk,some q,none,none]) ?_).trans ?_
 ·rcases id wf with⟨rfl,_⟩|⟨G,J,one,B,x,rfl,U,pt,_⟩
  ·exact s_iff (bG (aN rfl rfl rfl)) rfl
  ·have vn:=mT (a:=G) (b:=J) (c:=x)
   have vp:=pH (n:=n) F.1 F.2.1 N.1 hb pt;have b0:0<=G:=U.1;have b1:G<J:=U.2.1;have b2:J<(n:Int):=U.2.2;have i0:c7 [D.int G,.int J,tupI one,tupI B,.int x] 0=some (.int G):=rfl;have i1:c7 [D.int G,.int J,tupI one,tupI B,.int x] 1=some (.int J):=rfl;have i4:c7 [D.int G,.int J,tupI one,tupI B,.int x] 4=some (.int x):=rfl;refine s_ift (bG (aN rfl rfl rfl)) ?_;refine(aD (ρ':=[some (.lst (ns.map .int)),some (.int M),some (.lst (bP c n)),some (.lst (rs.map aT)),some (.lst (ms.map c6)),some bk,some (.tup [.int G,.int J,tupI one,tupI B,.int x]),none,none]) ?_).trans ?_
   ·simp_all[mQ,vn,i0,i1,i4]
   ·simp_all[iM,b0,b1,b2,ec,vp,i0,i1]
 refine(aD (ρ':=[some (.lst (ns.map .int)),some (.int M),some (.lst (bP c n)),some (.lst (rs.map aT)),some (.lst (ms.map c6)),some bk,some q,some (.dT []),none]) (bN rfl rfl)).trans ?_;refine cG (items:=W) (C3 (aQ (aB rfl (aB rfl (aB rfl (aB (aQ (aB rfl rfl) ec) rfl)))) ew)) (λi ρ=>∃(l:List (List Key×D)) (o:Option D),ρ=[some (.lst (ns.map .int)),some (.int M),some (.lst (bP c n)),some (.lst (rs.map aT)),some (.lst (ms.map c6)),some bk,some q,some (.dT l),o]/\P7 (rs.map (red M)) M l/\l.length<=i) ⟨[],none,rfl,(λ_ h=>nomatch h),T5 _⟩ ?_ ?_
 ·rintro i y ρ hy ⟨l,o,rfl,sn,li⟩
  have bc:=(List.getElem?_eq_some_iff.mp hy).1;obtain⟨j,k,w,rfl,hj,hk,hw⟩:=hW y (UJ hy);obtain⟨l',e1,Y,a0⟩:=y4 g wf sn (by lia) hj hk hw;refine⟨[some (.lst (ns.map .int)),some (.int M),some (.lst (bP c n)),some (.lst (rs.map aT)),some (.lst (ms.map c6)),some bk,some q,some (.dT l'),some (fN (rs.map (red M)) M j k w)],?_,l',_,rfl,Y,by lia⟩;refine dH (ρ':=[some (.lst (ns.map .int)),some (.int M),some (.lst (bP c n)),some (.lst (rs.map aT)),some (.lst (ms.map c6)),some bk,some q,some (.dT l),some (fN (rs.map (red M)) M j k w)]) rfl ?_;refine(aD (ρ':=[some (.lst (ns.map .int)),some (.int M),some (.lst (bP c n)),some (.lst (rs.map aT)),some (.lst (ms.map c6)),some bk,some q,some (.dT l'),some (fN (rs.map (red M)) M j k w)]) (NO e1 rfl)).trans ?_;rcases id wf with⟨rfl,_⟩|⟨G,J,one,B,x,rfl,U,pt,_⟩
  ·exact s_iff (vG (c:=false) (bG (aN rfl rfl rfl)) (qO rfl rfl)) rfl
  ·have af:=mY (n:=n) F.1 F.2.1 hb pt hw
   exact s_iff (vG (c:=true) (bG (aN rfl rfl rfl)) (m9 rfl (CJ (c:=true) (bG (aQ (aB rfl (aB rfl (aB rfl (aB rfl rfl)))) af))))) rfl
 ·rintro ρ ⟨l,o,rfl,_,_⟩
  exact mL rfl
theorem QL:Bds top tab:=by
 unfold tab
 repeat (refine Bds.cons ?_ ?_;· (repeat intro _);rfl)
 exact Bds.nil
theorem K3{l:zax}{w:World}{K:TK}{h:Heap}{mg:Str->Option Value}{fa:Addr}{k:Nat}(X:K.In h)(G:h.Ns UP mg)(aj:mg "law" = some (.ref fa))(D:Des K top tab)(B:Nos K blt)(J:Gis K RT)
  {f0:Addr} {ak af:Option Addr} {ai:Array (Option Value)} {al ae ag ad ac ah:Value} (a0:WY K UP "law" = some (some (.ref f0))) (l0:K.lookup f0=some ⟨al,ak,.func (VV "law" "law" (cH s_law) (bB s_law) (aF s_law) .none ae ag ad af ac ah),ai⟩) (c0:XD K ac "law" = true) (k0:WU K (.ref f0)=true)
  {q:Addr} {Y:Option Addr} {ab:Nat} {aa:Array (Option Value)} {N M U F:Tok} (gaWORDS:WY K UP "WORDS" = some (some (.ref q))) (glWORDS:K.lookup q=some ⟨.type "tuple",Y,.seq #[.str "let" N,.str "in" M,.str "pick" U,.str "again" F] ab,aa⟩)
  (ok:∀base:Heap,K.In base->base.Ns UP mg->Txt K mg->My.BodyOk l.prog w K mg base "law" s_law ["script", "M", "kinds", "roads", "makes", "made", "found", "seen", "walk"] k (My.tK K)) :
  ∃fd:VH,(∀(s:TH) (v:Value),BindsTo s fd ⟨[v],[]⟩ [("script",v)])/\∀base:Heap,K.In base->base.Ns UP mg->FnOk l.prog w K mg base tY (k+1) fa fd ["script"] (My.tK K):=by
 have e:=aj.symm.trans (Z5 X G a0);cases e;have F0:=CG (st:=s_law) l0 c0 k0;have T:Txt K mg:=⟨Des.d X G D QL,λx hx=>PySem.W.mg_none_of X G (B x hx),Gis.d X G J,⟨⟨_,Z5 X G gaWORDS,_,_,_,glWORDS,rfl,rfl,by show 4<=TQ;decide,.cons ⟨_,rfl⟩ (.cons ⟨_,rfl⟩ (.cons ⟨_,rfl⟩ (.cons ⟨_,rfl⟩ (.nil))))⟩⟩⟩;refine⟨VV "law" "law" (cH s_law) (bB s_law) (aF s_law) .none ae ag ad af ac ah,λs v=>.of_eq rfl,λbase kb nb=>?_⟩;exact(ok base kb nb T).fn F0 sc_law (λvs H Q E h=>by obtain⟨a,ns,e,_⟩:=h;rw[e];rfl)
end Law
namespace PySem.W.Fast
theorem tw1236334976241149001:0=0:=rfl
theorem tw4131902447620157067:0=0:=rfl
theorem tw1076326923141727493:0=0:=rfl
theorem tw4789800703498371585:0=0:=rfl
theorem tw5270162108342603726:0=0:=rfl
theorem tw10431440652855568938:0=0:=rfl
theorem tw4222349840572558973:0=0:=rfl
theorem tw11684501050459176685:0=0:=rfl
theorem tw15568077993893520784:0=0:=rfl
theorem tw13835689750744367532:0=0:=rfl
theorem tw2266075745344404124:0=0:=rfl
theorem tw8090008490784074475:0=0:=rfl
theorem tw7805972517478781313:0=0:=rfl
theorem tw11256990310944930398:0=0:=rfl
theorem tw2456504850074024144:0=0:=rfl
theorem tw5365798723922006817:0=0:=rfl
theorem tw4894017838451949181:0=0:=rfl
theorem tw5405762438557059152:0=0:=rfl
theorem tw5667070515269496205:0=0:=rfl
theorem tw10197264336933109323:0=0:=rfl
theorem tw7746053986737784585:0=0:=rfl
theorem tw3820692229008345703:0=0:=rfl
theorem tw12652479592047309942:0=0:=rfl
theorem tw2451232485946957191:0=0:=rfl
theorem tw3787208653588305918:0=0:=rfl
theorem tw16933722950066218931:0=0:=rfl
theorem tw248400673762101736:0=0:=rfl
theorem tw8279322458806126029:0=0:=rfl
theorem tw1190054294413029068:0=0:=rfl
theorem tw14676328490643700685:0=0:=rfl
theorem tw13430221580105054540:0=0:=rfl
theorem tw13095027286882070640:0=0:=rfl
theorem tw10607185452379467364:0=0:=rfl
theorem tw8908414253632753668:0=0:=rfl
theorem tw7512691870274602808:0=0:=rfl
theorem tw1450445241688629541:0=0:=rfl
theorem tw9991966869555531689:0=0:=rfl
theorem tw13933146762169355774:0=0:=rfl
theorem tw4051115681375398654:0=0:=rfl
theorem tw6379897468578125097:0=0:=rfl
theorem tw8309342589421615244:0=0:=rfl
theorem tw10989643520614251234:0=0:=rfl
theorem tw8347580062212068096:0=0:=rfl
theorem tw993643122800383829:0=0:=rfl
theorem tw12481490546275353052:0=0:=rfl
theorem tw9594747194801641815:0=0:=rfl
theorem tw2433629222970165459:0=0:=rfl
theorem tw8565890157848949458:0=0:=rfl
theorem tw12106992628120451471:0=0:=rfl
theorem tw12830509653633628266:0=0:=rfl
theorem tw12787591280321774319:0=0:=rfl
theorem tw11687145277719402198:0=0:=rfl
theorem tw6476933734579338634:0=0:=rfl
theorem tw18129721297989378683:0=0:=rfl
theorem tw18239774992156904757:0=0:=rfl
theorem tw4258593342094361433:0=0:=rfl
theorem tw17869736644274776207:0=0:=rfl
theorem tw3718182522113213292:0=0:=rfl
theorem tw1638750840126400223:0=0:=rfl
theorem tw10858040108289654964:0=0:=rfl
theorem tw16906289765609987338:0=0:=rfl
theorem tw14571841538570949422:0=0:=rfl
theorem tw5772077619517700687:0=0:=rfl
theorem tw10416946212407095684:0=0:=rfl
theorem tw17047539690591029542:0=0:=rfl
theorem tw17673053899395373121:0=0:=rfl
theorem tw1345018342304413878:0=0:=rfl
theorem tw11062173566417539024:0=0:=rfl
theorem tw15906208733290958067:0=0:=rfl
theorem tw6147083801185965633:0=0:=rfl
theorem tw17869800777871179618:0=0:=rfl
theorem tw466202265426543698:0=0:=rfl
theorem tw9828101645033959283:0=0:=rfl
theorem tw12670066646865861743:0=0:=rfl
theorem tw9791198790171839408:0=0:=rfl
theorem tw303263589961036902:0=0:=rfl
theorem tw1528631742630773191:0=0:=rfl
theorem tw10796216945190771855:0=0:=rfl
theorem tw8738308263784349144:0=0:=rfl
theorem tw8515694204897450677:0=0:=rfl
theorem tw10019948474407684611:0=0:=rfl
theorem tw4946702175576307812:0=0:=rfl
theorem tw3149567436910060406:0=0:=rfl
theorem tw14161429887966417661:0=0:=rfl
theorem tw6184664444680926423:0=0:=rfl
theorem tw10155609571863712855:0=0:=rfl
theorem tw264150379189491987:0=0:=rfl
theorem tw2911294333517495409:0=0:=rfl
theorem tw17025021174918979494:0=0:=rfl
theorem tw12949324659101244106:0=0:=rfl
theorem tw6969041779336411670:0=0:=rfl
theorem tw11786480650308713535:0=0:=rfl
theorem tw14009771317498383602:0=0:=rfl
theorem tw5814250956458145822:0=0:=rfl
theorem tw18095438316095122562:0=0:=rfl
theorem tw13592797828494928012:0=0:=rfl
theorem tw14093633779448430521:0=0:=rfl
theorem tw15752040790320913060:0=0:=rfl
theorem tw7684424207269991192:0=0:=rfl
theorem tw10919064526444186384:0=0:=rfl
theorem tw14550612430572826986:0=0:=rfl
theorem tw13175477936502353013:0=0:=rfl
theorem tw8576851261152916876:0=0:=rfl
theorem tw968398904641239246:0=0:=rfl
theorem tw3526996966565960029:0=0:=rfl
theorem tw830124776513038718:0=0:=rfl
theorem tw7985742760652006686:0=0:=rfl
theorem tw14557966920929584234:0=0:=rfl
theorem tw3079408091958372567:0=0:=rfl
theorem tw15934068543500837095:0=0:=rfl
theorem tw8625110643195546779:0=0:=rfl
theorem tw111415775002117579:0=0:=rfl
theorem tw12597575232572193510:0=0:=rfl
theorem tw1063123818698627413:0=0:=rfl
theorem tw6746925334169301802:0=0:=rfl
theorem tw9491944274725188891:0=0:=rfl
theorem tw17615967663083310825:0=0:=rfl
theorem tw7210600589175551338:0=0:=rfl
theorem tw4837225862420299231:0=0:=rfl
theorem tw11920823817224799315:0=0:=rfl
theorem tw72434675828947751:0=0:=rfl
theorem tw14158460901584490090:0=0:=rfl
theorem tw10647626372254093564:0=0:=rfl
theorem tw15248019189249391489:0=0:=rfl
theorem tw562262086976225619:0=0:=rfl
theorem tw1887900761930812949:0=0:=rfl
theorem tw1180932333971811359:0=0:=rfl
theorem tw1038373461612661780:0=0:=rfl
theorem tw3248141910148406567:0=0:=rfl
theorem tw1398685103679657006:0=0:=rfl
theorem tw8374724410375114199:0=0:=rfl
theorem tw12778202731751916890:0=0:=rfl
theorem tw13033504514303887136:0=0:=rfl
theorem tw14126638402599839888:0=0:=rfl
theorem tw14086930139542605707:0=0:=rfl
theorem tw9142557013782613527:0=0:=rfl
theorem tw10483052765869895689:0=0:=rfl
theorem tw11967464437438917135:0=0:=rfl
theorem tw16524388689983380540:0=0:=rfl
theorem tw15870006694265029694:0=0:=rfl
theorem tw2792399816750730107:0=0:=rfl
theorem tw1794610608218056112:0=0:=rfl
theorem tw9398329349245454223:0=0:=rfl
theorem tw74035193764846608:0=0:=rfl
theorem tw17986684686191322478:0=0:=rfl
theorem tw18258158836566085299:0=0:=rfl
theorem tw18073967836264966122:0=0:=rfl
theorem tw13782797254568981244:0=0:=rfl
theorem tw15360310097595782565:0=0:=rfl
theorem tw9917730205920314772:0=0:=rfl
theorem tw2385865714310540550:0=0:=rfl
theorem tw13529812435411086211:0=0:=rfl
theorem tw6968642079173833113:0=0:=rfl
theorem tw13425297349773448042:0=0:=rfl
theorem tw2051506664928543872:0=0:=rfl
theorem tw13015070563133190720:0=0:=rfl
theorem tw16712560073536594576:0=0:=rfl
theorem tw5264502354519015314:0=0:=rfl
theorem tw10284714388304293269:0=0:=rfl
theorem tw9803738050989377914:0=0:=rfl
theorem tw15636265208823835623:0=0:=rfl
theorem tw16344142234091098914:0=0:=rfl
theorem tw12128775861868480687:0=0:=rfl
theorem tw4308297631133772088:0=0:=rfl
theorem tw12371476837671982915:0=0:=rfl
theorem tw804259309512031844:0=0:=rfl
theorem tw16815111913028799911:0=0:=rfl
theorem tw2391976817497561438:0=0:=rfl
theorem tw2271743366818455544:0=0:=rfl
theorem tw17400240865037631067:0=0:=rfl
theorem tw17558011096649399213:0=0:=rfl
theorem tw8891835294840402233:0=0:=rfl
theorem tw13895974108244381208:0=0:=rfl
theorem tw18251748466098164224:0=0:=rfl
theorem tw4927803263302492374:0=0:=rfl
theorem tw12451754664178841211:0=0:=rfl
theorem tw8032540363416728174:0=0:=rfl
theorem tw1106083208783743219:0=0:=rfl
theorem tw3677582876431819754:0=0:=rfl
theorem tw14546717431714848227:0=0:=rfl
theorem tw3432974972529156650:0=0:=rfl
end PySem.W.Fast
open PySem PySem.W PyProof.Rows
set_option maxRecDepth 100000 in
set_option maxHeartbeats 0 in
theorem PySem.Challenge.cw_chiefway_k21_ways_that_part_holds : PySem.Challenge.rw_chiefway_k21_ways_that_part.Holds := by
 w_on;o_law;k_head;(case hw=>w_witness2)
 k_fill
 refine My.walk (l:=PySem.Challenge.rw_chiefway_k21_ways_that_part) (k:=11) (by decide) rfl rfl (λw h Y=>PySem.W.kIn_of Y) ?F
 case F=>
  intro w mg U h KX G M;refine' Law.K3 (k:=10) KX G M ?D ?B ?J ?a0 ?l0 ?c0 ?k0 ?gaWORDS ?glWORDS ?ok
  (case D=>unfold Law.tab;(repeat (apply P.Des.cons;(case a=>k_is);(case l=>k_is);(case c=>k_is);(case k=>k_is)));exact P.Des.nil)
  (case B=>unfold Law.blt;(repeat (apply P.Nos.cons;(case a=>k_is)));exact P.Nos.nil)
  (case J=>unfold Law.RT;(repeat (apply P.Gis.cons;(case a=>k_is)));exact P.Gis.nil)
  (case a0=>k_is)
  (case l0=>k_is)
  (case c0=>k_is)
  (case k0=>k_is)
  (case gaWORDS=>k_is)
  (case glWORDS=>k_is)
  (case ok=>exact λbase kb nb T=>P.LD (f:=Law.DO) (O':=[]) rfl (λU N A q s H E hr=>Law.HY.2 T U N A q s H E hr) Law.N7)
