import PyProof.Rows.All
import Wide.All
import OpenK.AllK
import Wide.FinOn
import Lean
import PyProof.EqAt
import PyProof.EqKinds
import PyProof.TupleCall
import KE.KEqDict
import PySem.Challenge.RW_chiefway_k51_readings_carried
set_option autoImplicit true
set_option relaxedAutoImplicit true
set_option Elab.async false
set_option linter.all false
set_option maxRecDepth 100000
open PySem renaming wpAny_bind → S7, Shared → S8, wpAny_pure → TB, starEach → TC, Program → TJ, sizeLine → TK, Around → TX, compareOp → TY, backTo → T7, swapsWith → UD, bootBuiltins → UJ, assignEach → UN, mainGlobals → UO, binaryOp → UP, Paired → UR, rawInt → UT, pyNext → UW, wpAny_field → U0, wpAny_mono → U3, assign → U6, wpAny_newObj_type → U7, sysModules → VB, foldedSetIterable → VC, FuncData → VG, wpAny_call_entry → VI, wpAny_holding → VL, wpAny_truthy_bool → VS, codeAny → VW, relabel → VY, tupleKind → VZ, Keyword → V0, wpAny_setField_rec → V1, IsEnum → V2, swapsWithSole → V3, swappedStores → V4, NameKind → V5, IsPart → V7, getItem → V8, wpAny_callSpecial?_slot → V9, sliceBounds → WD, behindInMarks → WG, sizeLine_eq → WH, cellsFrom → WI, wpAny_loadPart' → WJ, Builtin → WK, DictEntry → WM, plainId_quiet → WU, wpAny_passesOwn → WY, attributeBase → WZ, valueAt → W1, callerA → W2, PassesOwn → W6, lastMarks → W8, tupleKind_room_in1 → XE, wpAny_dictEntries → XM, wpAny_dictEpoch → XN, wpAny_attempt → XO, setField → XQ, firstArgMember → XR, wpAny_letGo → XS, codeAny_builtin → XT, wpAny_updateSeq → XW, wpAny_standAt → X2, wpAny_rule → X3, wpAny_pyIter_tuple → X4, mem_of_lookup → X7, typeIs_int → X9, keywordEach → YA, wpAny_setField → YG, updateSeq → YK, wpAny_execs_nil → YT, letOwnedTupleGo → YU, IsRangeIter → YV, codeAny_mono → YZ, wpAny_typeOf → Y4, subscripted → Y6, call_meetsIn → Y9, wpAny_typeNameOfWhole_keyiter → ZE, wpAny_typeNameOf_keyiter → ZF, wpAny_fieldsOf → ZG, wpAny_of_eq → ZI, wpAny_typeNameOfWhole_itemiter → ZL, wpAny_typeNameOf_itemiter → ZM, wpAny_newTuple → ZN, wpAny_seqItems → ZR, wpAny_tryCatch → ZV, wpAny_Call_Name_kw → Z6, noFill_tuple_add → Z9, wpAny_isInstance → zao, wpAny_isOneOf_itemiter → zap
open PySem.W renaming Frag → S9, kia_one → VM, fnOf → VX, keepIn → WR, nsIn → WW, codeIn → XB, kitOne → X6, kitx_dict → YX, kitAny → ZW, mg_of → ZY, instObj → Z0, methodObj → Z1, OpenLaw → zak
open Option renaming bind_some → TF, map_some → TH, bind → ZU, isSome_map → zai
open List renaming length_map → TL, map_cons → TU, range → T2, size_toArray → T3, getElem?_map → T6, replicate → UA, mem_cons_of_mem → UG, mem_cons → UH, not_mem_nil → UI, length_cons → UK, mem_cons_self → UL, getElem?_eq_getElem → UU, mem_of_getElem? → U9, map_append → VE, set → VJ, length_append → VN, any_cons → VO, find?_cons → VP, map_map → VQ, mem_append_right → VU, length → V6, map_nil → WB, length_nil → WL, replicate_succ → WT, flatten_cons → W0, mem_append_left → W5, append_nil → W9, getElem?_append_left → XA, all_cons → XC, getD → XG, getElem_mem → XX, eq_of_mem_replicate → X0, getElem_inj → X1, all_eq_true → YC, ext_getElem → YD, toArray → YE, drop_eq_getElem_cons → YM, lookup_cons → YN, length_range → YQ, getElem?_set_ne → YS, length_take → Y0, getElem?_append_right → Y1, foldl_cons → Y8, forall_mem_cons → ZX, mem_map_of_mem → ZZ, filterMap_cons → Z2, getElem?_set_self → Z3, of_mem_zip → Z7, getElem?_replicate → Z8, length_singleton → zag, filter_cons → zah, getElem?_range → zar, drop_length → zas, nil_append → zau, map_congr_left → zaw, take_add_one → zay, take_length → zaz, length_filter_le → zaA
open PySem.Value renaming ref → TN, none → UC, bool → WP, type → WQ
open PySem.Heap renaming lt_size → TQ, get?_push_of_some → TV, get?_push_size → T8, SameBut → UM, get?_update_other → WC, get?_update_self → WS, ExtBut → YH, size_push → YI
open Nat renaming le_refl → TR, ne_of_lt → T9, ne_of_gt → US, le_trans → UY, lt_of_lt_of_le → U2, zero_le → U4, lt_irrefl → VR, lt_trans → XD, lt_of_le_of_lt → YB, le_of_lt → YR, lt_succ_self → zav, le_of_ble_eq_true → zax
open Bool renaming false_ne_true → TZ, and_eq_true → UE, false_eq_true → WN, eq_iff_iff → W7, not_eq_true → YO, eq_false_iff → zal, beq_eq_decide_eq → zam, or_eq_true → zat
open Sum renaming inl → T1, inr → WX
open Int renaming emod_nonneg → T4, emod_lt_of_pos → T5, ne_of_gt → UV, toNat_natCast → U5, dvd_sub → ZS
open Ne renaming symm → UB
open Option.some renaming inj → UF
open PyProof.Rows renaming seqObj → UQ, envOfC → UX, IntsAre → UZ, kindOf → VH, AllBare → WE, callWith_type1 → X5, slot_tuple_getitem → Y3, assignInOrder_cons → Z4
open Or renaming inl → U1, inr → VD
open True renaming intro → U8
open PySem.Obj renaming mapSeq → VA, data_mapFields → ZH
open Array renaming length_toList → VF, getD → XJ, getElem?_toList → YL, getElem?_eq_getElem → zan
open False renaming elim → VT
open PySem.Str renaming ofString → WA
open PySem.Builtin.Range renaming rangeSize → WF, small → XH
open PySem.NameKind renaming free → WO
open Classical renaming propDecidable → WV
open PySem.Heap.SameBut renaming update → W3
open PySem.Paired renaming length → W4
open PySem.F renaming slot_dict_get → XF, plain_max_loop → XZ, plain_extend_loop → YJ, entry_dict_get → ZA, slot_dict_keyiterator_next → ZD, slot_dict_itemiterator_next → ZK, slot_tuple_iterator_next → ZQ, slot_enumerate_next → ZT, slot_tuple_add → zaa, entry_tuple_add → zab, args_tuple_add_2 → zac, plainAttrs_dict → zaj, entry_dict_keyiterator_next → zaB, args_dict_keyiterator_next_1 → zaC, entry_dict_itemiterator_next → zaD, args_dict_itemiterator_next_1 → zaE, slot_dict_items_iter → zaF, entry_tuple_iterator_next → zaH, args_tuple_iterator_next_1 → zaI
open ForInStep renaming yield → XI
open PySem.Around renaming under_plainId → XU
open ToString renaming toString → XY
open PySem.SeqAt renaming EqAt → X8
open PySem.Builtin.Dict_items renaming ownsTuple → YF, pairFromOwner → ZJ, ownedTupleIsFree → ZO, ownedTupleFields → zaG
open PySem.Builtin.Str renaming occurrences → YW
open PySem.Calls renaming spliced_cons → YY, callWith_builtin → Y7, spliced_nil → Z5, evalArgs_plain → zae
open PySem.Builtin.Slice renaming slicePlaces → Y2, sliceAdjust → zad
open PySem.Builtin.Tuple renaming tupleExact → Y5
open PySem.Builtin.Dict renaming showsAll → ZC
open PySem.Builtin.SmallTypes renaming nextOf → ZP, ownedTupleIsFree → zaJ, ownedTupleHandOut → zaK
open PySem.Builtin.List renaming listTooLong → zaf, listExtendWith → zaq
open PySem.Builtin.Builtins renaming bindParams → zaL
noncomputable section
namespace L2
open PySem PySem.Spec PyProof.Rows
abbrev Key:=Sum Int Str
def oX:Key->Value->Bool
 | .inl k,v=>Value.isInt k v
 | .inr x,v=>Value.isStrOf x v
def Q4(w:World):Key->Int
 | .inl k=>hashInt k
 | .inr x=>hashStr w x
theorem bE:∀ {k:Key} {v:Value},oX k v=true->(∃i t,k=T1 i/\v=Value.int i t)\/(∃x t,k=WX x/\v=Value.str x t)
 | .inl i,v,h=>by
  obtain⟨t,e⟩:=Value.isInt_shape (k:=i) (v:=v) h;exact .inl ⟨i,t,rfl,e⟩
 | .inr x,v,h=>by
  obtain⟨t,e⟩:=Value.isStrOf_shape (x:=x) (v:=v) h;exact .inr ⟨x,t,rfl,e⟩
theorem yN(i:Int)(t:Tok):oX (.inl i) (.int i t)=true:=by simp[oX,Value.isInt]
theorem yH(x:Str)(t:Tok):oX (.inr x) (.str x t)=true:=by simp[oX,Value.isStrOf]
theorem K9(a b:Int):decide ((T1 a:Key)=T1 b)=(a == b):=by
 by_cases e:a=b
 ·subst e;simp
 ·have h:¬ (T1 a:Key)=T1 b:=λq=>e (Sum.inl.inj q)
  rw[decide_eq_false h];exact(beq_eq_false_iff_ne.mpr e).symm
theorem KW(a b:Str):decide ((WX a:Key)=WX b)=decide (a=b):=by
 by_cases e:a=b
 ·subst e;simp
 ·have h:¬ (WX a:Key)=WX b:=λq=>e (Sum.inr.inj q)
  rw[decide_eq_false h,decide_eq_false e]
theorem K3(a:Int)(b:Str):decide ((T1 a:Key)=WX b)=false:=decide_eq_false (λq=>nomatch q)
theorem ME(a:Str)(b:Int):decide ((WX a:Key)=T1 b)=false:=decide_eq_false (λq=>nomatch q)
def aU(prog:TJ)(w:World):PySem.KeyKind prog w Key where
 is:=oX
 hash:=Q4 w
 inj:=λv a b G B=>by
  rcases bE G with⟨i,t,rfl,rfl⟩|⟨x,t,rfl,rfl⟩
  ·rcases bE B with⟨j,u,rfl,e⟩|⟨y,u,rfl,e⟩
   ·injection e with e1 _;rw[e1]
   ·exact nomatch e
  ·rcases bE B with⟨j,u,rfl,e⟩|⟨y,u,rfl,e⟩
   ·exact nomatch e
   ·injection e with e1 _;rw[e1]
 byValue:=λk v h=>by
  rcases bE h with⟨i,t,rfl,rfl⟩|⟨x,t,rfl,rfl⟩ <;> rfl
 pyHash:=λq h=>by
  rcases bE q with⟨i,t,rfl,rfl⟩|⟨x,t,rfl,rfl⟩
  ·exact wpAny_pyHash_int h
  ·exact wpAny_pyHash_str h
 eqBool:=λF q h=>by
  rcases bE F with⟨i,t,rfl,rfl⟩|⟨x,t,rfl,rfl⟩
  ·rcases bE q with⟨j,u,rfl,rfl⟩|⟨y,u,rfl,rfl⟩
   ·rw[K9]at h;exact wpAny_eqBool_int h
   ·rw[K3]at h;exact SeqAt.EqAt.int_str i t y u _ _ _ _ h
  ·rcases bE q with⟨j,u,rfl,rfl⟩|⟨y,u,rfl,rfl⟩
   ·rw[ME]at h;exact SeqAt.EqAt.str_int x t j u _ _ _ _ h
   ·rw[KW]at h;exact wpAny_eqBool_str h
 «strs»:=λk x t v h=>by
  rcases bE h with⟨i,u,rfl,e⟩|⟨y,u,rfl,e⟩
  ·exact nomatch e
  ·injection e with e1 _
   subst e1;cases v <;> rfl
theorem rJ(prog:TJ)(w:World)(i:Int)(t:Tok):(aU prog w).is (.inl i) (.int i t)=true:=yN i t
theorem rL(prog:TJ)(w:World)(x:Str)(t:Tok):(aU prog w).is (.inr x) (.str x t)=true:=yH x t
inductive V where
 | non|bl (b:Bool)|int (i:Int)|str (x:Str)|byt (b:Array UInt8)|flt (b:UInt64)|ref (a:Addr)|ty (n:String)
 deriving DecidableEq
noncomputable def RelV:V->Value->Prop
 | .non,u=>u=UC
 | .bl b,u=>u=WP b
 | .int i,u=>∃t,u=Value.int i t
 | .str x,u=>∃t,u=Value.str x t
 | .byt b,u=>∃t,u=Value.bytes b t
 | .flt b,u=>∃t,u=Value.float b t
 | .ref a,u=>u=TN a
 | .ty n,u=>u=WQ n
abbrev Vals:List V->List Value->Prop:=UR RelV
theorem Vals.length(r:Vals xs us):xs.length=us.length:=W4 r
theorem Vals.get:∀ {xs:List V} {us:List Value} {i:Nat} {x:V},Vals xs us->xs[i]?=some x->∃u,us[i]?=some u/\RelV x u
 | _,_,_,_,.nil,e=>by simp at e
 | _,_,0,_,.cons r _,e=>by simp at e;subst e;exact⟨_,rfl,r⟩
 | _,_,i+1,x,.cons _ t,e=>by
  obtain⟨u,h1,h2⟩:=Vals.get (i:=i) (x:=x) t (by simpa using e);exact⟨u,by simpa using h1,h2⟩
theorem Vals.set(r:RelV x u):∀ {xs:List V} {us:List Value} (i:Nat),Vals xs us->Vals (xs.set i x) (us.set i u)
 | _,_,_,.nil=>.nil
 | _,_,0,.cons _ t=>.cons r t
 | _,_,i+1,.cons q t=>.cons q (Vals.set r i t)
theorem Vals.append:∀ {xs ys:List V} {us ws:List Value},Vals xs us->Vals ys ws->Vals (xs++ys) (us++ws)
 | _,_,_,_,.nil,s=>s
 | _,_,_,_,.cons r t,s=>.cons r (Vals.append t s)
theorem Vals.take:∀ {xs:List V} {us:List Value} (n:Nat),Vals xs us->Vals (xs.take n) (us.take n)
 | _,_,0,_=>.nil
 | _,_,_+1,.nil=>.nil
 | _,_,n+1,.cons r t=>.cons r (Vals.take n t)
theorem Vals.drop:∀ {xs:List V} {us:List Value} (n:Nat),Vals xs us->Vals (xs.drop n) (us.drop n)
 | _,_,0,r=>r
 | _,_,_+1,.nil=>.nil
 | _,_,n+1,.cons _ t=>Vals.drop n t
def RelO:Option V->Option Value->Prop
 | some v,some u=>RelV v u
 | none,none=>True
 | _,_=>False
def KV{κ:Type}:List (κ×V)->List (κ×Value)->Prop:=UR λ(p:κ×V) (q:κ×Value)=>p.1=q.1/\RelV p.2 q.2
def kV:Key->V
 | .inl i=>.int i
 | .inr x=>.str x
inductive HO where
 /-- a list -/
 | lst (xs:List V)
 /-- a tuple (never changes) -/
 | tup (xs:List V)
 /-- a dict whose keys are ints and texts;one whose keys are tuples of ints and texts (the empty one is both) -/
 | dK (kvs:List (Key×V))|dT (kvs:List (List Key×V))
 /-- a set of ints: its members, its size -/
 | set (S:Int->Bool) (n:Nat)
 /-- an instance of the class at C, its dict at dx, its attributes -/
 | ins (C dx:Addr) (fs:List (Str×V))
 /-- the dict of the instance at x -/
 | own (x:Addr)
 /-- the dict of an exception -/
 | xd (fs:List (Str×V))
 /-- a bound method, f of x -/
 | met (f x:Addr)
 /-- a range object lo, lo+1, .. below hi -/
 | rng (lo hi:Int)
 /-- a thing that is known to the object (the script;a dict while a loop walks it): read, never written while it is so -/
 | frz (o:Obj) (u:HO)
 /-- a code object's table -/
 | tbl (ps:Array Value)
 /-- any other thing, by what is true of its one object (a def of one's own: SetO a S n:=HO.ext λh => ..) -/
 | ext (φ:Heap->Prop)
abbrev Hp:=Addr->Option HO
def upd(H:Hp)(a:Addr)(o:HO):Hp:=λb=>if b=a then some o else H b
theorem aF:upd H a o a=some o:=by unfold upd;rw[if_pos rfl]
theorem aC(h:b≠a):upd H a o b=H b:=by unfold upd;rw[if_neg h]
theorem OM{H:Hp}{a b:Addr}{o u:HO}(h:H a=some o)(h':H b=some u)(d:o≠u):a≠b:=by
 intro e;subst e;rw[h]at h';exact d (UF h')
theorem aW{H:Hp}{a b:Addr}{o:HO}(h:H a=some o)(h':H b=none):a≠b:=by
 intro e;subst e;rw[h]at h';cases h'
section
variable (P:TJ)(w:World)
def IsTupN(h:Heap)(a:Addr)(items:Array Value):Prop:=∃o,h.get? a=some o/\o.cls=.type "tuple" /\ ∃n,o.data=.seq items n/\o.dict=none
theorem IsTupN.tup{h:Heap}{a:Addr}{items:Array Value}(x:IsTupN h a items):IsTup h a items:=let ⟨o,e,c,n,d,_⟩:=x;⟨o,e,c,n,d⟩
theorem IsTupN.lt(x:IsTupN h a items):a<h.objs.size:=x.tup.lt
theorem IsTupN.new(h:Heap)(items:Array Value):IsTupN (h.push {cls:=.type "tuple",data:=.seq items}) h.objs.size items:=⟨_,T8 _ rfl,rfl,_,rfl,rfl⟩
def ObjOk(H:Hp)(h:Heap)(a:Addr):HO->Prop
 | .lst xs=>xs.length<=TK/\∃(its:List Value) (n:Nat),Vals xs its/\h.get? a=some {cls:=.type "list",data:=.seq its.toArray n}
 | .tup xs=>xs.length<=TK/\∃its:List Value,Vals xs its/\IsTupN h a its.toArray
 | .dK kvs=>kvs.length<=TK/\(a == VB)=false/\∃vs,KV kvs vs/\h.DictOf (aU P w) a vs
 | .dT kvs=>kvs.length<=TK/\(a == VB)=false/\∃xs:List (List Key×Addr×Value),
   UR (λ(p:List Key×V) (q:List Key×Addr×Value)=>p.1=q.1/\H q.2.1=some (.tup (p.1.map kV))/\RelV p.2 q.2.2) kvs xs /\
   ∃o es ep,h.get? a=some o/\o.ExactDict/\o.data=.dict es ep/\es.toList=xs.map (entryOfKey (VZ (aU P w)))/\(xs.map (·.1)).Nodup
 | .set S n=>h.SetOf (intKind P w) a S n
 | .ins C dx fs=>H dx=some (.own a)/\fs.length<=1000/\dx≠a/\h.get? a=some (Z0 C dx) /\
   ∃mA,h.Ns1 dx mA/\(∀f,RelO (fs.lookup f) (mA f))/\PySem.Within mA (fs.map (·.1))
 | .own _=>∃o,h.get? a=some o
 | .xd fs=>∃mA,h.Ns1 a mA/\∀f,RelO (fs.lookup f) (mA f)
 | .rng lo hi=>∃t u v,h.get? a=some {cls:=.type "range",data:=.fields #[.int lo t,.int hi u,.int 1 v]}
 | .frz o u=>h.get? a=some o/\ObjOk H h a u
 | .tbl ps=>h.get? a=some {cls:=.none,data:=.fields ps}
 | .met f x=>h.get? a=some (Z1 (.ref f) (.ref x))
 | .ext φ=>φ h/\(∃o,h.get? a=some o)/\∀h1 h2:Heap,φ h1->(∀o,h1.get? a=some o->h2.get? a=some o)->φ h2
def HOk(H:Hp)(h:Heap):Prop:=∀a o,H a=some o->ObjOk P w H h a o
end
section
variable {P:TJ}{w:World}{H H':Hp}{h h':Heap}{a:Addr}{o:HO}
theorem ObjOk.lt(x:ObjOk P w H h a o):a<h.objs.size:=by
 cases o with
 | lst xs=>obtain⟨_,_,_,_,e⟩:=x;exact TQ e
 | tup xs=>obtain⟨_,_,_,p⟩:=x;exact p.lt
 | dK kvs=>obtain⟨_,_,_,_,o,_,_,e,_⟩:=x;exact TQ e
 | dT kvs=>obtain⟨_,_,_,_,o,_,_,e,_⟩:=x;exact TQ e
 | set S n=>obtain⟨o,_,_,_,e,_⟩:=x;exact TQ e
 | ins C dx fs=>obtain⟨_,_,_,e,_⟩:=x;exact TQ e
 | own y=>obtain⟨_,e⟩:=x;exact TQ e
 | xd fs=>obtain⟨_,⟨_,_,_,e,_⟩,_⟩:=x;exact TQ e
 | rng lo hi=>obtain⟨_,_,_,e⟩:=x;exact TQ e
 | frz ob u=>obtain⟨e,_⟩:=x;exact TQ e
 | tbl ps=>exact TQ (show h.get? a=some _ from x)
 | met f y=>exact TQ (show h.get? a=some _ from x)
 | ext φ=>obtain⟨_,⟨_,e⟩,_⟩:=x;exact TQ e
theorem Paired.mapP{q B:Type}{F G:q->B->Prop}:∀ {l₁:List q} {l₂:List B},UR F l₁ l₂->(∀a b,F a b->G a b)->UR G l₁ l₂
 | _,_,.nil,_=>.nil
 | _,_,.cons r t,f=>.cons (f _ _ r) (Paired.mapP t f)
theorem ObjOk.stay(x:ObjOk P w H h a o)(k:∀b u,(b=a\/H b=some (.own a))->h.get? b=some u->h'.get? b=some u)
  (M:∀b,H b=some (.own a)->H' b=some (.own a)) (G:∀b xs,H b=some (.tup xs)->H' b=some (.tup xs)):ObjOk P w H' h' a o:=by
 induction o with
 | lst xs=>obtain⟨z,F,n,r,e⟩:=x;exact⟨z,F,n,r,k _ _ (.inl rfl) e⟩
 | tup xs=>obtain⟨z,F,r,B,e,c⟩:=x;exact⟨z,F,r,B,k _ _ (.inl rfl) e,c⟩
 | dK kvs=>obtain⟨z,y,vs,r,B,es,ep,e,c⟩:=x;exact⟨z,y,vs,r,B,es,ep,k _ _ (.inl rfl) e,c⟩
 | dT kvs=>
  obtain⟨z,y,xs,r,B,es,ep,e,c⟩:=x;exact⟨z,y,xs,Paired.mapP r λp q z=>⟨z.1,G _ _ z.2.1,z.2.2⟩,B,es,ep,k _ _ (.inl rfl) e,c⟩
 | set S n=>obtain⟨B,es,ep,t,e,c⟩:=x;exact⟨B,es,ep,t,k _ _ (.inl rfl) e,c⟩
 | ins C dx fs=>
  obtain⟨d,z,ne,e,mA,⟨od,es,ep,J,c⟩,r⟩:=x;exact⟨M _ d,z,ne,k _ _ (.inl rfl) e,mA,⟨od,es,ep,k _ _ (.inr d) J,c⟩,r⟩
 | own y=>obtain⟨B,e⟩:=x;exact⟨B,k _ _ (.inl rfl) e⟩
 | xd fs=>obtain⟨mA,⟨od,es,ep,e,c⟩,r⟩:=x;exact⟨mA,⟨od,es,ep,k _ _ (.inl rfl) e,c⟩,r⟩
 | rng lo hi=>obtain⟨t,u,v,e⟩:=x;exact⟨t,u,v,k _ _ (.inl rfl) e⟩
 | frz B u ih=>obtain⟨e,q⟩:=x;exact⟨k _ _ (.inl rfl) e,ih q⟩
 | tbl ps=>
  have e:h.get? a=some {cls:=.none,data:=.fields ps}:=x;show h'.get? a=some {cls:=.none,data:=.fields ps};exact k a _ (.inl rfl) e
 | met f y=>
  have e:h.get? a=some (Z1 (.ref f) (.ref y)):=x;show h'.get? a=some (Z1 (.ref f) (.ref y));exact k a _ (.inl rfl) e
 | ext φ=>obtain⟨p,⟨o,e⟩,st⟩:=x;exact⟨st _ _ p λo q=>k _ _ (.inl rfl) q,⟨o,k _ _ (.inl rfl) e⟩,st⟩
theorem HOk.lt(x:HOk P w H h)(e:H a=some o):a<h.objs.size:=(x a o e).lt
theorem HOk.fresh(x:HOk P w H h)(e:h.objs.size<=a):H a=none:=by
 cases q:H a with
 | none=>rfl
 | some u=>exact absurd (U2 (x.lt q) e) (VR _)
theorem HOk.kept(x:HOk P w H h)(k:∀b u,h.get? b=some u->h'.get? b=some u):HOk P w H h':=λa o e=>
 (x a o e).stay (λb u _ q=>k b u q) (λ_ q=>q) λ_ _ q=>q
theorem HOk.laid(x:HOk P w H h)(k:∀b u,h.get? b=some u->h'.get? b=some u)(G:h.objs.size<=a)(new:ObjOk P w (upd H a o) h' a o):HOk P w (upd H a o) h':=λb u e=>by
 have F:=x.fresh G;by_cases B:b=a
 ·subst B;rw[aF]at e;cases e;exact new
 ·rw[aC B]at e
  exact(x b u e).stay (λc v _ q=>k c v q) (λc q=>by rw[aC (aW q F)];exact q) λc xs q=>by rw[aC (aW q F)];exact q
end
def Rd(H:Hp)(a:Addr)(u:HO):Prop:=H a=some u\/∃o,H a=some (.frz o u)
theorem Rd.ok(r:Rd H a u)(x:HOk P w H h):ObjOk P w H h a u:=by
 rcases r with r|⟨o,r⟩
 ·exact x a u r
 ·obtain⟨_,q⟩:=x a _ r
  exact q
def P9:Option HO->Prop
 | some (.lst _)=>True
 | some (.dK _)=>True
 | some (.dT _)=>True
 | some (.set _ _)=>True
 | some (.ins _ _ _)=>True
 | some (.ext _)=>True
 | _=>False
section
variable {P:TJ}{w:World}{H:Hp}{h h':Heap}{x e:Addr}{o':HO}
theorem HOk.write(ok:HOk P w H h)(N:P9 (H x))(Y:e=x\/H e=some (.own x))(k:∀b u,b≠e->h.get? b=some u->h'.get? b=some u)(U:∃u,h'.get? e=some u)
  (new:ObjOk P w (upd H x o') h' x o'):HOk P w (upd H x o') h':=λb u q=>by
 have F:∀c y,H c=some (.own y)->c≠x:=λc y r z=>by subst z;rw[r]at N;exact N
 have G:∀c xs,H c=some (.tup xs)->c≠x:=λc xs r z=>by subst z;rw[r]at N;exact N
 by_cases J:b=x
 ·subst J;rw[aF]at q;cases q;exact new
 ·rw[aC J]at q
  by_cases B:b=e
  ·have W:H b=some (.own x):=by
    rcases Y with z|z
    ·exact absurd (B.trans z) J
    ·rw[B];exact z
   rw[q]at W;cases W;obtain⟨v,hv⟩:=U;exact⟨v,by rw[B];exact hv⟩
  ·refine(ok b u q).stay (λc v M r=>k c v ?_ r) (λc r=>by rw[aC (F c b r)];exact r) λc xs r=>by rw[aC (G c xs r)];exact r
   rcases M with rfl|M
   ·exact B
   ·rintro rfl
    rcases Y with z|z
    ·exact F c b M z
    ·rw[M]at z;cases z;exact J rfl
end
structure Un(fs ex:List Addr)(H H':Hp)(h h':Heap):Prop where
 keep:∀b o,h.get? b=some o->H b=none->b∉fs->b∉ex->h'.get? b=some o
 slot:∀b o,h.get? b=some o->H b=none->b∈fs->b∉ex->∃sl,h'.get? b=some {o with slots:=sl}
 free:∀b o,h.get? b=some o->H b=none->b∉ex->H' b=none
 there:∀b o,h.get? b=some o->b∉ex->∃o',h'.get? b=some o'
 tups:∀b xs,H b=some (.tup xs)->H' b=some (.tup xs)
 frzs:∀b o u,H b=some (.frz o u)->H' b=some (.frz o u)
 tbls:∀b ps,H b=some (.tbl ps)->∃more,H' b=some (.tbl (ps++more))
section
variable {fs fs' ex ex':List Addr}{H H1 H2:Hp}{h h1 h2 h':Heap}{a x e:Addr}{o:HO}
theorem Un.any(u:Un fs ex H H1 h h1)(q:h.get? b=some ob)(n:H b=none)(B:b∉ex):∃G,h1.get? b=some {ob with slots:=G}:=by
 by_cases F:b∈fs
 ·exact u.slot b ob q n F B
 ·exact⟨ob.slots,u.keep b ob q n F B⟩
theorem Un.trans(a:Un fs ex H H1 h h1)(b:Un fs ex H1 H2 h1 h2):Un fs ex H H2 h h2 where
 keep:=λc F q n J B=>b.keep c F (a.keep c F q n J B) (a.free c F q n B) J B
 slot:=λc F q n J B=>by
  obtain⟨Y,G⟩:=a.slot c F q n J B;obtain⟨N,M⟩:=b.slot c _ G (a.free c F q n B) J B;exact⟨N,M⟩
 free:=λc F q n B=>by
  obtain⟨o',G⟩:=a.there c F q B;exact b.free c o' G (a.free c F q n B) B
 there:=λc F q B=>by
  obtain⟨o',G⟩:=a.there c F q B;exact b.there c o' G B
 tups:=λc xs q=>b.tups c xs (a.tups c xs q)
 frzs:=λc F xs q=>b.frzs c F xs (a.frzs c F xs q)
 tbls:=λc ps q=>by
  obtain⟨W,G⟩:=a.tbls c ps q;obtain⟨U,M⟩:=b.tbls c _ G;exact⟨W++U,by rw[M,Array.append_assoc]⟩
theorem Un.kept(k:∀b u,h.get? b=some u->h'.get? b=some u):Un fs ex H H h h':=
 ⟨λb B q _ _ _=>k b B q,λb B q _ _ _=>⟨B.slots,k b B q⟩,λ_ _ _ n _=>n,λb B q _=>⟨B,k b B q⟩,λ_ _ q=>q,λ_ _ _ q=>q,λ_ ps q=>⟨#[],by rw[q];simp⟩⟩
theorem Un.refl:Un fs ex H H h h:=Un.kept λ_ _ q=>q
theorem Un.laid(k:∀b u,h.get? b=some u->h'.get? b=some u)(F:h.objs.size<=a)(B:H a=none):Un fs ex H (upd H a o) h h' where
 keep:=λb u q _ _ _=>k b u q
 slot:=λb u q _ _ _=>⟨u.slots,k b u q⟩
 free:=λb u q n _=>by rw[aC (T9 (U2 (TQ q) F))];exact n
 there:=λb u q _=>⟨u,k b u q⟩
 tups:=λb xs q=>by rw[aC (aW q B)];exact q
 frzs:=λb u xs q=>by rw[aC (aW q B)];exact q
 tbls:=λb ps q=>⟨#[],by rw[aC (aW q B),q];simp⟩
theorem Un.write(F:P9 (H x))(U:e=x\/H e=some (.own x))(k:∀b u,b≠e->h.get? b=some u->h'.get? b=some u)(G:∃u,h'.get? e=some u):Un fs ex H (upd H x o) h h':=by
 have M:∀b,H b=none->b≠x:=λb n z=>by subst z;rw[n]at F;exact F
 have N:∀b,H b=none->b≠e:=λb n z=>by
  subst z;rcases U with r|r
  ·exact M b n r
  ·rw[n]at r;cases r
 have J:∀b u,H b=some u->¬ P9 (some u)->b≠x:=λb u q nm z=>by subst z;rw[q]at F;exact nm F
 refine⟨λb u q n _ _=>k b u (N b n) q,λb u q n _ _=>⟨u.slots,k b u (N b n) q⟩,λb u q n _=>by rw[aC (M b n)];exact n,λb u q _=>?_,
  λb xs q=>by rw[aC (J b _ q λz=>z)];exact q,λb u xs q=>by rw[aC (J b _ q λz=>z)];exact q,λb ps q=>⟨#[],by rw[aC (J b _ q λz=>z),q];simp⟩⟩
 by_cases B:b=e
 ·subst B;exact G
 ·exact⟨u,k b u B q⟩
end
def QF(h:Heap)(H:Hp):List Addr:=(T2 h.objs.size).filter λa=>(H a).isSome
def rA(h:Heap)(H:Hp):Heap:=PySem.W.hideAll h (QF h H)
theorem yQ(h:Heap)(H:Hp):(rA h H).objs.size=h.objs.size:=PySem.W.hideAll_size _ _
theorem BR(e:h.get? b=some o)(n:H b=none):(rA h H).get? b=some o:=
 PySem.W.hideAll_get _ e λB=>by
  have q:(H b).isSome=true:=(List.mem_filter.mp B).2;rw[n]at q;simp at q
theorem HG(e:(rA h H).get? b=some o):h.get? b=some o/\H b=none:=by
 have B:h.get? b=some o:=PySem.W.of_hideAll (QF h H) e;refine⟨B,?_⟩;cases q:H b with
 | none=>rfl
 | some x=>
  have F:b∈QF h H:=List.mem_filter.mpr ⟨List.mem_range.mpr (TQ B),by simp[q]⟩;have z:(rA h H).get? b=none:=PySem.W.hideAll_none (QF h H) F;rw[z]at e;cases e
noncomputable def G0(g h:Heap)(L:Addr):List (Addr×Obj):=(T2 h.objs.size).filterMap λa=>if a=L\/(g.get? a).isSome=true then none else(h.get? a).map λo=>(a,o)
def rest(g h:Heap)(L d:Addr):List (Addr×Obj):=(G0 g h L).filter λp=>decide (p.1≠d)
structure Mod(K:S9)(mg:Str->Option Value)(base:Heap):Prop where
 kin:K.In base
 glob:base.Ns UO mg
 blt:∃mb,base.Ns builtinsNs mb/\∀x:Str,x ≠ "__name__" -> mb x=UJ x
 nolimit:base.NoLimit
structure Cx where
 prog:TJ
 w:World
 K:S9
 mg:Str->Option Value
 base:Heap
 A:TX
 N:List Str
 s₀:S8
 H₀:Hp
 env:Env
 outer:List Env
 stack:List Env
 ex:List Addr
 fn:Str->Bool
 calm:Bool
 pn:List (Addr×Obj)
 xe:Value->S8->Prop
noncomputable def frs(l:List Env):List Addr:=l.filterMap (·.frame)
abbrev Cx.fs(X:Cx):List Addr:=frs X.outer
def NF(sc:Scope)(x:Str):Prop:=sc.names.lookup x=some .local\/sc.names.lookup x=some .cell\/sc.names.lookup x=some .free
def Loc(sc:Scope)(x:Str):Prop:=sc.names.lookup x=some .local\/sc.names.lookup x=some .cell
def Look(env:Env)(h:Heap)(m:Str->Option Value)(x:Str)(u:Value):Prop:=
 (env.kindOf x=some .local/\m x=some u)\/((env.kindOf x=some .cell\/env.kindOf x=some .free)/\∃c,env.cells.lookup x=some c/\h.IsCell c (some u))
structure Cx.Ok(X:Cx):Prop where
 mod:Mod X.K X.mg X.base
 kind:X.env.scope.kind=.function
 glob:X.env.globals=UO
 blt:X.env.builtins=builtinsNs
 above:X.s₀.heap.objs.size<=X.env.locals
 inj:∀x y c,X.env.cells.lookup x=some c->X.env.cells.lookup y=some c->x=y
 has:∀x,(X.env.kindOf x=some .cell\/X.env.kindOf x=some .free)->∃c,X.env.cells.lookup x=some c
 cab:∀x c,X.fn x=true->X.env.cells.lookup x=some c->X.s₀.heap.objs.size<=c
 hd:X.calm=true->X.A.handled=none
 frames:X.A.frames=some X.stack
 stk:X.stack=X.outer\/(X.stack=X.env::X.outer/\X.env.frame=some X.env.locals)
 exf:∀b∈X.ex,b≠X.env.locals/\∀x c,X.env.cells.lookup x=some c->c≠b
 bs:∀b o,X.base.get? b=some o->X.s₀.heap.get? b=some o/\X.H₀ b=none
 bsz:X.base.objs.size<=X.s₀.heap.objs.size
 noex:∀b o,X.base.get? b=some o->b∉X.ex
 exfs:∀b∈X.ex,b∉X.fs
 funs:X.s₀.heap.FunFrames X.base X.outer
 frf:∀b∈X.fs,X.H₀ b=none
structure Inv(X:Cx)(pins:List (Addr×Obj))(σ:List (Option V))(H:Hp)(s:S8):Prop where
 ok:X.Ok
 os:s.os=X.s₀.os
 bare:WE s.gens
 base:Un X.fs X.ex X.H₀ H X.s₀.heap s.heap
 loc:∃m,s.heap.Ns X.env.locals m/\∀(i:Nat) (x:Str) (v:V),X.N[i]?=some x->σ[i]?=some (some v)->NF X.env.scope x->∃u,RelV v u/\Look X.env s.heap m x u
 cell:∀x c,X.env.cells.lookup x=some c->∃v,s.heap.IsCell c v
 free:H X.env.locals=none
 freeC:∀x c,X.env.cells.lookup x=some c->H c=none
 pin:∀p∈X.pn++pins,s.heap.get? p.1=some p.2/\H p.1=none/\p.1≠X.env.locals/\p.1∉X.fs/\∀v,p.2.data≠.cell v
 hok:HOk X.prog X.w H s.heap
 len:σ.length=X.N.length
section
variable {X:Cx}{pins:List (Addr×Obj)}{σ:List (Option V)}{H H':Hp}{s:S8}{h':Heap}
theorem Cx.Ok.nofr(ok:X.Ok)(e:X.base.get? b=some o):b∉X.fs:=λq=>by
 have:=(ok.funs.mem q).1;rw[e]at this;cases this
theorem Inv.bs(I:Inv X pins σ H s):∀b o,X.base.get? b=some o->s.heap.get? b=some o/\H b=none:=λb o e=>
 ⟨I.base.keep b o (I.ok.bs b o e).1 (I.ok.bs b o e).2 (I.ok.nofr e) (I.ok.noex b o e),I.base.free b o (I.ok.bs b o e).1 (I.ok.bs b o e).2 (I.ok.noex b o e)⟩
theorem Inv.bk(I:Inv X pins σ H s):∀b o,X.base.get? b=some o->s.heap.get? b=some o:=λb o e=>(I.bs b o e).1
theorem Inv.mod(I:Inv X pins σ H s):Mod X.K X.mg X.base:=I.ok.mod
theorem Inv.kIn(I:Inv X pins σ H s):X.K.In s.heap:=I.ok.mod.kin.keeps I.bk
theorem Inv.lt(I:Inv X pins σ H s):X.env.locals<s.heap.objs.size:=let ⟨_,hn,_⟩:=I.loc;hn.lt
theorem Inv.sz(I:Inv X pins σ H s):X.s₀.heap.objs.size<=s.heap.objs.size:=UY I.ok.above (YR I.lt)
theorem Inv.nofs(I:Inv X pins σ H s)(h:s.heap.objs.size<=a):a∉X.fs:=λB=>by
 obtain⟨_,o,q,_⟩:=I.ok.funs.mem B;exact absurd (U2 (TQ q) (UY I.sz h)) (VR _)
theorem Inv.cne(I:Inv X pins σ H s):∀x c,X.env.cells.lookup x=some c->c≠X.env.locals:=λx c e z=>by
 obtain⟨v,o,F,G⟩:=I.cell x c e;obtain⟨m,⟨o',es,ep,q,B,_⟩,_⟩:=I.loc;rw[z,q]at F;cases F;rw[B]at G;cases G
theorem Inv.funs(I:Inv X pins σ H s):s.heap.FunFrames X.base X.outer:=by
 have all:∀(l:List Env),(∀b∈frs l,b∈X.fs)->X.s₀.heap.FunFrames X.base l->s.heap.FunFrames X.base l:=by
  intro l;induction l with
  | nil=>intro _ _;trivial
  | cons env r ih=>
   intro hs U;obtain⟨N,⟨L,o,F,W,G,M⟩,J⟩:=U;have B:L∈X.fs:=hs L (by unfold frs;rw[Z2,F];exact UL);obtain⟨Y,e⟩:=I.base.slot L o G (I.ok.frf L B) B λz=>I.ok.exfs L z B
   exact⟨N,⟨L,_,F,W,e,M⟩,ih (λb q=>hs b (by unfold frs;rw[Z2,F];exact UG _ q)) J⟩
 exact all X.outer (λ_ q=>q) I.ok.funs
theorem Inv.stack(I:Inv X pins σ H s):s.heap.FunFrames X.base X.stack:=by
 rcases I.ok.stk with e|⟨e,B⟩
 ·rw[e];exact I.funs
 ·rw[e]
  obtain⟨m,q,_⟩:=I.loc;refine .cons (by rw[I.ok.kind];decide) B q ?_ I.funs;exact Heap.get?_none_of_le (UY I.ok.bsz I.ok.above)
theorem Inv.stkSub(I:Inv X pins σ H s):∀b∈frs X.stack,b∈X.env.locals::X.fs:=λb q=>by
 rcases I.ok.stk with e|⟨e,B⟩
 ·rw[e]at q;exact UG _ q
 ·rw[e]at q
  unfold frs at q;rw[Z2,B]at q;exact q
theorem Inv.stkFree(I:Inv X pins σ H s):∀b∈frs X.stack,H b=none:=λb q=>by
 rcases List.mem_cons.mp (I.stkSub b q)with e|q
 ·rw[e];exact I.free
 ·obtain⟨_,o,B,_⟩:=I.ok.funs.mem q
  exact I.base.free b o B (I.ok.frf b q) λz=>I.ok.exfs b z q
theorem Inv.step{g':Array GenState}{t':Nat}{d':Drawn}{ch:List Addr}(I:Inv X pins σ H s)
  (J:∀b∈ch,(b∈X.ex\/X.s₀.heap.objs.size<=b)/\b≠X.env.locals/\(∀x c,X.env.cells.lookup x=some c->c≠b)/\∀p∈X.pn++pins,p.1≠b)
  (keep:∀b o,b≠X.env.locals->b∉X.fs->b∉ch->s.heap.get? b=some o->H b=none->h'.get? b=some o)
  (U:∀b o,b≠X.env.locals->b∈X.fs->b∉ch->s.heap.get? b=some o->H b=none->∃sl,h'.get? b=some {o with slots:=sl}) (free:∀b o,b∉ch->s.heap.get? b=some o->H b=none->H' b=none)
  (there:∀b o,b∉ch->s.heap.get? b=some o->∃o',h'.get? b=some o')
  (ae:∀b xs,H b=some (.tup xs)->H' b=some (.tup xs)) (ad:∀b o u,H b=some (.frz o u)->H' b=some (.frz o u)) (aa:∀b ps,H b=some (.tbl ps)->∃more,H' b=some (.tbl (ps++more)))
  (ns:∀m,s.heap.Ns X.env.locals m->h'.Ns X.env.locals m) (af:HOk X.prog X.w H' h') (hg:WE g') :
  Inv X pins σ H' {s with heap:=h',gens:=g',drawn:=d',toks:=t'}:=by
 have ac:∀b o,X.s₀.heap.get? b=some o->b≠X.env.locals:=λb o e=>T9 (U2 (TQ e) I.ok.above)
 have M:∀b o,X.s₀.heap.get? b=some o->b∉X.ex->b∉ch:=λb o e B W=>by
  rcases(J b W).1 with z|z
  ·exact B z
  ·exact absurd (U2 (TQ e) z) (VR _)
 have F:∀x c,X.env.cells.lookup x=some c->∀v,s.heap.IsCell c v->h'.IsCell c v:=by
  rintro x c e v ⟨o,Y,hd⟩;have G:c∉ch:=λz=>(J c z).2.2.1 x c e rfl
  by_cases hc:c∈X.fs
  ·obtain⟨sl,q⟩:=U c o (I.cne x c e) hc G Y (I.freeC x c e)
   exact⟨_,q,hd⟩
  ·exact⟨o,keep c o (I.cne x c e) hc G Y (I.freeC x c e),hd⟩
 refine⟨I.ok,I.os,hg,⟨λb o e n W B=>?_,λb o e n W B=>?_,λb o e n B=>?_,λb o e B=>?_,λb xs e=>ae b xs (I.base.tups b xs e),λb o xs e=>ad b o xs (I.base.frzs b o xs e),λb ps e=>?_⟩,?_,λx c e=>?_,?_,λx c e=>?_,λp hp=>?_,af,I.len⟩
 ·exact keep b o (ac b o e) W (M b o e B) (I.base.keep b o e n W B) (I.base.free b o e n B)
 ·obtain⟨sl,N⟩:=I.base.slot b o e n W B
  obtain⟨ag,e2⟩:=U b _ (ac b o e) W (M b o e B) N (I.base.free b o e n B);exact⟨ag,e2⟩
 ·obtain⟨o',N⟩:=I.base.there b o e B
  exact free b o' (M b o e B) N (I.base.free b o e n B)
 ·obtain⟨o',N⟩:=I.base.there b o e B
  exact there b o' (M b o e B) N
 ·obtain⟨m1,N⟩:=I.base.tbls b ps e
  obtain⟨m2,e2⟩:=aa b _ N;exact⟨m1++m2,by rw[e2,Array.append_assoc]⟩
 ·obtain⟨m,hn,hl⟩:=I.loc
  refine⟨m,ns m hn,λi x v N e2 e3=>?_⟩;obtain⟨u,r,l⟩:=hl i x v N e2 e3;refine⟨u,r,?_⟩;rcases l with l|⟨k,c,e,z⟩
  ·exact .inl l
  ·exact .inr ⟨k,c,e,F x c e _ z⟩
 ·obtain⟨v,z⟩:=I.cell x c e
  exact⟨v,F x c e v z⟩
 ·obtain⟨m,⟨o,_,_,Y,_⟩,_⟩:=I.loc
  exact free _ o (λz=>(J _ z).2.1 rfl) Y I.free
 ·obtain⟨v,o,Y,hd⟩:=I.cell x c e
  exact free c o (λz=>(J c z).2.2.1 x c e rfl) Y (I.freeC x c e)
 ·obtain⟨e,n,ne,nf,d⟩:=I.pin p hp
  have G:p.1∉ch:=λz=>(J p.1 z).2.2.2 p hp rfl
  exact⟨keep p.1 p.2 ne nf G e n,free p.1 p.2 G e n,ne,nf,d⟩
theorem Inv.un{t':Nat}(I:Inv X pins σ H s)(u:Un X.fs [] H H' s.heap h')(G:HOk X.prog X.w H' h'):Inv X pins σ H' {s with heap:=h',toks:=t'}:=by
 obtain⟨m,⟨o,es,ep,M,r⟩,_⟩:=id I.loc;obtain⟨sl,N⟩:=u.any M I.free (by simp);exact I.step (g':=s.gens) (d':=s.drawn) (ch:=[]) (λ_ z=>nomatch z) (λb o _ F _ e n=>u.keep b o e n F (by simp)) (λb o _ F _ e n=>u.slot b o e n F (by simp)) (λb o _ e n=>u.free b o e n (by simp)) (λb o _ e=>u.there b o e (by simp)) u.tups u.frzs u.tbls (λY U=>by
  obtain⟨o',J,B,q,W⟩:=U;rw[M]at q;cases q;exact⟨_,J,B,N,W⟩) G I.bare
theorem Inv.call{g':Array GenState}{t':Nat}{d':Drawn}{ch:List Addr}(I:Inv X pins σ H s)(u:Un (frs X.stack) ch H H' s.heap h')(J:HOk X.prog X.w H' h')(Y:WE g')
  (F:∀b∈ch,(b∈X.ex\/X.s₀.heap.objs.size<=b)/\b≠X.env.locals/\(∀x c,X.env.cells.lookup x=some c->c≠b)/\∀p∈X.pn++pins,p.1≠b) :
  Inv X pins σ H' {s with heap:=h',gens:=g',drawn:=d',toks:=t'}:=by
 obtain⟨m,⟨o,es,ep,U,r⟩,_⟩:=id I.loc;obtain⟨sl,N⟩:=u.any U I.free λz=>(F _ z).2.1 rfl
 exact I.step (ch:=ch) F (λb o N W q e n=>u.keep b o e n (λz=>(List.mem_cons.mp (I.stkSub b z)).elim N W) q) (λb o _ _ q e n=>u.any e n q) (λb o q e n=>u.free b o e n q) (λb o q e=>u.there b o e q) u.tups u.frzs u.tbls (λm' hm=>by
  obtain⟨o',M,G,B,r'⟩:=hm;rw[U]at B;cases B;exact⟨_,M,G,N,r'⟩) J Y
theorem Inv.turned{t':Nat}{it:Addr}(I:Inv X pins σ H s)(k:∀b o,b≠it->s.heap.get? b=some o->h'.get? b=some o)(W:H it=none)(G:it≠X.env.locals)
  (h1:it∈X.ex\/X.s₀.heap.objs.size<=it) (h2:∀x c,X.env.cells.lookup x=some c->c≠it) (M:∀p∈X.pn++pins,p.1≠it):Inv X pins σ H {s with heap:=h',toks:=t'}:=by
 have F:∀b u,H b=some u->b≠it:=λb u e z=>by rw[z,W]at e;cases e
 refine I.step (g':=s.gens) (d':=s.drawn) (ch:=[it]) (λb J=>?_) (λb o _ _ B e _=>k b o (λz=>B (by simp[z])) e) (λb o _ _ B e _=>⟨o.slots,k b o (λz=>B (by simp[z])) e⟩) (λ_ _ _ _ n=>n)
  (λb o B e=>⟨o,k b o (λz=>B (by simp[z])) e⟩) (λ_ _ e=>e) (λ_ _ _ e=>e) (λb ps e=>⟨#[],by rw[e];simp⟩) (λm N=>?_) (λb u e=>?_) I.bare
 ·have e:b=it:=by simpa using J
  subst e;exact⟨h1,G,h2,M⟩
 ·obtain⟨o,es,ep,U,r⟩:=N
  exact⟨o,es,ep,k _ o (UB G) U,r⟩
 ·refine(I.hok b u e).stay (λc v B q=>k c v ?_ q) (λ_ q=>q) λ_ _ q=>q
  rcases B with z|z
  ·rw[z];exact F b u e
  ·exact F c _ z
theorem Inv.tok(I:Inv X pins σ H s)(t:Nat):Inv X pins σ H {s with toks:=t}:=I.un (h':=s.heap) (t':=t) Un.refl I.hok
theorem Inv.kept(I:Inv X pins σ H s)(k:∀b u,s.heap.get? b=some u->h'.get? b=some u):Inv X pins σ H {s with heap:=h',toks:=t'}:=I.un (Un.kept k) (I.hok.kept k)
theorem Inv.laid(I:Inv X pins σ H s)(k:∀b u,s.heap.get? b=some u->h'.get? b=some u)(q:s.heap.objs.size<=a)(new:ObjOk X.prog X.w (upd H a o) h' a o) :
  Inv X pins σ (upd H a o) {s with heap:=h',toks:=t'}:=I.un (Un.laid k q (I.hok.fresh q)) (I.hok.laid k q new)
theorem Inv.write(I:Inv X pins σ H s)(B:P9 (H x))(F:e=x\/H e=some (.own x))(k:∀b u,b≠e->s.heap.get? b=some u->h'.get? b=some u)(q:∃u,h'.get? e=some u)
  (new:ObjOk X.prog X.w (upd H x o) h' x o):Inv X pins σ (upd H x o) {s with heap:=h',toks:=t'}:=I.un (Un.write B F k q) (I.hok.write B F k q new)
theorem Inv.pins_of(I:Inv X pins σ H s)(h:∀p∈pins',s.heap.get? p.1=some p.2/\H p.1=none/\p.1≠X.env.locals/\p.1∉X.fs/\∀v,p.2.data≠.cell v):Inv X pins' σ H s:=
 ⟨I.ok,I.os,I.bare,I.base,I.loc,I.cell,I.free,I.freeC,λp q=>(List.mem_append.mp q).elim (λz=>I.pin p (W5 _ z)) (h p),I.hok,I.len⟩
theorem sF{N:List Str}(B:N.Nodup){i j:Nat}{x:Str}(a:N[i]?=some x)(b:N[j]?=some x):i=j:=by
 obtain⟨h1,q⟩:=List.getElem?_eq_some_iff.mp a;obtain⟨h2,F⟩:=List.getElem?_eq_some_iff.mp b;exact(X1 B).mp (q.trans F.symm)
theorem nG{M:Model}{A:TX}{E:Value->S8->Prop}{i:Nat}{x:Str}{v:V}{u:Value}{Q:Unit->S8->Prop}(I:Inv X pins σ H s)(hN:X.N.Nodup)(hi:X.N[i]?=some x)(J:Loc X.env.scope x)(r:RelV v u)
  (h:∀s',Inv X pins (σ.set i (some v)) H s'->(∃a,UM a s.heap s'.heap/\(a=X.env.locals\/X.env.cells.lookup x=some a))->Q () s') (hf:X.fn x=true\/X.env.scope.names.lookup x=some .local:=by first|exact .inl rfl|exact .inr rfl|assumption):wpAny M A (storeName X.env x u) Q E s:=by
 obtain⟨m,hn,hl⟩:=id I.loc;have ag:(X.env.scope.kind == .class || (X.env.scope.kind == .module && X.env.locals != X.env.globals))=false:=by rw[I.ok.kind];rfl
 have aa:i<σ.length:=by rw[I.len];exact(List.getElem?_eq_some_iff.mp hi).1
 have cne:=I.cne;have F:∀ {a:Addr} {h':Heap},(∃o,s.heap.get? a=some o/\H a=none)->UM a s.heap h'->HOk X.prog X.w H h':=λ{a h'} ha hs b ob e=>by
  obtain⟨_,_,U⟩:=ha;refine(I.hok b ob e).stay (λc w' G q=>(hs.2 c ?_).trans q) (λ_ q=>q) λ_ _ q=>q
  rintro rfl;rcases G with rfl|G
  ·rw[U]at e;cases e
  ·rw[U]at G;cases G
 rcases J with Y|Y
 ·refine wpAny_storeName_local Y hn (λh' ar hs=>?_) ag
  obtain⟨oL,_,_,ap,_⟩:=id hn;refine h _ ⟨I.ok,I.os,I.bare,⟨λb o e n hb J=>?_,λb o e n hb J=>?_,I.base.free,λb o e J=>?_,I.base.tups,I.base.frzs,I.base.tbls⟩,⟨_,ar,λj y v' B W e3=>?_⟩,λy c e=>?_,I.free,I.freeC,λp hp=>?_,F ⟨oL,ap,I.free⟩ hs,by simpa using I.len⟩ ⟨_,hs,.inl rfl⟩
  ·exact(hs.2 b (T9 (U2 (TQ e) I.ok.above))).trans (I.base.keep b o e n hb J)
  ·obtain⟨sl,B⟩:=I.base.slot b o e n hb J
   exact⟨sl,(hs.2 b (T9 (U2 (TQ e) I.ok.above))).trans B⟩
  ·obtain⟨o',B⟩:=I.base.there b o e J
   exact⟨o',(hs.2 b (T9 (U2 (TQ e) I.ok.above))).trans B⟩
  ·by_cases hj:j=i
   ·subst hj
    rw[hi]at B;cases B;rw[Z3 aa]at W;cases W;exact⟨u,r,.inl ⟨Y,by simp⟩⟩
   ·rw[YS (UB hj)]at W
    obtain⟨u',r',q⟩:=hl j y v' B W e3;refine⟨u',r',?_⟩;rcases q with⟨k,e⟩|⟨k,c,e,z⟩
    ·refine .inl ⟨k,?_⟩
     have:y≠x:=λe=>hj (sF hN B (e ▸ hi))
     simp[this,e]
    ·exact .inr ⟨k,c,e,z.sameBut hs (cne y c e)⟩
  ·obtain⟨w',z⟩:=I.cell y c e
   exact⟨w',z.sameBut hs (cne y c e)⟩
  ·obtain⟨e,n,ne,nf,d⟩:=I.pin p hp
   exact⟨(hs.2 p.1 ne).trans e,n,ne,nf,d⟩
 ·have ab:X.fn x=true:=by
   rcases hf with z|z
   ·exact z
   ·rw[z]at Y;cases Y
  obtain⟨c,G⟩:=I.ok.has x (.inl Y);obtain⟨w',z⟩:=I.cell x c G;refine wpAny_storeName_cell I.ok.kind Y G z (λh' af hs=>?_);obtain⟨oc,ai,ah⟩:=id z;refine h {s with heap:=h'} ⟨I.ok,I.os,I.bare,⟨λb o e n hb J=>?_,λb o e n hb J=>?_,I.base.free,λb o e J=>?_,I.base.tups,I.base.frzs,I.base.tbls⟩,⟨m,hn.sameBut hs (UB (cne x c G)),λj y v' B W e3=>?_⟩,λy c' e=>?_,I.free,I.freeC,λp hp=>?_,F ⟨oc,ai,I.freeC x c G⟩ hs,by simpa using I.len⟩ ⟨c,hs,.inr G⟩
  ·exact(hs.2 b (T9 (U2 (TQ e) (I.ok.cab x c ab G)))).trans (I.base.keep b o e n hb J)
  ·obtain⟨sl,B⟩:=I.base.slot b o e n hb J
   exact⟨sl,(hs.2 b (T9 (U2 (TQ e) (I.ok.cab x c ab G)))).trans B⟩
  ·obtain⟨o',B⟩:=I.base.there b o e J
   exact⟨o',(hs.2 b (T9 (U2 (TQ e) (I.ok.cab x c ab G)))).trans B⟩
  ·by_cases hj:j=i
   ·subst hj
    rw[hi]at B;cases B;rw[Z3 aa]at W;cases W;exact⟨u,r,.inr ⟨.inl Y,c,G,af⟩⟩
   ·rw[YS (UB hj)]at W
    obtain⟨u',r',q⟩:=hl j y v' B W e3;refine⟨u',r',?_⟩;rcases q with q|⟨k,c',e,z'⟩
    ·exact .inl q
    ·refine .inr ⟨k,c',e,z'.sameBut hs ?_⟩
     rintro rfl;exact hj (sF hN B (I.ok.inj _ _ _ e G ▸ hi))
  ·by_cases ae:c'=c
   ·subst ae;exact⟨_,af⟩
   ·obtain⟨w2,z2⟩:=I.cell y c' e
    exact⟨w2,z2.sameBut hs ae⟩
  ·obtain⟨e,n,ne,nf,d⟩:=I.pin p hp
   refine⟨(hs.2 p.1 ?_).trans e,n,ne,nf,d⟩;intro q;rw[q,ai]at e;have q':oc=p.2:=UF e;exact d w' (by rw[<- q'];exact ah)
theorem g5(I:Inv X pins σ H s)(B:X.N.Nodup)(hi:X.N[i]?=some x)(q:Loc X.env.scope x)(r:RelV v u)
  (h:∀s',Inv X pins (σ.set i (some v)) H s'->Q () s') (G:X.fn x=true\/X.env.scope.names.lookup x=some .local:=by first|exact .inl rfl|exact .inr rfl|assumption):wpAny M A (storeName X.env x u) Q E s:=
 nG I B hi q r (λs' F _=>h s' F) G
theorem Inv.call'(I:Inv X pins σ H s)(G:s'.os=s.os)(u:Un (frs X.stack) ch H H' s.heap s'.heap)(q:HOk X.prog X.w H' s'.heap)(F:WE s'.gens)
  (B:∀b∈ch,(b∈X.ex\/X.s₀.heap.objs.size<=b)/\b≠X.env.locals/\(∀x c,X.env.cells.lookup x=some c->c≠b)/\∀p∈X.pn++pins,p.1≠b):Inv X pins σ H' s':=by
 obtain⟨h',g',d',t',o'⟩:=s';have e:o'=s.os:=G;subst e;exact I.call (g':=g') (t':=t') (d':=d') u q F B
end
abbrev XK:=Value->Option Addr->Hp->Prop
abbrev St:=List (Option V)
abbrev VK:=V->Hp->Prop
abbrev TE:=St->Hp->VK->Prop
abbrev TT:=St->Hp->(Bool->Hp->Prop)->Prop
abbrev TA:=St->Hp->(List V->Hp->Prop)->Prop
structure Ends where
 nx:St->Hp->Prop
 rt:VK
 bk:St->Hp->Prop:=λ_ _=>False
 ct:St->Hp->Prop:=λ_ _=>False
abbrev TS:=Ends->St->Hp->Prop
inductive EP(X:Cx)(pins:List (Addr×Obj))(σ:St)(Q:VK)(u:Value)(s':S8):Prop
 | mk (v:V) (H':Hp) (i:Inv X pins σ H' s') (r:RelV v u) (q:Q v H'):EP X pins σ Q u s'
inductive TP(X:Cx)(pins:List (Addr×Obj))(σ:St)(Q:Bool->Hp->Prop)(b:Bool)(s':S8):Prop
 | mk (H':Hp) (i:Inv X pins σ H' s') (q:Q b H'):TP X pins σ Q b s'
inductive AP(X:Cx)(pins:List (Addr×Obj))(σ:St)(Q:List V->Hp->Prop)(us:List Value)(s':S8):Prop
 | mk (vs:List V) (H':Hp) (i:Inv X pins σ H' s') (r:Vals vs us) (q:Q vs H'):AP X pins σ Q us s'
def SP(X:Cx)(pins:List (Addr×Obj))(D:Ends)(f:Flow)(s':S8):Prop:=
 match f with
 | .next=>∃σ' H',Inv X pins σ' H' s'/\D.nx σ' H'
 | .brk=>∃σ' H',Inv X pins σ' H' s'/\D.bk σ' H'
 | .cont=>∃σ' H',Inv X pins σ' H' s'/\D.ct σ' H'
 | .ret u=>∃v σ' H',Inv X pins σ' H' s'/\RelV v u/\D.rt v H'
def PE(X:Cx)(e:Expr)(t:TE):Prop:=
 ∀(pins:List (Addr×Obj)) (s:S8) (σ:St) (H:Hp) (Q:VK),Inv X pins σ H s->t σ H Q->wpAny (model X.prog X.w) X.A (eval e X.env) (EP X pins σ Q) X.xe s
def PT(X:Cx)(e:Expr)(t:TT):Prop:=
 ∀(pins:List (Addr×Obj)) (s:S8) (σ:St) (H:Hp) (Q:Bool->Hp->Prop),Inv X pins σ H s->t σ H Q->wpAny (model X.prog X.w) X.A (isTrue e X.env (eval e X.env)) (TP X pins σ Q) X.xe s
def PW(X:Cx)(e:Expr)(t:TT):Prop:=
 ∀(whole:Sem Value) (pins:List (Addr×Obj)) (s:S8) (σ:St) (H:Hp) (Q:Bool->Hp->Prop),Inv X pins σ H s->t σ H Q->wpAny (model X.prog X.w) X.A (isTrue e X.env whole) (TP X pins σ Q) X.xe s
theorem PW.pt{X:Cx}{e:Expr}{t:TT}(h:PW X e t):PT X e t:=h _
def PA(X:Cx)(es:List Expr)(t:TA):Prop:=
 ∀(pos:Pos) (pins:List (Addr×Obj)) (s:S8) (σ:St) (H:Hp) (Q:List V->Hp->Prop),Inv X pins σ H s->t σ H Q->wpAny (model X.prog X.w) X.A (spliced (T7 pos (TC es X.env))) (AP X pins σ Q) X.xe s
def PS(X:Cx)(st:Stmt)(t:TS):Prop:=
 ∀(pins:List (Addr×Obj)) (s:S8) (σ:St) (H:Hp) (D:Ends),Inv X pins σ H s->t D σ H->wpAny (model X.prog X.w) X.A (exec st X.env) (SP X pins D) X.xe s
def PSs(X:Cx)(st:List Stmt)(t:TS):Prop:=
 ∀(pins:List (Addr×Obj)) (s:S8) (σ:St) (H:Hp) (D:Ends),Inv X pins σ H s->t D σ H->wpAny (model X.prog X.w) X.A (execs st X.env) (SP X pins D) X.xe s
theorem a7{q:Type}{t:Sem q}{Q B:q->S8->Prop}{M:Model}{A:TX}{E:Value->S8->Prop}{s:S8}(h:wpAny M A t Q E s)(F:∀a s,Q a s->B a s):wpAny M A t B E s:=U3 h F λ_ _ x=>x
section
variable {X:Cx}
def i4(i:Nat):TE:=λσ H Q=>∃v,σ[i]?=some (some v)/\Q v H
def tC(v:V):TE:=λ_ H Q=>Q v H
theorem MK(U:X.N[i]?=some x)(W:NF X.env.scope x)(G:(x == ("__debug__" : Str))=false:=by decide)(F:(x == ("__classdict__" : Str))=false:=by decide):PE X (.Name x pos) (i4 i):=by
 intro pins s σ H Q I h;obtain⟨v,e,h⟩:=h;obtain⟨m,hn,Y⟩:=I.loc;obtain⟨u,r,l⟩:=Y i x v U e W;have fin:EP X pins σ Q u s:=⟨v,H,I,r,h⟩;rcases l with⟨B,M⟩|⟨B,c,J,q⟩
 ·exact wpAny_Name (wpAny_loadName_local I.ok.kind B hn M fin) G
 ·rcases B with B|B
  ·exact wpAny_Name (wpAny_loadName_cell I.ok.kind B J q fin) G
  ·exact wpAny_Name (wpAny_loadName_free I.ok.kind B J q fin F) G
theorem JU{i j pos}:PE X (.Constant (.int i) j pos) (tC (.int i)):=λ_ _ _ H _ I h=>wpAny_Constant_int ⟨.int i,H,I.tok _,⟨_,rfl⟩,h⟩
theorem OW{b j pos}:PE X (.Constant (.bool b) j pos) (tC (.bl b)):=λ_ _ _ H _ I h=>Constant_bool ⟨.bl b,H,I,rfl,h⟩
theorem KU{x j pos}:PE X (.Constant (.str x) j pos) (tC (.str x)):=λ_ _ _ H _ I h=>Calls.Constant_str ⟨.str x,H,I.tok _,⟨_,rfl⟩,h⟩
def Gl(X:Cx)(x:Str):Prop:=X.env.kindOf x=some .globalImplicit
theorem xE(I:Inv X pins σ H s)(q:Gl X x)(B:X.mg x=some u)(h:Q u s)
  (F:(x == ("__debug__" : Str))=false:=by decide):wpAny (model X.prog X.w) X.A (eval (.Name x pos) X.env) Q E s:=
 Calls.Name_function_global I.ok.kind q (Calls.loadGlobal_global (by rw[I.ok.glob];exact I.mod.glob.keeps I.bk) B h) F
theorem gF{E:Value->S8->Prop}{pins:List (Addr×Obj)}{s:S8}{σ:St}{H:Hp}{x:Str}{u:Value}{pos:Pos}{Q:Value->S8->Prop}(I:Inv X pins σ H s)(B:Gl X x)(q:X.mg x=none)(G:UJ x=some u)(h:Q u s)
  (J:x ≠ "__name__" := by decide) (F:(x == ("__debug__" : Str))=false:=by decide):wpAny (model X.prog X.w) X.A (eval (.Name x pos) X.env) Q E s:=by
 obtain⟨M,h1,h2⟩:=I.mod.blt;exact Calls.Name_function_global I.ok.kind B (Calls.loadGlobal_builtin (by rw[I.ok.glob];exact I.mod.glob.keeps I.bk) q (by rw[I.ok.blt];exact h1.keeps I.bk) ((h2 x J).trans G) h) F
theorem xQ(q:Gl X x)(B:X.mg x=some u)(r:RelV v u)(F:(x == ("__debug__" : Str))=false:=by decide):PE X (.Name x pos) (tC v):=
 λ_ _ _ H _ I h=>xE I q B ⟨v,H,I,r,h⟩ F
theorem GV(B:Gl X x)(q:X.mg x=none)(G:UJ x=some u)(r:RelV v u)(J:x ≠ "__name__" := by decide)(F:(x == ("__debug__" : Str))=false:=by decide):PE X (.Name x pos) (tC v):=
 λ_ _ _ H _ I h=>gF I B q G ⟨v,H,I,r,h⟩ J F
variable {a b:Expr}{ta tb:TE}{pos:Pos}
def tB(t:TE):TT:=λσ H Q=>t σ H λx H1=>∃c,x=.bl c/\Q c H1
theorem LO{e:Expr}{t:TE}(h:PE X e t)(J:∀B,isTrue e X.env B=(do let v <- B;standAt e.pos;holding [v] (truthy v)):=by intro _;rfl):PT X e (tB t):=by
 intro pins s σ H Q I hw;refine isTrue_plain (a7 (h pins s σ H _ I hw) λv N ⟨x,H1,F,M,G⟩=>?_) (J _);obtain⟨d,rfl,q⟩:=G;cases M;exact VS ⟨H1,F,q⟩
variable {tA tB':TT}{rest:List Expr}
def QV(t u:TT):TT:=λσ H Q=>t σ H λc H1=>if c=true then u σ H1 Q else Q false H1
def SX(t u:TT):TT:=λσ H Q=>t σ H λc H1=>if c=true then Q true H1 else u σ H1 Q
def Q1(t:TT):TT:=λσ H Q=>t σ H λc H1=>Q (!c) H1
theorem FN(q:PT X a tA):PW X (.BoolOp .And [a] pos) tA:=by
 intro B pins s σ H Q I h;refine isTrue_and (a7 (q pins s σ H Q I h) λc F e=>?_);cases c with
 | true=>exact isTrue_and_nil e
 | false=>exact e
theorem K7(q:PT X a tA):PW X (.BoolOp .Or [a] pos) tA:=by
 intro B pins s σ H Q I h;refine isTrue_or (a7 (q pins s σ H Q I h) λc F e=>?_);cases c with
 | false=>exact isTrue_or_nil e
 | true=>exact e
theorem JP(M:PT X a tA)(F:PW X (.BoolOp .And (b::rest) pos) tB'):PW X (.BoolOp .And (a::b::rest) pos) (QV tA tB'):=by
 intro G pins s σ H Q I h;refine isTrue_and (a7 (M pins s σ H _ I h) λc J ⟨H1,B,q⟩=>?_);cases c with
 | true=>exact F G pins J σ H1 Q B q
 | false=>exact⟨H1,B,q⟩
theorem NT(M:PT X a tA)(F:PW X (.BoolOp .Or (b::rest) pos) tB'):PW X (.BoolOp .Or (a::b::rest) pos) (SX tA tB'):=by
 intro G pins s σ H Q I h;refine isTrue_or (a7 (M pins s σ H _ I h) λc J ⟨H1,B,q⟩=>?_);cases c with
 | true=>exact⟨H1,B,q⟩
 | false=>exact F G pins J σ H1 Q B q
theorem MA(B:PT X a tA):PT X (.UnaryOp .Not a pos) (Q1 tA):=by
 intro pins s σ H Q I h;exact isTrue_not (a7 (B pins s σ H (λc H1=>Q (!c) H1) I h) λ_ _ ⟨H',i,q⟩=>⟨H',i,q⟩)
def NW(ta tb:TE):TE:=λσ H Q=>ta σ H λx H1=>∃c,x=.bl c/\if c=true then tb σ H1 Q else Q (.bl false) H1
def OT(ta:TE):TE:=λσ H Q=>ta σ H λx H1=>∃c,x=.bl c/\Q (.bl (!c)) H1
theorem MJ{op}(h:PE X a t):PE X (.BoolOp op [a] pos) t:=λpins s σ H Q I hw=>BoolOp_one (h pins s σ H Q I hw)
theorem J0(M:PE X a ta)(F:PE X (.BoolOp .And (b::rest) pos) tb):PE X (.BoolOp .And (a::b::rest) pos) (NW ta tb):=by
 intro pins s σ H Q I h;refine BoolOp_and (a7 (M pins s σ H _ I h) λv G ⟨x,H1,B,J,q⟩=>?_);obtain⟨c,rfl,q⟩:=q;cases J;refine VS ?_;cases c with
 | true=>exact F pins G σ H1 Q B q
 | false=>exact⟨.bl false,H1,B,rfl,q⟩
theorem LD(G:PE X a ta):PE X (.UnaryOp .Not a pos) (OT ta):=by
 intro pins s σ H Q I h;refine UnaryOp_ (a7 (G pins s σ H _ I h) λv J ⟨x,H1,B,F,q⟩=>?_);obtain⟨c,rfl,q⟩:=q;cases F;exact not_of (VS ⟨.bl (!c),H1,B,rfl,q⟩)
end
def SqL(K:S9)(H:Hp)(a:Addr)(xs:List V):Prop:=
 Rd H a (.lst xs) \/
  ∃(o:Obj) (its:Array Value) (n:Nat),K.lookup a=some o/\o.cls=.type "list" /\ o.dict=none/\o.data=.seq its n/\its.size<=TK/\Vals xs its.toList
def SqT(K:S9)(H:Hp)(a:Addr)(xs:List V):Prop:=
 Rd H a (.tup xs) \/
  ∃(o:Obj) (its:Array Value) (n:Nat),K.lookup a=some o/\o.cls=.type "tuple" /\ o.data=.seq its n/\its.size<=TK/\Vals xs its.toList
noncomputable def QR:Value->Option V
 | .none=>some .non
 | .bool b=>some (.bl b)
 | .int i _=>some (.int i)
 | .str x _=>some (.str x)
 | .bytes b _=>some (.byt b)
 | .float b _=>some (.flt b)
 | .ref a=>some (.ref a)
 | .type n=>some (.ty n)
 | _=>none
theorem RelV.abs(r:RelV x u):QR u=some x:=by
 cases x with
 | non=>cases r;rfl
 | bl _=>cases r;rfl
 | int _=>obtain⟨t,rfl⟩:=r;rfl
 | str _=>obtain⟨t,rfl⟩:=r;rfl
 | byt _=>obtain⟨t,rfl⟩:=r;rfl
 | flt _=>obtain⟨t,rfl⟩:=r;rfl
 | ref _=>cases r;rfl
 | ty _=>cases r;rfl
theorem RelV.inj(r:RelV x u)(q:RelV y u):x=y:=UF (r.abs.symm.trans q.abs)
theorem Vals.inj:∀ {xs ys:List V} {us:List Value},Vals xs us->Vals ys us->xs=ys
 | _,_,_,.nil,.nil=>rfl
 | _,_,_,.cons r t,.cons r' t'=>by rw[r.inj r',Vals.inj t t']
section
variable {X:Cx}{pins:List (Addr×Obj)}{σ:St}{H:Hp}{s:S8}{a:Addr}{xs ys:List V}
theorem SqL.of{K:S9}(h:H a=some (.lst xs)):SqL K H a xs:=.inl (.inl h)
theorem SqT.of{K:S9}(h:H a=some (.tup xs)):SqT K H a xs:=.inl (.inl h)
theorem Inv.list(I:Inv X pins σ H s)(h:SqL X.K H a xs):∃q:List Value,Vals xs q/\PlainL s.heap a q.toArray/\xs.length<=TK:=by
 rcases h with h|⟨o,q,n,F,B,G,hs,hz,r⟩
 ·obtain⟨z,q,n,r,e⟩:=h.ok I.hok
  exact⟨q,r,⟨_,n,e,rfl,rfl,rfl⟩,z⟩
 ·refine⟨q.toList,r,⟨o,n,I.kIn a o F,B,G,by simpa using hs⟩,?_⟩
  have e:=r.length;simp only[VF]at e
  lia
theorem Inv.tuple(I:Inv X pins σ H s)(h:SqT X.K H a xs):∃q:List Value,Vals xs q/\IsTup s.heap a q.toArray/\xs.length<=TK:=by
 rcases h with h|⟨o,q,n,F,B,hs,hz,r⟩
 ·obtain⟨z,q,r,p⟩:=h.ok I.hok
  exact⟨q,r,p.tup,z⟩
 ·refine⟨q.toList,r,⟨o,I.kIn a o F,B,n,by simpa using hs⟩,?_⟩
  have e:=r.length;simp only[VF]at e
  lia
theorem Inv.list_inj(I:Inv X pins σ H s)(h:SqL X.K H a xs)(h':SqL X.K H a ys):xs=ys:=by
 obtain⟨q,r,⟨o,n,e,_,_,d⟩,_⟩:=I.list h;obtain⟨its',F,⟨o',G,B,_,_,d'⟩,_⟩:=I.list h';rw[e]at B;cases B;rw[d]at d';injection d' with d1 _
 have:q=its':=by simpa using congrArg Array.toList d1
 subst this;exact r.inj F
theorem Inv.tuple_inj(I:Inv X pins σ H s)(h:SqT X.K H a xs)(h':SqT X.K H a ys):xs=ys:=by
 obtain⟨q,r,⟨o,e,_,n,d⟩,_⟩:=I.tuple h;obtain⟨its',F,⟨o',B,_,G,d'⟩,_⟩:=I.tuple h';rw[e]at B;cases B;rw[d]at d';injection d' with d1 _
 have:q=its':=by simpa using congrArg Array.toList d1
 subst this;exact r.inj F
end
abbrev Cx.wish(X:Cx)(E:Value->S8->Prop):Cx:={X with xe:=E}
abbrev Cx.nox(X:Cx):Cx:=X.wish λ_ _=>False
theorem Cx.Ok.wish{X:Cx}(ok:X.Ok)(E:Value->S8->Prop):(X.wish E).Ok:=
 ⟨ok.mod,ok.kind,ok.glob,ok.blt,ok.above,ok.inj,ok.has,ok.cab,ok.hd,ok.frames,ok.stk,ok.exf,ok.bs,ok.bsz,ok.noex,ok.exfs,ok.funs,ok.frf⟩
theorem Cx.Ok.unwish{X:Cx}{E:Value->S8->Prop}(ok:(X.wish E).Ok):X.Ok:=
 ⟨ok.mod,ok.kind,ok.glob,ok.blt,ok.above,ok.inj,ok.has,ok.cab,ok.hd,ok.frames,ok.stk,ok.exf,ok.bs,ok.bsz,ok.noex,ok.exfs,ok.funs,ok.frf⟩
section
variable {X:Cx}{pins:List (Addr×Obj)}{σ:St}{H:Hp}{s:S8}{E:Value->S8->Prop}
theorem Inv.wish(I:Inv X pins σ H s)(E:Value->S8->Prop):Inv (X.wish E) pins σ H s:=⟨I.ok.wish E,I.os,I.bare,I.base,I.loc,I.cell,I.free,I.freeC,I.pin,I.hok,I.len⟩
theorem Inv.unwish(I:Inv (X.wish E) pins σ H s):Inv X pins σ H s:=⟨I.ok.unwish,I.os,I.bare,I.base,I.loc,I.cell,I.free,I.freeC,I.pin,I.hok,I.len⟩
theorem SP.unwish(h:SP (X.wish E) pins D f s'):SP X pins D f s':=by
 cases f with
 | next=>obtain⟨B,H',I,q⟩:=h;exact⟨B,H',I.unwish,q⟩
 | brk=>obtain⟨B,H',I,q⟩:=h;exact⟨B,H',I.unwish,q⟩
 | cont=>obtain⟨B,H',I,q⟩:=h;exact⟨B,H',I.unwish,q⟩
 | ret u=>obtain⟨v,B,H',I,r,q⟩:=h;exact⟨v,B,H',I.unwish,r,q⟩
theorem PE.nox(h:PE X.nox e t):PE X e t:=λpins s σ H Q I hw=>
 U3 (h pins s σ H Q (I.wish _) hw) (λ_ _ ⟨v,H',B,r,q⟩=>⟨v,H',B.unwish,r,q⟩) λ_ _ z=>VT z
theorem PT.nox(h:PT X.nox e t):PT X e t:=λpins s σ H Q I hw=>
 U3 (h pins s σ H Q (I.wish _) hw) (λ_ _ ⟨H',B,q⟩=>⟨H',B.unwish,q⟩) λ_ _ z=>VT z
theorem PSs.nox{st:List Stmt}{t:TS}(h:PSs X.nox st t):PSs X st t:=λpins s σ H D I hw=>
 U3 (h pins s σ H D (I.wish _) hw) (λ_ _ q=>q.unwish) λ_ _ z=>VT z
end
section
variable {X:Cx}{st:Stmt}{rest:List Stmt}{t u:TS}{e:Expr}{te:TE}{pos:Pos}
def OC:TS:=λD σ H=>D.nx σ H
def PV(t u:TS):TS:=λD σ H=>t {D with nx:=u D} σ H
theorem xG:PSs X [] OC:=λ_ _ σ H _ I h=>YT ⟨σ,H,I,h⟩
theorem tM(h1:PS X st t)(h2:PSs X rest u):PSs X (st::rest) (PV t u):=by
 intro pins s σ H D I h;refine wpAny_execs_cons (a7 (h1 pins s σ H {D with nx:=u D} I h) λf G q=>?_);cases f with
 | next=>
  obtain⟨B,H',F,q⟩:=q;exact h2 pins G B H' D F q
 | ret v=>exact q
 | brk=>exact q
 | cont=>exact q
theorem xA(h1:PS X st t):PSs X [st] t:=by
 intro pins s σ H D I h;refine wpAny_execs_cons (a7 (h1 pins s σ H D I h) λf B q=>?_);cases f with
 | next=>exact YT q
 | ret v=>exact q
 | brk=>exact q
 | cont=>exact q
theorem Inv.quiet(I:Inv X pins σ H s):interactive X.env=false:=by simp[interactive,I.ok.kind]
def OU(te:TE):TS:=λD σ H=>te σ H λ_ H1=>D.nx σ H1
theorem wC(F:PE X e te)(hs:UD e none pos.line X.env=pure false:=by rfl):PS X (.Expr e pos) (OU te):=by
 intro pins s σ H D I h;exact wpAny_Expr_any (a7 (F pins s σ H _ I h) λv G ⟨x,H1,q,J,B⟩=>⟨σ,H1,q,B⟩) I.quiet hs
def QO(te:TE):TS:=λD σ H=>te σ H D.rt
theorem vN(F:PE X e te):PS X (.Return (some e) pos) (QO te):=by
 intro pins s σ H D I h;exact wpAny_Return_some (a7 (F pins s σ H _ I h) λv J ⟨x,H1,q,G,B⟩=>⟨x,σ,H1,q,G,B⟩)
def QW(c:TT)(t u:TS):TS:=λD σ H=>c σ H λb H1=>if b=true then t D σ H1 else u D σ H1
theorem IQ{c:Expr}{a b:List Stmt}{tc:TT}(J:PT X c tc)(M:PSs X a t)(G:PSs X b u):PS X (.If c a b pos) (QW tc t u):=by
 intro pins s σ H D I h;refine wpAny_If (a7 (J pins s σ H _ I h) λd B ⟨H1,F,q⟩=>?_);cases d with
 | true=>exact M pins B σ H1 D F q
 | false=>exact G pins B σ H1 D F q
end
abbrev TG:=V->St->Hp->(St->Hp->Prop)->Prop
abbrev ID:=List V->St->Hp->(St->Hp->Prop)->Prop
def PG(X:Cx)(q:Expr)(t:TG):Prop:=
 ∀(pins:List (Addr×Obj)) (s:S8) (σ:St) (H:Hp) (v:V) (u:Value) (Q:St->Hp->Prop),Inv X pins σ H s->RelV v u->t v σ H Q->
  wpAny (model X.prog X.w) X.A (U6 q X.env u) (λ_ s'=>∃B H',Inv X pins B H' s'/\Q B H') X.xe s
def PGs(X:Cx)(ts:List Expr)(t:ID):Prop:=
 ∀(pins:List (Addr×Obj)) (s:S8) (σ:St) (H:Hp) (vs:List V) (us:List Value) (Q:St->Hp->Prop),Inv X pins σ H s->Vals vs us->t vs σ H Q->
  wpAny (model X.prog X.w) X.A (assignInOrder ((UN ts X.env).map (·.2)) us) (λ_ s'=>∃q H',Inv X pins q H' s'/\Q q H') X.xe s
abbrev vV:=V->V->V->Hp->(Hp->Prop)->Prop
def AG(X:Cx)(t:vV):Prop:=
 ∀(pins:List (Addr×Obj)) (s:S8) (σ:St) (H:Hp) (o i v:V) (ov iv u:Value) (Q:Hp->Prop),Inv X pins σ H s->RelV o ov->RelV i iv->RelV v u->t o i v H Q->
  wpAny (model X.prog X.w) X.A (setItem ov iv u) (λ_ s'=>∃H',Inv X pins σ H' s'/\Q H') X.xe s
section
variable {X:Cx}{pos:Pos}
def eZ(i:Nat):TG:=λv σ H Q=>Q (σ.set i (some v)) H
theorem j5(B:X.N.Nodup)(hi:X.N[i]?=some x)(q:Loc X.env.scope x)(G:X.fn x=true\/X.env.scope.names.lookup x=some .local:=by first|exact .inl rfl|exact .inr rfl|assumption):PG X (.Name x pos) (eZ i):=by
 intro pins s σ H v u Q I r h;exact wpAny_assign_Name (g5 I B hi q r (λs' F=>⟨_,H,F,h⟩) G)
def Q6:ID:=λvs σ H Q=>vs=[]/\Q σ H
def DX(t:TG)(u:ID):ID:=λvs σ H Q=>∃v r,vs=v::r/\t v σ H λq H'=>u r q H' Q
theorem wW:PGs X [] Q6:=by
 intro pins s σ H vs q Q I r h;obtain⟨e,h⟩:=h;subst e;cases r;exact assignInOrder_nil ⟨σ,H,I,h⟩
theorem l9{e:Expr}{es:List Expr}{t:TG}{u:ID}(h1:PG X e t)(h2:PGs X es u)
  (hs:(UN (e::es) X.env).map (·.2)=U6 e X.env::(UN es X.env).map (·.2):=by rfl):PGs X (e::es) (DX t u):=by
 intro pins s σ H vs N Q I r h;obtain⟨v,M,G,h⟩:=h;subst G;cases r with
 | cons r rr=>
  rw[hs];refine Z4 (a7 (h1 pins s σ H _ _ _ I r h) λ_ J ⟨q,H1,B,F⟩=>?_);exact h2 pins J q H1 _ _ Q B rr F
def P4(K:S9)(n:Nat)(t:ID):TG:=λv σ H Q=>∃a xs,v=.ref a/\SqT K H a xs/\xs.length=n/\t xs σ H Q
theorem DG(M:X.calm=true)(h:PGs X es t)
  (hn:(UN es X.env).length=n:=by rfl) (q:(UN es X.env).findIdx? (·.1)=none:=by rfl):PG X (.Tuple es k pos) (P4 X.K n t):=by
 intro pins s σ H v u Q I r hw;obtain⟨a,xs,N,U,Y,hw⟩:=hw;subst N;cases r;obtain⟨W,B,G,hz⟩:=I.tuple U;refine assign_Tuple_tuple (I.ok.hd M) G (by simp[hn,<- Y,B.length]) q λh' F=>?_
 have J:Inv X pins σ H {s with heap:=h'}:=I.kept (t':=s.toks) λb o e=>F b o (T9 (TQ e)) e
 exact h pins _ σ H xs _ Q J (by simpa using B) hw
def D4(to q:TE)(t:vV):TG:=λv σ H Q=>to σ H λo H1=>q σ H1 λi H2=>t o i v H2 λB=>Q σ B
theorem qY{o i:Expr}{to F:TE}{t:vV}(U:PE X o to)(hi:PE X i F)(hs:AG X t)
  (ha:∀v, U6 (.Subscript o i pos) X.env v = (do
   let q <- holding [v] (eval o X.env);let B <- holding [v,q] (eval i X.env)
   standAt pos
   holding [v,q,B] (setItem q B v)
   release [v,q,B] []):=by intro _;rfl):PG X (.Subscript o i pos) (D4 to F t):=by
 intro pins s σ H v u Q I r h;rw[ha];refine S7 (VL (a7 (U pins s σ H _ I h) λq G ⟨x,H1,I1,r1,M⟩=>?_));refine S7 (VL (a7 (hi pins G σ H1 _ I1 M) λB s2 ⟨y,H2,I2,W,q2⟩=>?_));refine S7 (X2 (S7 (VL (a7 (hs pins s2 σ H2 x y v q B u _ I2 r1 W r q2) λ_ s3 ⟨J,N,Y⟩=>?_))));exact wpAny_release ⟨σ,J,N,Y⟩
def t7(te:TE)(g:TG):TS:=λD σ H=>te σ H λx H1=>g x σ H1 D.nx
theorem qQ{tg e:Expr}{te:TE}{g:TG}(J:PE X e te)(G:PG X tg g)(hs:V3 [tg] e pos.line X.env=pure false:=by rfl)(hw:V4 [tg] e X.env=pure none:=by rfl)
  (h1:(UN [tg] X.env).map (·.2)=[U6 tg X.env]:=by rfl):PS X (.Assign [tg] e pos) (t7 te g):=by
 intro pins s σ H D I h;refine wpAny_Assign_stores (a7 (J pins s σ H _ I h) λv M ⟨x,H1,B,N,F⟩=>?_) hs hw;rw[h1];exact a7 (G pins M σ H1 x v _ B N F) λ_ U q=>q
theorem qP{i:Nat}{x:Str}{e:Expr}{te:TE}{pos':Pos}(G:X.N.Nodup)(hi:X.N[i]?=some x)(q:Loc X.env.scope x)(J:PE X e te)(hs:UD e (some (.Name x pos')) pos.line X.env=pure false:=by rfl)(W:X.fn x=true\/X.env.scope.names.lookup x=some .local:=by first|exact .inl rfl|exact .inr rfl|assumption) :
  PS X (.Assign [.Name x pos'] e pos) (t7 te (eZ i)):=by
 intro pins s σ H D I h;refine wpAny_Assign_Name (a7 (J pins s σ H _ I h) λv Y ⟨y,H1,B,U,F⟩=>?_) hs;exact g5 B G hi q U (λs2 M=>⟨_,H1,M,F⟩) W
def Q9(i j:Nat)(ta:TA):TS:=λD σ H=>ta σ H λvs H1=>∃v w,vs=[v,w]/\D.nx ((σ.set i (some v)).set j (some w)) H1
theorem J3{i j:Nat}{x y:Str}{a b:Expr}{ta:TA}{U Y pt:Pos}{kt k2 pt2}(hc:X.calm=true)(hN:X.N.Nodup)(hi:X.N[i]?=some x)(hj:X.N[j]?=some y)(M:i≠j)
  (hx:X.env.scope.names.lookup x=some .local) (hy:X.env.scope.names.lookup y=some .local) (ha:PA X [a,b] ta)
  (hw:V4 [.Tuple [.Name x U,.Name y Y] kt pt] (.Tuple [a,b] k2 pt2) X.env=pure (some [x,y]))
  (hs:V3 [.Tuple [.Name x U,.Name y Y] kt pt] (.Tuple [a,b] k2 pt2) pos.line X.env=pure false:=by rfl) :
  PS X (.Assign [.Tuple [.Name x U,.Name y Y] kt pt] (.Tuple [a,b] k2 pt2) pos) (Q9 i j ta):=by
 intro pins s σ H D I h;rw[exec_Assign_arm];refine S7 (X2 ?_);rw[hs];refine S7 (TB ?_);rw[if_neg (by decide)];refine S7 (Tuple_ (a7 (ha _ pins s σ H _ I h) λus F ⟨vs,H1,I1,r1,J⟩=>?_));obtain⟨v,w,e1,J⟩:=J;subst e1;obtain⟨G,B,rfl,rv,aa⟩:∃G B,us=[G,B]/\RelV v G/\RelV w B:=by
  cases r1 with
  | cons p q=>
   cases q with
   | cons p' q'=>
    cases q';exact⟨_,_,rfl,p,p'⟩
 refine U7 ?_ (by show 2<=TK;decide);have I2:Inv X pins σ H1 {F with heap:=F.heap.push {cls:=.type "tuple",data:=.seq [G,B].toArray} }:=I1.kept (t':=F.toks) λb o e=>TV _ e
 rw[hw];refine S7 (TB ?_);show wpAny (model X.prog X.w) X.A (do rule "assign.swapped-stores";let items <- unpackItems (.ref F.heap.objs.size) 2 none;assignInOrder [λv=>bindName X.env y v,λv=>bindName X.env x v] items.reverse;pure Flow.next) _ _ _
 refine S7 (X3 (S7 (unpackItems_tuple (items:=#[G,B]) (I.ok.hd hc) (IsTup.new F.heap _) λh' W=>?_)));have I3:=I2.kept (h':=h') (t':=F.toks) λb o e=>W b o (T9 (TQ e)) e
 show wpAny _ _ (assignInOrder [λv=>bindName X.env y v,λv=>bindName X.env x v] [B,G] >>= λ_=>pure Flow.next) _ _ _
 refine S7 (Z4 (wpAny_bindName (g5 I3 hN hj (.inl hy) aa (λs2 I4=>?_) (.inr hy))));refine Z4 (wpAny_bindName (g5 I4 hN hi (.inl hx) rv (λs3 I5=>assignInOrder_nil (TB ?_)) (.inr hx)));rw[List.set_comm _ _ (UB M)]at I5;exact⟨_,H1,I5,J⟩
end
section
variable {X:Cx}{pos:Pos}
def JE(c:TT)(tb:TS):TS:=λD σ H=>∃W:Nat->St->Hp->Prop,(∃m,W m σ H)/\∀m σ H,W m σ H->
 c σ H λb H1=>if b=true then ∃N:St->Hp->Prop,(∀q H',N q H'->∃B,B<m/\W B q H')/\tb {D with nx:=N,ct:=N,bk:=D.nx} σ H1 else D.nx σ H1
theorem CD{c:Expr}{body:List Stmt}{tc:TT}{tb:TS}(hp:W6 (model X.prog X.w) X.A X.env X.xe)(hc:PT X c tc)(hb:PSs X body tb):PS X (.While c body [] pos) (JE tc tb):=by
 intro pins s σ H D I h;obtain⟨W,⟨m0,w0⟩,turn⟩:=h;refine wpAny_While (codeAny_whileLoop (λn s'=>∃F H',Inv X pins F H' s'/\W n F H') ?_ m0 ⟨σ,H,I,w0⟩);rintro n s1 ⟨B,H1,I1,w1⟩;refine WY hp (a7 (hc pins s1 B H1 _ I1 (turn n B H1 w1)) λb s2 ⟨H2,I2,M⟩=>?_);cases b with
 | true=>
  obtain⟨N,hN,M⟩:=M;rw[if_pos rfl];refine WY hp (a7 (hb pins s2 B H2 _ I2 M) λf s3 J=>?_);cases f with
  | next=>
   obtain⟨q,G,Y,n3⟩:=J;obtain⟨m',hm,U⟩:=hN q G n3;exact⟨m',hm,q,G,Y,U⟩
  | cont=>
   obtain⟨q,G,Y,n3⟩:=J;obtain⟨m',hm,U⟩:=hN q G n3;exact⟨m',hm,q,G,Y,U⟩
  | brk=>exact J
  | ret v=>exact J
 | false=>
  rw[if_neg TZ];exact YT ⟨B,H2,I2,M⟩
end
structure It where
 go:Nat->Hp->Prop
 yld:Nat->Hp->V->Hp->Prop
 stop:Nat->Hp->Prop
def fH(X:Cx)(pins:List (Addr×Obj))(H:Hp)(b:Addr):Prop:=
 H b=none/\b≠X.env.locals/\b∉X.fs/\(b∈X.ex\/X.s₀.heap.objs.size<=b)/\(∀x c,X.env.cells.lookup x=some c->c≠b)/\∀p∈X.pn++pins,p.1≠b
theorem Inv.fpOk(I:Inv X pins σ H s)(B:s.heap.objs.size<=b)(F:H' b=none):fH X pins H' b:=by
 refine⟨F,US (U2 I.lt B),I.nofs B,.inr (UY I.sz B),λx c e z=>?_,λp G z=>?_⟩
 ·obtain⟨v,q⟩:=I.cell x c e
  exact absurd (U2 q.lt (by rw[z];exact B)) (VR _)
 ·exact absurd (U2 (TQ (I.pin p G).1) (by rw[z];exact B)) (VR _)
structure Turn(P:TJ)(w:World)(K:S9)(tg:Expr)(J:It)(fp:List Addr)(it:Addr)(tn:Nat->Heap->Prop):Prop where
 mem:it∈fp
 obj:∀i h,tn i h->∀b∈fp,∃o,h.get? b=some o/\∀v,o.data≠.cell v
 keep:∀i h h',tn i h->(∀b∈fp,∀o,h.get? b=some o->h'.get? b=some o)->tn i h'
 item:∀(X:Cx),X.prog=P->X.w=w->X.K=K->X.calm=true->∀(i:Nat) (pins:List (Addr×Obj)) (s:S8) (σ:St) (H:Hp) (E:Value->S8->Prop),Inv X pins σ H s->(∀b∈fp,fH X pins H b)->tn i s.heap->J.go i H->
  wpAny (model P w) X.A (UW (.ref it)) (λr s1=>∃u,r=some u /\
   wpAny (model P w) X.A (YU tg (.ref it) u) (λ_ s2=>∃x H',Inv X pins σ H' s2/\RelV x u/\J.yld i H x H'/\tn (i+1) s2.heap/\∀b∈fp,H' b=none) E s1) E s
 done:∀(X:Cx),X.prog=P->X.w=w->X.K=K->X.calm=true->∀(i:Nat) (pins:List (Addr×Obj)) (s:S8) (σ:St) (H:Hp) (E:Value->S8->Prop),Inv X pins σ H s->(∀b∈fp,fH X pins H b)->tn i s.heap->J.stop i H->
  wpAny (model P w) X.A (UW (.ref it)) (λr s1=>r=none/\Inv X pins σ H s1) E s
 self:∀(A:TX) (i:Nat) (s:S8) (Q:Value->S8->Prop) (E:Value->S8->Prop),tn i s.heap->Q (.ref it) s->wpAny (model P w) A (pyIter (.ref it)) Q E s
abbrev TI:=St->Hp->(It->Hp->Prop)->Prop
def PIE(X:Cx)(pins:List (Addr×Obj))(σ:St)(tg:Expr)(R:It->Hp->Prop)(q:Value)(B:S8):Prop:=
 ∃(it:Addr) (fp:List Addr) (tn:Nat->Heap->Prop) (J:It) (H':Hp),q=.ref it/\Inv X pins σ H' B/\Turn X.prog X.w X.K tg J fp it tn/\tn 0 B.heap/\(∀b∈fp,fH X pins H' b)/\R J H'
def PI(X:Cx)(tg q:Expr)(wi:TI):Prop:=
 ∀(pins:List (Addr×Obj)) (s:S8) (σ:St) (H:Hp) (R:It->Hp->Prop),Inv X pins σ H s->wi σ H R->
  wpAny (model X.prog X.w) X.A (eval q X.env) (λv B=>wpAny (model X.prog X.w) X.A (pyIter v) (PIE X pins σ tg R) X.xe B) X.xe s
theorem mN(G:s.heap.get? it=some o)(B:o.cls=.type n)(F:o.data=.fields vs)
    (J:["enumerate", "zip", "dict_itemiterator", "dict_reverseitemiterator", "odict_iterator", "itertools.zip_longest", "itertools.pairwise"].contains n=false) (q:Q () s):wpAny M A (YU tg (.ref it) u) Q E s:=by
  unfold YU;cases tg <;> first
    | exact TB q
    | (cases u <;> first
        | exact TB q
        | (refine S7 (wpAny_load G ?_)
           rw[B,F];show wpAny M A (if(["enumerate", "zip", "dict_itemiterator", "dict_reverseitemiterator", "odict_iterator", "itertools.zip_longest", "itertools.pairwise"].contains n && vs[0]? == some (UT _))=true then _ else _) Q E s;rw[if_neg (by intro h;rw[J,Bool.false_and]at h;cases h)];exact TB q))
def R8(K:S9)(a:Addr):It:=
 ⟨λi H=>∃xs x,SqL K H a xs/\xs[i]?=some x,λi H x H'=>H'=H/\∀xs,SqL K H a xs->xs[i]?=some x,λi H=>∃xs,SqL K H a xs/\xs.length<=i⟩
def R7(K:S9)(a:Addr):It:=
 ⟨λi H=>∃xs x,SqT K H a xs/\xs[i]?=some x,λi H x H'=>H'=H/\∀xs,SqT K H a xs->xs[i]?=some x,λi H=>∃xs,SqT K H a xs/\xs.length<=i⟩
noncomputable def P8(lo:Int)(n:Nat):It:=⟨λi _=>i<n,λi H x H'=>H'=H/\x=.int (lo+i),λi _=>n<=i⟩
theorem yT{P:TJ}{w:World}{K:S9}{tg:Expr}(a it:Addr):Turn P w K tg (R8 K a) [it] it (λi h=>h.IsListIter it a i) where
 mem:=by simp
 obj:=λi h st b q=>by
  have e:b=it:=by simpa using q
  subst e;obtain⟨o,e,c,d⟩:=st;exact⟨o,e,λv z=>by rw[d]at z;cases z⟩
 keep:=λi h h' st k=>st.at λo e=>k it (by simp) o e
 item:=by
  intro X hP hw Y hc i pins s σ H E I G st M;subst hP hw Y;obtain⟨xs,x,F,W⟩:=M;obtain⟨U,N,p,hz⟩:=I.list F;obtain⟨u,hu,ru⟩:=N.get W;obtain⟨f0,f1,f2,f3,f4,J⟩:=G it (by simp);refine wpAny_pyNext_list_item st p.isList (x:=u) (by simpa using hu) λh' B sb=>?_
  have I1:Inv X pins σ H {s with heap:=h'}:=I.turned (t':=s.toks) (λb o q e=>(sb.2 b q).trans e) f0 f1 f3 f4 J;obtain⟨o,e,c,d⟩:=id B;exact⟨u,rfl,mN (s:={s with heap:=h'}) e c d (by decide) ⟨x,H,I1,ru,⟨rfl,λys hy=>by rw[I.list_inj hy F];exact W⟩,B,λb q=>(G b q).1⟩⟩
 done:=by
  intro X hP hw Y hc i pins s σ H E I G st M;subst hP hw Y;obtain⟨xs,F,W⟩:=M;obtain⟨U,N,p,hz⟩:=I.list F;obtain⟨f0,f1,f2,f3,f4,J⟩:=G it (by simp);have hl:=N.length;exact wpAny_pyNext_list_end (I.ok.hd hc) st p.isList (by simp;lia) λh' eb=>⟨rfl,I.turned (t':=s.toks) (λb o q e=>eb b o q e) f0 f1 f3 f4 J⟩
 self:=λ_ _ _ _ _ st h=>wpAny_pyIter_listiter st h
theorem u6{P:TJ}{w:World}{K:S9}{tg:Expr}(a it:Addr):Turn P w K tg (R7 K a) [it] it (λi h=>h.IsTupleIter it a i) where
 mem:=by simp
 obj:=λi h st b B=>by
  have e:b=it:=by simpa using B
  subst e;obtain⟨o,e,c,d⟩:=st;exact⟨o,e,λv z=>by rw[d]at z;cases z⟩
 keep:=λi h h' st k=>st.at λo e=>k it (by simp) o e
 item:=by
  intro X hP hw Y hc i pins s σ H E I J st N;subst hP hw Y;obtain⟨xs,x,G,W⟩:=N;obtain⟨q,U,p,hz⟩:=I.tuple G;obtain⟨u,hu,ru⟩:=U.get W;obtain⟨f0,f1,f2,f3,f4,M⟩:=J it (by simp);refine wpAny_pyNext_tuple_item st (show s.heap.IsTuple a q.toArray from p) (x:=u) (by simpa using hu) λh' F sb=>?_
  have I1:Inv X pins σ H {s with heap:=h'}:=I.turned (t':=s.toks) (λb o B e=>(sb.2 b B).trans e) f0 f1 f3 f4 M;obtain⟨o,e,c,d⟩:=id F;exact⟨u,rfl,mN (s:={s with heap:=h'}) e c d (by decide) ⟨x,H,I1,ru,⟨rfl,λys hy=>by rw[I.tuple_inj hy G];exact W⟩,F,λb B=>(J b B).1⟩⟩
 done:=by
  intro X hP hw Y hc i pins s σ H E I J st N;subst hP hw Y;obtain⟨xs,G,W⟩:=N;obtain⟨q,U,p,hz⟩:=I.tuple G;obtain⟨f0,f1,f2,f3,f4,M⟩:=J it (by simp);have hl:=U.length;exact wpAny_pyNext_tuple_end (I.ok.hd hc) st (show s.heap.IsTuple a q.toArray from p) (by simp;lia) λh' eb=>⟨rfl,I.turned (t':=s.toks) (λb o B e=>eb b o B e) f0 f1 f3 f4 M⟩
 self:=λ_ _ _ _ _ st h=>wpAny_pyIter_tupleiter st h
theorem uL{P:TJ}{w:World}{K:S9}{tg:Expr}(it:Addr)(lo:Int)(n:Nat):Turn P w K tg (P8 lo n) [it] it (λi h=>YV h it (lo+(i:Nat)*1) ((n:Int)-(i:Nat)) 1) where
 mem:=by simp
 obj:=λi h st b q=>by
  have e:b=it:=by simpa using q
  subst e;exact⟨_,st,λv z=>by
   have z':Data.fields _=Data.cell v:=z;cases z'⟩
 keep:=λi h h' st k=>k it (by simp) _ st
 item:=by
  intro X N hw J hc i pins s σ H E I F st M;subst N hw J;obtain⟨f0,Y,f2,f3,U,G⟩:=F it (by simp);have W:=Walks.range (prog:=X.prog) (w:=X.w) (I.ok.hd hc) it lo 1 n;refine W.item i s _ _ M st λv h' tk hv B kk=>?_
  obtain⟨t,rfl⟩:=hv;have I1:Inv X pins σ H {s with heap:=h',toks:=tk}:=I.turned (λb o q e=>kk b o (by simpa using q) e) f0 Y f3 U G;refine⟨_,rfl,mN (s:={s with heap:=h',toks:=tk}) (n := "range_iterator") B rfl rfl (by decide) ⟨.int (lo+i),H,I1,⟨t,?_⟩,⟨rfl,rfl⟩,B,λb q=>(F b q).1⟩⟩;rw[Int.mul_one]
 done:=by
  intro X N hw J hc i pins s σ H E I F st M;subst N hw J;obtain⟨f0,Y,f2,f3,U,G⟩:=F it (by simp);exact wpAny_pyNext_range_end (I.ok.hd hc) st (by have:n<=i:=M;lia) λh' eb=>⟨rfl,I.turned (t':=s.toks) (λb o q e=>eb b o q e) f0 Y f3 U G⟩
 self:=λ_ _ _ _ _ st h=>wpAny_pyIter_rangeiter st h
section
variable {X:Cx}{tg:Expr}
def O7(K:S9)(tl:TE):TI:=λσ H R=>tl σ H λx H1=>∃a,x=.ref a/\(∃xs,SqL K H1 a xs)/\R (R8 K a) H1
def Q8(K:S9)(tl:TE):TI:=λσ H R=>tl σ H λx H1=>∃a,x=.ref a/\(∃xs,SqT K H1 a xs)/\R (R7 K a) H1
theorem FC{l:Expr}{tl:TE}(G:PE X l tl):PI X tg l (O7 X.K tl):=by
 intro pins s σ H R I h;refine a7 (G pins s σ H _ I h) λv F ⟨x,H1,B,W,M⟩=>?_
 obtain⟨a,e,⟨xs,N⟩,q⟩:=M;subst e;cases W;obtain⟨U,Y,p,hz⟩:=B.list N;refine wpAny_pyIter_list p.isList ?_;refine⟨F.heap.objs.size,[F.heap.objs.size],_,_,H1,rfl,B.kept (t':=F.toks) λb o e=>TV _ e,yT a _,⟨_,T8 _ rfl,rfl,rfl⟩,λb J=>?_,q⟩;have e:b=F.heap.objs.size:=by simpa using J
 subst e;exact B.fpOk (TR _) (B.hok.fresh (TR _))
theorem JR{l:Expr}{tl:TE}(J:PE X l tl):PI X tg l (Q8 X.K tl):=by
 intro pins s σ H R I h;refine a7 (J pins s σ H _ I h) λv B ⟨x,H1,F,W,N⟩=>?_
 obtain⟨a,e,⟨xs,U⟩,q⟩:=N;subst e;cases W;obtain⟨G,Y,p,hz⟩:=F.tuple U;refine X4 (show B.heap.IsTuple a G.toArray from p) ?_;refine⟨B.heap.objs.size,[B.heap.objs.size],_,_,H1,rfl,F.kept (t':=B.toks) λb o e=>TV _ e,u6 a _,⟨_,T8 _ rfl,rfl,rfl⟩,λb M=>?_,q⟩;have e:b=B.heap.objs.size:=by simpa using M
 subst e;exact F.fpOk (TR _) (F.hok.fresh (TR _))
theorem tP{pins:List (Addr×Obj)}{σ:St}{H:Hp}{s:S8}{R:It->Hp->Prop}{E:Value->S8->Prop}{lo hi:Int}{t u v:Tok}{tk:Nat}(I:Inv X pins σ H s)(h1:-(2^62)<=lo)(h2:lo<2^62)(J:-(2^62)<=hi)(F:hi<2^62)
  (q:R (P8 lo (hi-lo).toNat) H):wpAny (model X.prog X.w) X.A (pyIter (.ref s.heap.objs.size)) (PIE X pins σ tg R) E {s with heap:=s.heap.push {cls:=.type "range",data:=.fields #[.int lo t,.int hi u,.int 1 v]},toks:=tk}:=by
 refine wpAny_pyIter_range (IsRange.new ..) (small_one h1 h2 J F) ?_;have B:Inv X pins σ H {s with heap:=s.heap.push {cls:=.type "range",data:=.fields #[.int lo t,.int hi u,.int 1 v]},toks:=tk}:=I.kept λb o e=>TV _ e
 refine⟨(s.heap.push {cls:=.type "range",data:=.fields #[.int lo t,.int hi u,.int 1 v]}).objs.size,[(s.heap.push {cls:=.type "range",data:=.fields #[.int lo t,.int hi u,.int 1 v]}).objs.size],_,_,H,rfl,
  B.kept (t':=tk) λb o e=>TV _ e,uL _ lo (hi-lo).toNat,?_,λb G=>?_,q⟩
 ·have M:lo+((0:Nat):Int)*1=lo:=by simp
  have N:(((hi-lo).toNat:Nat):Int)-((0:Nat):Int)=WF lo hi 1:=by rw[rangeSize_one];split <;> lia
  show YV _ _ (lo+((0:Nat):Int)*1) ((((hi-lo).toNat:Nat):Int)-((0:Nat):Int)) 1;rw[M,N];exact T8 _ rfl
 ·have e:b=(s.heap.push {cls:=.type "range",data:=.fields #[.int lo t,.int hi u,.int 1 v]}).objs.size:=by simpa using G
  subst e;exact B.fpOk (TR _) (B.hok.fresh (TR _))
def OV(ta:TA):TI:=λσ H R=>ta σ H λvs H1=>∃j:Int,vs=[.int j]/\-(2^62)<=j/\j<2^62/\R (P8 0 j.toNat) H1
def N7(ta:TA):TI:=λσ H R=>ta σ H λvs H1=>∃i j:Int,vs=[.int i,.int j]/\(-(2^62)<=i/\i<2^62/\-(2^62)<=j/\j<2^62)/\R (P8 i (j-i).toNat) H1
theorem yV{a:Expr}{ta:TA}{p pos:Pos}(G:Gl X "range")(U:X.mg "range" = none)(M:PA X [a] ta)(hs:TC [a] X.env=[(false,eval a X.env)]:=by rfl):PI X tg (.Call (.Name "range" p) [a] [] pos) (OV ta):=by
 intro pins s σ H R I h;refine Call_ (gF I G U boot_range (X5 (a7 (M pos pins s σ H _ I h) λY W ⟨vs,H1,F,N,B⟩=>?_) hs rfl));obtain⟨j,e,B,J,q⟩:=B;subst e;cases N with
 | cons r rr=>
  cases rr;obtain⟨t,rfl⟩:=r;exact call_range_1 (tP F (by lia) (by lia) B J (by simpa using q))
theorem y4{a b:Expr}{ta:TA}{p pos:Pos}(M:Gl X "range")(Y:X.mg "range" = none)(N:PA X [a,b] ta)(hs:TC [a,b] X.env=[(false,eval a X.env),(false,eval b X.env)]:=by rfl)(B:TC [b] X.env=[(false,eval b X.env)]:=by rfl) :
  PI X tg (.Call (.Name "range" p) [a,b] [] pos) (N7 ta):=by
 intro pins s σ H R I h;refine Call_ (gF I M Y boot_range (X5 (a7 (N pos pins s σ H _ I h) λus s1 ⟨vs,H1,J,W,F⟩=>?_) (by rw[hs,B]) (by rw[B];rfl)));obtain⟨i,j,e,⟨F,q2,U,G⟩,q⟩:=F;subst e;cases W with
 | cons r rr=>
  cases rr with
  | cons r' rr=>
   cases rr;obtain⟨t,rfl⟩:=r;obtain⟨t',rfl⟩:=r';exact call_range_2 (tP J F q2 U G q)
def RI(wi:TI)(g:TG)(tb:TS):TS:=λD σ H=>wi σ H λJ H1=>∃W:Nat->Nat->St->Hp->Prop,(∃m,W 0 m σ H1)/\∀i m σ H,W i m σ H->
 (J.stop i H/\D.nx σ H)\/(J.go i H/\∃N:St->Hp->Prop,(∀q H',N q H'->∃F,F<m/\W (i+1) F q H')/\∀x H',J.yld i H x H'->g x σ H' λB H2=>tb {D with nx:=N,ct:=N,bk:=D.nx} B H2)
noncomputable def mJ(fp:List Addr)(h:Heap):List (Addr×Obj):=fp.filterMap λb=>(h.get? b).map λo=>(b,o)
theorem dZ(q:b∈fp)(e:h.get? b=some o):(b,o)∈mJ fp h:=List.mem_filterMap.mpr ⟨b,q,by rw[e];rfl⟩
theorem zU(G:p∈mJ fp h):p.1∈fp/\h.get? p.1=some p.2:=by
 obtain⟨b,F,e⟩:=List.mem_filterMap.mp G;cases q:h.get? b with
 | none=>rw[q]at e;cases e
 | some o=>
  rw[q]at e;have B:(b,o)=p:=UF e;subst B;exact⟨F,q⟩
theorem Inv.pinned(I:Inv X pins σ H s)(N:∀b∈fp,fH X pins H b)(M:∀b∈fp,∃o,s.heap.get? b=some o/\∀v,o.data≠.cell v):Inv X (pins++mJ fp s.heap) σ H s:=
 I.pins_of λp J=>(List.mem_append.mp J).elim (λz=>I.pin p (VU _ z)) λz=>by
  obtain⟨q,e⟩:=zU z;obtain⟨f0,F,G,_⟩:=N p.1 q;obtain⟨o,B,d⟩:=M p.1 q;rw[e]at B;cases B;exact⟨e,f0,F,G,d⟩
theorem Inv.unpinned(I:Inv X (pins++pl) σ H s):Inv X pins σ H s:=I.pins_of λp q=>I.pin p (VU _ (W5 _ q))
theorem JK{G:Expr}{body:List Stmt}{wi:TI}{g:TG}{tb:TS}{pos:Pos}(hp:W6 (model X.prog X.w) X.A X.env X.xe)(hc:X.calm=true)(hi:PI X tg G wi)(hg:PG X tg g)(hb:PSs X body tb)
  (hs:∀x,VC G X.env x=pure x:=by intro _;rfl):PS X (.For tg G body [] pos) (RI wi g tb):=by
 intro pins s σ H D I h;refine wpAny_For (a7 (hi pins s σ H _ I h) λv s1 h1=>a7 h1 λbg s2 h2=>?_) hs;obtain⟨it,fp,tn,J,H2,e,I2,T,am,f2,W,⟨m0,w0⟩,turn⟩:=h2;subst e
 -- what stays true of the iterator's objects through the loop
 have M:∀ {H':Hp},(∀b∈fp,H' b=none)->∀b∈fp,fH X pins H' b:=λhn b hb=>⟨hn b hb,(f2 b hb).2⟩
 refine codeAny_forLoop_any (λn s'=>∃i B H',Inv X pins B H' s'/\tn i s'.heap/\(∀b∈fp,H' b=none)/\W i n B H') ?_ m0 ⟨0,σ,H2,I2,am,λb hb=>(f2 b hb).1,w0⟩;rintro n s3 ⟨i,F,H3,I3,ag,af,w3⟩;rcases turn i n F H3 w3 with⟨ah,qn⟩|⟨go,N,hN,step⟩
 ·refine WY hp (a7 (T.done X rfl rfl rfl hc i pins s3 F H3 X.xe I3 (M af) ag ah) λr s4 ⟨hr,I4⟩=>?_)
  subst hr;exact YT ⟨F,H3,I4,qn⟩
 ·refine WY hp (a7 (T.item X rfl rfl rfl hc i pins s3 F H3 X.xe I3 (M af) ag go) λr s4 ⟨u,hr,h4⟩=>?_)
  subst hr;refine WY hp (a7 h4 λ_ s5 ⟨x,H5,I5,r5,y5,ad,al⟩=>?_);have ao:=I5.pinned (M al) (T.obj _ _ ad);refine WY hp (a7 (hg _ s5 F H5 x u _ ao r5 (step x H5 y5)) λ_ s6 ⟨an,H6,I6,q6⟩=>?_);refine WY hp (a7 (hb _ s6 an H6 _ I6 q6) λf s7 q7=>?_);have ab:∀ {q:St} {U:Hp},Inv X (pins++mJ fp s5.heap) q U s7->N q U->∃m,m<n/\∃i B H',Inv X pins B H' s7/\tn i s7.heap/\(∀b∈fp,H' b=none)/\W i m B H':=λ{q U} Y n7=>by
   obtain⟨m',hm,w7⟩:=hN q U n7;refine⟨m',hm,i+1,q,U,Y.unpinned,T.keep _ _ _ ad λb hb o e=>(Y.pin (b,o) (VU _ (VU _ (dZ hb e)))).1,λb hb=>?_,w7⟩;obtain⟨o,e,d⟩:=T.obj _ _ ad b hb;exact(Y.pin (b,o) (VU _ (VU _ (dZ hb e)))).2.1
  cases f with
  | next=>obtain⟨q,U,Y,n7⟩:=q7;exact ab Y n7
  | cont=>obtain⟨q,U,Y,n7⟩:=q7;exact ab Y n7
  | brk=>obtain⟨q,U,Y,q7⟩:=q7;exact⟨q,U,Y.unpinned,q7⟩
  | ret v=>obtain⟨x7,q,U,Y,r7,q7⟩:=q7;exact⟨x7,q,U,Y.unpinned,r7,q7⟩
end
abbrev R2:=V->V->Hp->VK->Prop
def OpR(X:Cx)(f:Value->Value->Sem Value)(r:R2):Prop:=
 ∀(pins:List (Addr×Obj)) (s:S8) (σ:St) (H:Hp) (x y:V) (v u:Value) (Q:VK),Inv X pins σ H s->RelV x v->RelV y u->r x y H Q->
  wpAny (model X.prog X.w) X.A (f v u) (EP X pins σ Q) X.xe s
def RY(X:Cx)(f:Value->Sem Value)(r:V->Hp->VK->Prop):Prop:=
 ∀(pins:List (Addr×Obj)) (s:S8) (σ:St) (H:Hp) (x:V) (v:Value) (Q:VK),Inv X pins σ H s->RelV x v->r x H Q->
  wpAny (model X.prog X.w) X.A (f v) (EP X pins σ Q) X.xe s
def CallR(X:Cx)(f:Value)(r:List V->Hp->VK->Prop):Prop:=
 ∀(pins:List (Addr×Obj)) (s:S8) (σ:St) (H:Hp) (xs:List V) (us:List Value) (Q:VK),Inv X pins σ H s->Vals xs us->r xs H Q->
  wpAny (model X.prog X.w) X.A (call f us) (EP X pins σ Q) X.xe s
def NS(r:R2)(ta tb:TE):TE:=λσ H Q=>ta σ H λx H1=>tb σ H1 λy H2=>r x y H2 Q
def S1(r:V->Hp->VK->Prop)(ta:TE):TE:=λσ H Q=>ta σ H λx H1=>r x H1 Q
def rI(C:Int->Int->Prop)(g:Int->Int->V):R2:=λx y H Q=>∃i j,x=.int i/\y=.int j/\C i j/\Q (g i j) H
def EJ(g:Int->Int->V):R2:=λx y H Q=>∃i j,x=.int i/\y=.int j/\Q (g i j) H
def rU(g:Int->V):V->Hp->VK->Prop:=λx H Q=>∃i,x=.int i/\Q (g i) H
section
variable {X:Cx}{a b c:Expr}{ta tb tc:TE}{pos:Pos}
theorem NE(U:PE X a ta)(G:PE X b tb){pins:List (Addr×Obj)}{s:S8}{σ:St}{H:Hp}{R:V->V->Hp->Prop}(I:Inv X pins σ H s)
  (h:ta σ H λx H1=>tb σ H1 λy H2=>R x y H2) {Q:Value->S8->Prop} {f:Value->Value->Sem Value}
  (W:∀v u F x y H2,Inv X pins σ H2 F->RelV x v->RelV y u->R x y H2->wpAny (model X.prog X.w) X.A (f v u) Q X.xe F) :
  wpAny (model X.prog X.w) X.A (eval a X.env) (λv B=>wpAny (model X.prog X.w) X.A (eval b X.env) (λu q=>wpAny (model X.prog X.w) X.A (f v u) Q X.xe q) X.xe B) X.xe s:=by
 refine a7 (U pins s σ H _ I h) λv Y ⟨x,H1,J,r1,M⟩=>?_
 refine a7 (G pins Y σ H1 _ J M) λu F ⟨y,H2,I2,N,q2⟩=>?_
 exact W v u F x y H2 I2 r1 N q2
theorem IM{op:Operator}{r:R2}(N:OpR X (UP op) r)(U:PE X a ta)(F:PE X b tb):PE X (.BinOp a op b pos) (NS r ta tb):=by
 intro pins s σ H Q I h;exact wpAny_BinOp (NE U F I h λv u M x y H2 J B G q=>N pins M σ H2 x y v u Q J B G q)
theorem N0{op:UnaryOp}{r:V->Hp->VK->Prop}(F:RY X (unaryOp op) r)(M:PE X a ta):PE X (.UnaryOp op a pos) (S1 r ta):=by
 intro pins s σ H Q I h;exact UnaryOp_ (a7 (M pins s σ H _ I h) λv G ⟨x,H1,q,J,B⟩=>F pins G σ H1 x v Q q J B)
theorem QE{f:Value->Value->Sem Value}{C:Int->Int->Prop}{g:Int->Int->Int}
  (B:∀(i j:Int) (t u:Tok) (s:S8) (Q:Value->S8->Prop) (E:Value->S8->Prop),C i j->Q (.int (g i j) s.toks) {s with toks:=s.toks+1}->wpAny (model X.prog X.w) X.A (f (.int i t) (.int j u)) Q E s) :
  OpR X f (rI C λi j=>.int (g i j)):=by
 intro pins s σ H x y v u Q I G J h;obtain⟨i,j,rfl,rfl,F,q⟩:=h;obtain⟨t,rfl⟩:=G;obtain⟨t',rfl⟩:=J;exact B i j t t' s _ _ F ⟨.int (g i j),H,I.tok _,⟨_,rfl⟩,q⟩
theorem PL{f:Value->Value->Sem Value}{g:Int->Int->Int}
  (B:∀(i j:Int) (t u:Tok) (s:S8) (Q:Value->S8->Prop) (E:Value->S8->Prop),Q (.int (g i j) s.toks) {s with toks:=s.toks+1}->wpAny (model X.prog X.w) X.A (f (.int i t) (.int j u)) Q E s) :
  OpR X f (EJ λi j=>.int (g i j)):=by
 intro pins s σ H x y v u Q I F G h;obtain⟨i,j,rfl,rfl,q⟩:=h;obtain⟨t,rfl⟩:=F;obtain⟨t',rfl⟩:=G;exact B i j t t' s _ _ ⟨.int (g i j),H,I.tok _,⟨_,rfl⟩,q⟩
theorem HX{f:Value->Value->Sem Value}{g:Int->Int->Bool}
  (B:∀(i j:Int) (t u:Tok) (s:S8) (Q:Value->S8->Prop) (E:Value->S8->Prop),Q (.bool (g i j)) s->wpAny (model X.prog X.w) X.A (f (.int i t) (.int j u)) Q E s) :
  OpR X f (EJ λi j=>.bl (g i j)):=by
 intro pins s σ H x y v u Q I F G h;obtain⟨i,j,rfl,rfl,q⟩:=h;obtain⟨t,rfl⟩:=F;obtain⟨t',rfl⟩:=G;exact B i j t t' s _ _ ⟨.bl (g i j),H,I,rfl,q⟩
def HV(i j:Int):Prop:=0<j/\j<1073741824
def IA(i j:Int):Prop:=0<=j/\j<=1000000/\i.natAbs<2^64
theorem LS:OpR X (UP .Add) (EJ λi j=>.int (i+j)):=PL λ_ _ _ _ _ _ _ q=>add_int q
theorem JW:OpR X (UP .Sub) (EJ λi j=>.int (i-j)):=PL λ_ _ _ _ _ _ _ q=>sub_int q
theorem G2:OpR X (UP .FloorDiv) (rI HV λi j=>.int (i/j)):=QE λi j _ _ _ _ _ B q=>by
 have h1:(0:Int)<j:=B.1;have h2:j<1073741824:=B.2;exact floordiv_int (by lia) (by rw[Int.fdiv_eq_ediv_of_nonneg i (by lia)];exact q) (.inl (PyProof.noPylong_small (by lia)))
theorem MN:OpR X (UP .Mod) (rI (λ_ j=>0<j) λi j=>.int (i%j)):=QE λi j _ _ _ _ _ B q=>by
 have h1:(0:Int)<j:=B;exact mod_int' (by lia) (by rw[Int.fmod_eq_emod_of_nonneg i (by lia)];exact q)
theorem KG:OpR X (UP .Pow) (rI IA λi j=>.int (i^j.toNat)):=QE λ_ _ _ _ _ _ _ B q=>pow_int_small B.1 B.2.1 B.2.2 q
theorem SV{f:Value->Sem Value}{g:Int->Int}
  (B:∀(i:Int) (t:Tok) (s:S8) (Q:Value->S8->Prop) (E:Value->S8->Prop),Q (.int (g i) s.toks) {s with toks:=s.toks+1}->wpAny (model X.prog X.w) X.A (f (.int i t)) Q E s) :
  RY X f (rU λi=>.int (g i)):=by
 intro pins s σ H x v Q I F h;obtain⟨i,rfl,q⟩:=h;obtain⟨t,rfl⟩:=F;exact B i t s _ _ ⟨.int (g i),H,I.tok _,⟨_,rfl⟩,q⟩
theorem MF:RY X (unaryOp .USub) (rU λi=>.int (-i)):=SV λ_ _ _ _ _ q=>neg_int q
end
noncomputable def M4:V->V->Bool
 | .non,.non=>true | .non,.int _=>true | .int _,.non=>true | .non,.bl _=>true | .bl _,.non=>true | .non,.str _=>true | .str _,.non=>true
 | .int _,.int _=>true | .bl _,.bl _=>true | .str _,.str _=>true | .byt _,.byt _=>true
 | .int _,.str _=>true | .str _,.int _=>true | .bl _,.str _=>true | .str _,.bl _=>true
 | _,_=>false
def SM:R2:=λx y H Q=>M4 x y=true/\Q (.bl (decide (x=y))) H
def SY:R2:=λx y H Q=>M4 x y=true/\Q (.bl (!decide (x=y))) H
theorem wM:decide (V.int i=V.int j)=(i == j):=by
 rw[W7];simp
theorem DJ:decide (V.bl i=V.bl j)=(i == j):=by
 rw[W7];simp
theorem xI:decide (V.str i=V.str j)=(i == j):=by
 rw[W7];simp
theorem wG:decide (V.byt i=V.byt j)=(i.toList == j.toList):=by
 rw[W7];cases i;cases j;simp
section
variable {X:Cx}{a b c:Expr}{ta tb tc:TE}{pos:Pos}
theorem aT(I:Inv X pins σ H s)(q:Q (.bl k) H)(e:k=k'):EP X pins σ Q (.bool k') s:=by
 subst e;exact⟨.bl k,H,I,rfl,q⟩
theorem N1:OpR X (TY .Eq) SM:=by
 intro pins s σ H x y v u Q I F B h;obtain⟨hs,q⟩:=h;cases x with
 | non=>
  cases F;cases y with
  | non=>cases B;exact PySem.EqNone.eq_none_none (aT I q (by simp))
  | bl j=>cases B;exact PySem.EqNone.eq_none_bool (aT I q (by simp))
  | int j=>obtain⟨t',rfl⟩:=B;exact PySem.EqNone.eq_none_int (aT I q (by simp))
  | str j=>obtain⟨t',rfl⟩:=B;exact PySem.EqNone.eq_none_str (aT I q (by simp))
  | _=>exact absurd (show false=true from hs) TZ
 | bl i=>
  cases F;cases y with
  | non=>cases B;exact PySem.EqNone.eq_bool_none (aT I q (by simp))
  | bl j=>cases B;exact eq_bool (aT I q DJ)
  | str j=>obtain⟨t',rfl⟩:=B;exact PySem.EqMixed.eq_bool_str (aT I q (by simp))
  | _=>exact absurd (show false=true from hs) TZ
 | int i=>
  obtain⟨t,rfl⟩:=F;cases y with
  | non=>cases B;exact PySem.EqNone.eq_int_none (aT I q (by simp))
  | int j=>obtain⟨t',rfl⟩:=B;exact eq_int (aT I q wM)
  | str j=>obtain⟨t',rfl⟩:=B;exact PySem.EqMixed.eq_int_str (aT I q (by simp))
  | _=>exact absurd (show false=true from hs) TZ
 | str i=>
  obtain⟨t,rfl⟩:=F;cases y with
  | non=>cases B;exact PySem.EqNone.eq_str_none (aT I q (by simp))
  | bl j=>cases B;exact PySem.EqMixed.eq_str_bool (aT I q (by simp))
  | int j=>obtain⟨t',rfl⟩:=B;exact PySem.EqMixed.eq_str_int (aT I q (by simp))
  | str j=>obtain⟨t',rfl⟩:=B;exact eq_str (aT I q xI)
  | _=>exact absurd (show false=true from hs) TZ
 | byt i=>
  obtain⟨t,rfl⟩:=F;cases y with
  | byt j=>obtain⟨t',rfl⟩:=B;exact PySem.W.eq_bytes (aT I q wG)
  | _=>exact absurd (show false=true from hs) TZ
 | _=>cases y <;> exact absurd (show false=true from hs) TZ
theorem N3:OpR X (TY .NotEq) SY:=by
 intro pins s σ H x y v u Q I F B h;obtain⟨hs,q⟩:=h;cases x with
 | non=>
  cases F;cases y with
  | non=>cases B;exact PySem.EqNone.ne_none_none (aT I q (by simp))
  | bl j=>cases B;exact PySem.EqNone.ne_none_bool (aT I q (by simp))
  | int j=>obtain⟨t',rfl⟩:=B;exact PySem.EqNone.ne_none_int (aT I q (by simp))
  | str j=>obtain⟨t',rfl⟩:=B;exact PySem.EqNone.ne_none_str (aT I q (by simp))
  | _=>exact absurd (show false=true from hs) TZ
 | bl i=>
  cases F;cases y with
  | non=>cases B;exact PySem.EqNone.ne_bool_none (aT I q (by simp))
  | bl j=>cases B;exact ne_bool (aT I q (congrArg not DJ))
  | str j=>obtain⟨t',rfl⟩:=B;exact PySem.EqMixed.ne_bool_str (aT I q (by simp))
  | _=>exact absurd (show false=true from hs) TZ
 | int i=>
  obtain⟨t,rfl⟩:=F;cases y with
  | non=>cases B;exact PySem.EqNone.ne_int_none (aT I q (by simp))
  | int j=>obtain⟨t',rfl⟩:=B;exact ne_int (aT I q (congrArg not wM))
  | str j=>obtain⟨t',rfl⟩:=B;exact PySem.EqMixed.ne_int_str (aT I q (by simp))
  | _=>exact absurd (show false=true from hs) TZ
 | str i=>
  obtain⟨t,rfl⟩:=F;cases y with
  | non=>cases B;exact PySem.EqNone.ne_str_none (aT I q (by simp))
  | bl j=>cases B;exact PySem.EqMixed.ne_str_bool (aT I q (by simp))
  | int j=>obtain⟨t',rfl⟩:=B;exact PySem.EqMixed.ne_str_int (aT I q (by simp))
  | str j=>obtain⟨t',rfl⟩:=B;exact ne_str (aT I q (congrArg not xI))
  | _=>exact absurd (show false=true from hs) TZ
 | byt i=>
  obtain⟨t,rfl⟩:=F;cases y with
  | byt j=>obtain⟨t',rfl⟩:=B;exact PySem.W.ne_bytes (aT I q (congrArg not wG))
  | _=>exact absurd (show false=true from hs) TZ
 | _=>cases y <;> exact absurd (show false=true from hs) TZ
theorem OB:OpR X (TY .Lt) (EJ λi j=>.bl (decide (i<j))):=HX λ_ _ _ _ _ _ _ q=>lt_int q
theorem NU:OpR X (TY .LtE) (EJ λi j=>.bl (decide (i<=j))):=HX λ_ _ _ _ _ _ _ q=>le_int q
theorem OY:OpR X (TY .Gt) (EJ λi j=>.bl (decide (j<i))):=HX λ_ _ _ _ _ _ _ q=>gt_int q
theorem O8:OpR X (TY .GtE) (EJ λi j=>.bl (decide (j<=i))):=HX λ_ _ _ _ _ _ _ q=>ge_int q
theorem zE:OpR X (TY .In) (λx y H Q=>∃i j,x=.str i/\y=.str j/\Q (.bl (!(YW j i 0 j.length 1).isEmpty)) H):=by
 intro pins s σ H x y v u Q I B F h;obtain⟨i,j,rfl,rfl,q⟩:=h;obtain⟨t,rfl⟩:=B;obtain⟨t',rfl⟩:=F;exact in_str (aT I q rfl)
theorem OpR.or(h:OpR X f r)(h':OpR X f r'):OpR X f (λx y H Q=>r x y H Q\/r' x y H Q):=by
 intro pins s σ H x y v u Q I B F q;rcases q with q|q
 ·exact h pins s σ H x y v u Q I B F q
 ·exact h' pins s σ H x y v u Q I B F q
theorem CN(b:Expr)(h:op≠.In:=by decide)(h2:op≠.NotIn:=by decide):WG op b=false:=by
 have q:(op == CmpOp.In)=false:=by cases op <;> first|rfl|exact absurd rfl h
 have B:(op == CmpOp.NotIn)=false:=by cases op <;> first|rfl|exact absurd rfl h2
 cases b <;> simp[WG,q,B]
theorem E3(N:OpR X (TY op) r)(W:PE X a ta)(F:PE X b tb)(U:WG op b=false):PE X (.Compare a [op] [b] pos) (NS r ta tb):=by
 intro pins s σ H Q I h;exact wpAny_Compare1 (NE W F I h λv u M x y H2 J B G q=>N pins M σ H2 x y v u Q J B G q) U
def DZ(t:TE):TT:=λσ H Q=>t σ H λx H'=>∃k,x=.bl k/\Q k H'
theorem w9{op:CmpOp}{r:R2}(ho:OpR X (TY op) r)(W:PE X a ta)(q:PE X b tb)(hm:WG op b=false):PT X (.Compare a [op] [b] pos) (DZ (NS r ta tb)):=by
 intro pins s σ H Q I h;refine wpAny_isTrue_Compare1 (a7 (W pins s σ H _ I h) λv s1 ⟨x,H1,F,U,G⟩=>a7 (q pins s1 σ H1 _ F G) λu s2 ⟨y,H2,Y,N,q2⟩=>
  a7 (ho pins s2 σ H2 x y v u _ Y U N q2) λc s3 ⟨z,B,M,J,k,e,q3⟩=>?_) hm
 subst e;cases J;exact VS ⟨B,M,q3⟩
def vL(r G:R2)(ta tb tc:TE):TE:=λσ H Q=>ta σ H λx H1=>tb σ H1 λy H2=>r x y H2 λz q=>∃k,z=.bl k /\
 (if k=true then tc σ q λB F=>G y B F Q else Q (.bl false) q)
theorem A5{op q:CmpOp}{r G:R2}(Y:OpR X (TY op) r)(B:OpR X (TY q) G)(ha:PE X a ta)(hb:PE X b tb)(hc:PE X c tc)
  (hm:W8 [op,q] [b,c]=false:=by with_unfolding_all rfl):PE X (.Compare a [op,q] [b,c] pos) (vL r G ta tb tc):=by
 intro pins s σ H Q I h;refine Compare_chain (a7 (ha pins s σ H _ I h) λv s1 ⟨x,H1,I1,r1,W⟩=>chain_link (a7 (hb pins s1 σ H1 _ I1 W) λu s2 ⟨y,H2,I2,J,q2⟩=>
  a7 (Y pins s2 σ H2 x y v u _ I2 r1 J q2) λd s3 ⟨z,M,F,r3,k,e,N⟩=>?_)) hm
 subst e;cases r3;refine VS ?_;cases k with
 | false=>exact ite_ff ⟨.bl false,M,F,rfl,N⟩
 | true=>exact ite_tt (chain_last (a7 (hc pins s3 σ M _ F N) λw' s4 ⟨z',H4,U,r4,q4⟩=>B pins s4 σ H4 y z' u w' Q U J r4 q4))
theorem B5{op q:CmpOp}{r G:R2}(ho:OpR X (TY op) r)(B:OpR X (TY q) G)(ha:PE X a ta)(hb:PE X b tb)(hc:PE X c tc)
  (hm:W8 [op,q] [b,c]=false:=by with_unfolding_all rfl):PT X (.Compare a [op,q] [b,c] pos) (DZ (vL r G ta tb tc)):=by
 intro pins s σ H Q I h;refine isTrue_chain (a7 (ha pins s σ H _ I h) λv s1 ⟨x,H1,I1,r1,W⟩=>test_link (a7 (hb pins s1 σ H1 _ I1 W) λu s2 ⟨y,H2,I2,J,q2⟩=>
  a7 (ho pins s2 σ H2 x y v u _ I2 r1 J q2) λd s3 ⟨z,M,F,r3,k,e,N⟩=>?_)) hm
 subst e;cases r3;refine VS ?_;cases k with
 | false=>
  obtain⟨k',e',q'⟩:=N;cases e';exact ite_ff ⟨M,F,q'⟩
 | true=>
  refine ite_tt (test_last (a7 (hc pins s3 σ M _ F N) λw' s4 ⟨z',H4,U,r4,q4⟩=>a7 (B pins s4 σ H4 y z' u w' _ U J r4 q4) λd' s5 ⟨z2,H5,I5,r5,k2,Y,q5⟩=>?_));subst Y;cases r5;exact VS ⟨H5,I5,q5⟩
theorem mH:(TK:Nat)<2^63:=by rw[WH];decide
theorem uY:OpR X (UP .Add) (λx y H Q=>∃i j,x=.str i/\y=.str j/\i.length+j.length<=TK/\Q (.str (i++j)) H):=by
 intro pins s σ H x y v u Q I B F h;obtain⟨i,j,rfl,rfl,hz,q⟩:=h;obtain⟨t,rfl⟩:=B;obtain⟨t',rfl⟩:=F;exact add_str (λt' tk=>⟨.str (i++j),H,I.tok _,⟨_,rfl⟩,q⟩) hz
theorem vals1(r:Vals [x] us):∃u,us=[u]/\RelV x u:=by
 cases r with
 | cons r1 r2=>cases r2;exact⟨_,rfl,r1⟩
theorem vals2(r:Vals [x,y] us):∃u q,us=[u,q]/\RelV x u/\RelV y q:=by
 cases r with
 | cons r1 r2=>
  cases r2 with
  | cons r3 r4=>cases r4;exact⟨_,_,rfl,r1,r3⟩
theorem zC:CallR X (.type "int") (λxs H Q=>(∃i,xs=[.int i]/\Q (.int i) H)\/∃k,xs=[.bl k]/\Q (.int (if k then 1 else 0)) H):=by
 intro pins s σ H xs F Q I r h;rcases h with⟨i,rfl,q⟩|⟨k,rfl,q⟩
 ·obtain⟨u,rfl,t,rfl⟩:=vals1 r
  exact call_int_int ⟨.int i,H,I,⟨_,rfl⟩,q⟩
 ·obtain⟨u,rfl,B⟩:=vals1 r
  cases B;exact call_int_bool ⟨.int (if k then 1 else 0),H,I.tok _,⟨_,rfl⟩,q⟩
def QT(K:S9)(x:V)(H:Hp)(n:Nat):Prop:=
 match x with
 | .str y=>y.length<=TK/\n=y.length
 | .byt y=>y.size<=TK/\n=y.size
 | .ref p=>(∃xs,SqL K H p xs/\n=xs.length)\/∃xs,SqT K H p xs/\n=xs.length
 | _=>False
theorem l6:CallR X (.builtin "len") (λxs H Q=>∃x n,xs=[x]/\QT X.K x H n/\Q (.int n) H):=by
 intro pins s σ H xs us Q I r h;obtain⟨x,n,rfl,e,q⟩:=h;obtain⟨u,rfl,J⟩:=vals1 r;have hl:=mH;have hs:TK=16777216:=WH;cases x with
 | str y=>
  obtain⟨t,rfl⟩:=J;obtain⟨Y,F⟩:y.length<=TK/\n=y.length:=e;subst F;exact len_str (by lia) ⟨.int _,H,I.tok _,⟨_,rfl⟩,q⟩
 | byt y=>
  obtain⟨t,rfl⟩:=J;obtain⟨Y,F⟩:y.size<=TK/\n=y.size:=e;subst F;exact PySem.W.len_bytes (by lia) ⟨.int _,H,I.tok _,⟨_,rfl⟩,q⟩
 | ref p=>
  cases J;have F:(∃xs,SqL X.K H p xs/\n=xs.length)\/∃xs,SqT X.K H p xs/\n=xs.length:=e;rcases F with⟨xs,G,F⟩|⟨xs,G,F⟩
  ·subst F
   obtain⟨N,U,M,hz⟩:=I.list G;have B:=U.length;exact Calls.call_len_list M.isList (by simp only[T3];lia) ⟨.int xs.length,H,I.tok _,⟨_,by simp only[T3];rw[B]⟩,q⟩
  ·subst F
   obtain⟨N,U,M,hz⟩:=I.tuple G;have B:=U.length;exact len_tuple M (by simp only[T3];lia) ⟨.int xs.length,H,I.tok _,⟨_,by simp only[T3];rw[B]⟩,q⟩
 | _=>exact(show False from e).elim
end
structure ObjM(h:Heap)(x dx C:Addr)(mA:Str->Option Value):Prop where
 obj:h.get? x=some (Z0 C dx)
 ns:h.Ns1 dx mA
 ne:dx≠x
theorem zQ{h:Heap}{dx:Addr}{mA:Str->Option Value}(n:h.Ns1 dx mA):∃od,h.get? dx=some od/\∀name,PySem.W.lookIn name od=some (mA name):=by
 obtain⟨o,es,ep,N,J,M,_,U⟩:=n;refine⟨o,N,λname=>?_⟩;have e:=U name;unfold nsFind findBy at e;rw[<- Array.find?_toList]at e;unfold PySem.W.lookIn;rw[J];dsimp only;split
 ·rename_i y q
  rw[q]at e;exact congrArg some e
 ·rename_i q
  rw[q]at e;have a:es.toList.any (·.refKey)=false:=by
   rw[List.any_eq_false];intro y G;obtain⟨z,t,B⟩:=M y (Array.mem_toList_iff.mp G);simp[DictEntry.refKey,B]
  have F:¬ es.toList.any (·.refKey)=true:=by rw[a];exact TZ
  rw[if_neg F];exact congrArg some e
theorem ObjM.look(I:ObjM h x dx C mA):∃od,PySem.W.InstAt h x (Z0 C dx) C (some od)/\∀name,PySem.W.lookIn name od=some (mA name):=
 let ⟨od,ho,hl⟩:=zQ I.ns
 ⟨od,⟨I.obj,rfl,rfl,ho⟩,hl⟩
section
variable {prog:TJ}{w:World}{A:TX}{E:Value->S8->Prop}{s:S8}{K:S9}{x dx C f:Addr}{mA:Str->Option Value}{name:Str}{v:Value}
end
theorem RelO.some_of(r:RelO (some v) o):∃u,o=some u/\RelV v u:=by
 cases o with
 | none=>exact(show False from r).elim
 | some u=>exact⟨u,rfl,r⟩
section
variable {P:TJ}{w:World}{H H':Hp}{h h':Heap}{a C dx:Addr}{fs fs':List (Str×V)}
theorem HB(B:HOk P w H h)(e:H a=some (.ins C dx fs)):∃mA,ObjM h a dx C mA/\(∀f,RelO (fs.lookup f) (mA f))/\PySem.Within mA (fs.map (·.1))/\fs.length<=1000/\H dx=some (.own a):=by
 obtain⟨d,z,ne,F,mA,n,r,q⟩:=(show ObjOk P w H h a (.ins C dx fs)from B a _ e);exact⟨mA,⟨F,n,ne⟩,r,q,z,d⟩
end
structure Cls(K:S9)(C:Addr):Prop where
 pg:PySem.W.plainGet K C Str.empty=true
 hd:PySem.W.hasDictIn K C=true
 po:PySem.W.plainOver K C=true
 sa:PySem.W.findIn K (.ref C) "__setattr__" = some (some (.builtin "object.__setattr__"))
theorem Cls.get{K:S9}{C:Addr}(c:Cls K C)(f:Str):PySem.W.plainGet K C f=true:=c.pg
section
variable {X:Cx}{pins:List (Addr×Obj)}{σ:St}{H:Hp}{s:S8}{a C dx:Addr}{fs:List (Str×V)}{f:Str}{v:V}{A:TX}{E:Value->S8->Prop}
end
section
variable {X:Cx}{o e value:Expr}{f:Str}{pos pos' tpos:Pos}{ta tv:TE}
end
section
variable {X:Cx}{pins:List (Addr×Obj)}{σ:St}{H:Hp}{s:S8}{A:TX}{E:Value->S8->Prop}{Q:Value->S8->Prop}{c:Value}{b:Bool}
inductive TyOf(K:S9)(H:Hp):V->Value->Prop where
 | non:TyOf K H .non (.type "NoneType")
 | bl (x:Bool):TyOf K H (.bl x) (.type "bool")
 | int (i:Int):TyOf K H (.int i) (.type "int")
 | str (x:Str):TyOf K H (.str x) (.type "str")
 | flt (x:UInt64):TyOf K H (.flt x) (.type "float")
 | lst {a:Addr} {xs:List V} (e:H a=some (.lst xs)):TyOf K H (.ref a) (.type "list")
 | frz {a:Addr} {o:Obj} {xs:List V} (e:H a=some (.frz o (.lst xs))):TyOf K H (.ref a) (.type "list")
 | tup {a:Addr} {xs:List V} (e:H a=some (.tup xs)):TyOf K H (.ref a) (.type "tuple")
 | dK {a:Addr} {kvs:List (Key×V)} (e:H a=some (.dK kvs)):TyOf K H (.ref a) (.type "dict")
 | dT {a:Addr} {kvs:List (List Key×V)} (e:H a=some (.dT kvs)):TyOf K H (.ref a) (.type "dict")
 | ins {a C dx:Addr} {fs:List (Str×V)} (e:H a=some (.ins C dx fs)) (cl:Cls K C) (ha:PySem.W.findIn K (.ref C) "__class__" = some (some (.builtin "object.__class__")))
   (hn:PySem.W.specialIn K (.builtin "object.__class__") "__get__" = some (some (.builtin "getset_descriptor.__get__"))) (htk:PySem.W.takesIn K (.builtin "object.__class__")=some true)
   (hm:PySem.W.mroIn K C (.type "object")=some true):TyOf K H (.ref a) (.ref C)
theorem zB(I:Inv X pins σ H s)(B:RelV x u)(ty:TyOf X.K H x t)(e:X6 X.K t c=some b)(h:∀tk,Q (.bool b) {s with toks:=tk}) :
  wpAny (model X.prog X.w) A (call (.builtin "isinstance") [u,c]) Q E s:=by
 cases ty with
 | non=>cases(show u=UC from B);exact VM PySem.W.kitx_none I.kIn U8 e (λz=>nomatch z) h
 | bl y=>cases(show u=WP y from B);exact VM PySem.W.kitx_bool I.kIn U8 e (λz=>nomatch z) h
 | int i=>obtain⟨t,q⟩:=(show ∃t,u=Value.int i t from B);cases q;exact VM PySem.W.kitx_int I.kIn U8 e (λz=>nomatch z) h
 | str y=>obtain⟨t,q⟩:=(show ∃t,u=Value.str y t from B);cases q;exact VM PySem.W.kitx_str I.kIn U8 e (λz=>nomatch z) h
 | flt y=>obtain⟨t,q⟩:=(show ∃t,u=Value.float y t from B);cases q;exact VM PySem.W.kitx_float I.kIn U8 e (λz=>nomatch z) h
 | @lst a xs ea=>
  cases(show u=TN a from B);obtain⟨_,_,n,_,h1⟩:=(show ObjOk X.prog X.w H s.heap a (.lst xs)from I.hok a _ ea);exact VM PySem.W.kitx_list I.kIn ⟨_,h1,rfl⟩ e (λz=>nomatch z) h
 | @frz a ob xs ea=>
  cases(show u=TN a from B);obtain⟨_,_,_,n,_,h1⟩:=(show ObjOk X.prog X.w H s.heap a (.frz ob (.lst xs))from I.hok a _ ea);exact VM PySem.W.kitx_list I.kIn ⟨_,h1,rfl⟩ e (λz=>nomatch z) h
 | @tup a xs ea=>
  cases(show u=TN a from B);obtain⟨_,_,_,p⟩:=(show ObjOk X.prog X.w H s.heap a (.tup xs)from I.hok a _ ea);obtain⟨o,h1,h2,_⟩:=p;exact VM PySem.W.kitx_tuple I.kIn ⟨o,h1,h2⟩ e (λz=>nomatch z) h
 | @dK a kvs ea=>
  cases(show u=TN a from B);obtain⟨_,_,vs,_,p⟩:=(show ObjOk X.prog X.w H s.heap a (.dK kvs)from I.hok a _ ea);obtain⟨o,es,ep,h1,h2,_⟩:=p;exact VM YX I.kIn ⟨o,h1,h2.1⟩ e (λz=>nomatch z) h
 | @dT a kvs ea=>
  cases(show u=TN a from B);obtain⟨_,_,xs,_,o,es,ep,h1,h2,_⟩:=(show ObjOk X.prog X.w H s.heap a (.dT kvs)from I.hok a _ ea);exact VM YX I.kIn ⟨o,h1,h2.1⟩ e (λz=>nomatch z) h
 | @ins a C dx fs ea cl ha hn htk hm=>
  cases(show u=TN a from B);obtain⟨mA,O,_⟩:=HB I.hok ea;obtain⟨od,J,_⟩:=O.look;exact VM (PySem.W.kitx_own (cl.get _) cl.hd ha hn htk hm) I.kIn J e (λz=>nomatch z) h
end
structure Room(k:Nat)(A:TX):Prop where
 hd:A.handled=none
 dp:A.depth+3*k+5<recursionLimit
 un:A.units+16*k+200<cLine
theorem Room.mono(r:Room k A)(h:j<=k):Room j A:=⟨r.hd,by have:=r.dp;lia,by have:=r.un;lia⟩
theorem Room.deeper(r:Room (k+1) A)(env:Env):Room k (A.deeper env):=
 ⟨r.hd,by have:=r.dp;show A.depth+1+3*k+5<_;lia,by have:=r.un;show A.units+3+16*k+200<_;lia⟩
theorem Room.depth(r:Room k A):A.depth<recursionLimit:=by have:=r.dp;lia
theorem Room.units(r:Room k A):A.units+64<cLine:=by have:=r.un;lia
theorem Room.units0(r:Room k A):A.units<cLine:=by have:=r.un;lia
def P0:TA:=λ_ H Q=>Q [] H
def DT(ta:TE)(q:TA):TA:=λσ H Q=>ta σ H λx H1=>q σ H1 λxs H2=>Q (x::xs) H2
section
variable {X:Cx}{e:Expr}{es:List Expr}{te:TE}{t:TA}{pos:Pos}
theorem mB:PA X [] P0:=λ_ _ _ _ H Q I h=>Z5 ⟨[],H,I,.nil,h⟩
theorem cH(G:PE X e te)(F:PA X es t)(hs:TC (e::es) X.env=(false,eval e X.env)::TC es X.env:=by rfl):PA X (e::es) (DT te t):=by
 intro pos pins s σ H Q I h;rw[hs];show wpAny _ _ (spliced ((false,eval e X.env)::T7 pos (TC es X.env))) _ _ s;refine YY (a7 (G pins s σ H _ I h) λu M ⟨x,H1,U,N,q⟩=>?_);exact a7 (F pos pins M σ H1 _ U q) λY s2 ⟨xs,H2,J,B,W⟩=>⟨x::xs,H2,J,.cons N B,W⟩
def RU(t:TA):TE:=λσ H Q=>t σ H λxs H1=>xs.length<=TK/\∀p,H1 p=none->Q (.ref p) (upd H1 p (.tup xs))
def RJ(t:TA):TE:=λσ H Q=>t σ H λxs H1=>xs.length<=TK/\∀p,H1 p=none->Q (.ref p) (upd H1 p (.lst xs))
theorem L7{x1}(h:PA X es t):PE X (.Tuple es x1 pos) (RU t):=by
 intro pins s σ H Q I J;refine wpAny_Tuple_spliced (a7 (h pos pins s σ H _ I J) λM B ⟨xs,H1,F,r,z,q⟩=>⟨by rw[<- r.length];exact z,?_⟩);have G:H1 B.heap.objs.size=none:=F.hok.fresh (TR _);refine⟨.ref B.heap.objs.size,upd H1 B.heap.objs.size (.tup xs),F.laid (t':=B.toks) (λb u e=>TV _ e) (TR _) ?_,rfl,q _ G⟩;exact⟨z,M,r,⟨_,T8 _ rfl,rfl,_,rfl,rfl⟩⟩
theorem LK(h:PA X es t):PE X (.List es pos) (RJ t):=by
 intro pins s σ H Q I J;refine wpAny_List_spliced (a7 (h pos pins s σ H _ I J) λM B ⟨xs,H1,F,r,z,q⟩=>⟨by rw[<- r.length];exact z,?_⟩);have G:H1 B.heap.objs.size=none:=F.hok.fresh (TR _);refine⟨.ref B.heap.objs.size,upd H1 B.heap.objs.size (.lst xs),F.laid (t':=B.toks) (λb u e=>TV _ e) (TR _) ?_,rfl,q _ G⟩;exact⟨z,M,0,r,T8 _ rfl⟩
end
abbrev Sp:=List V->Hp->VK->XK->Prop
abbrev AJ:=List Env->Hp->S8->XK->Value->S8->Prop
structure Env0(P:TJ)(w:World)(K:S9)(mg:Str->Option Value)(base:Heap)(A:TX)(outer:List Env)(s:S8)(H:Hp):Prop where
 frames:A.frames=some outer
 mod:Mod K mg base
 bs:∀b o,base.get? b=some o->s.heap.get? b=some o/\H b=none
 bsz:base.objs.size<=s.heap.objs.size
 funs:s.heap.FunFrames base outer
 frf:∀b∈frs outer,H b=none
 hok:HOk P w H s.heap
 bare:WE s.gens
def CE(q:List Env)(P:TJ)(w:World)(H:Hp)(s:S8)(Q:VK)(u:Value)(s':S8):Prop:=
 ∃v H',s'.os=s.os/\WE s'.gens/\Un (frs q) [] H H' s.heap s'.heap/\HOk P w H' s'.heap/\RelV v u/\Q v H'
def CR(CX:AJ)(outer:List Env)(P:TJ)(w:World)(H:Hp)(s:S8)(Q:VK)(E:XK)(r:Result)(s':S8):Prop:=
 match r with
 | .ok (.ret u)=>CE outer P w H s Q u s'
 | .ok _=>False
 | .error e=>CX outer H s E e s'
structure FnOk(P:TJ)(w:World)(K:S9)(mg:Str->Option Value)(base:Heap)(CX:AJ)(k:Nat)(f:Addr)(fd:VG)(ps:List Str)(sp:Sp):Prop where
 len:∀vs H Q E,sp vs H Q E->vs.length=ps.length
 run:∀(A:TX) (outer:List Env) (s:S8) (H:Hp) (args:Args) (us:List Value) (vs:List V) (Q:VK) (E:XK),Room k A->Env0 P w K mg base A outer s H->BindsTo s fd args (ps.zip us)->Vals vs us->sp vs H Q E->
  VW (model P w) A (.call (.ref f) args) (CR CX outer P w H s Q E) s
theorem FnOk.mono{P:TJ}{w:World}{K:S9}{mg:Str->Option Value}{base:Heap}{CX:AJ}{j k:Nat}{f:Addr}{fd:VG}{ps:List Str}{sp:Sp}(F:FnOk P w K mg base CX j f fd ps sp)(h:j<=k) :
  FnOk P w K mg base CX k f fd ps sp:=⟨F.len,λA q s H args G vs Q E B=>F.run A q s H args G vs Q E (B.mono h)⟩
section
variable {X:Cx}{pins:List (Addr×Obj)}{σ:St}{H:Hp}{s s':S8}
theorem Inv.env0(I:Inv X pins σ H s):Env0 X.prog X.w X.K X.mg X.base X.A X.stack s H:=
 ⟨I.ok.frames,I.ok.mod,I.bs,UY I.ok.bsz I.sz,I.stack,I.stkFree,I.hok,I.bare⟩
theorem Inv.after(I:Inv X pins σ H s)(h:CE X.stack X.prog X.w H s Q u s'):EP X pins σ Q u s':=by
 obtain⟨v,H',os,B,un,F,r,q⟩:=h;obtain⟨J,g,d,t,G⟩:=s';obtain rfl:G=s.os:=os;exact⟨v,H',I.call (h':=J) (g':=g) (d':=d) (t':=t) (ch:=[]) un F B (λb z=>absurd z (by simp)),r,q⟩
end
def N5(sp:Sp)(dvs:List V)(E:XK)(t:TA):TE:=λσ H Q=>t σ H λvs H1=>sp (vs++dvs) H1 Q E
def Binds(K:S9)(fd:VG)(ps:List Str)(ds:List Value):Prop:=
 ∀(s:S8) (us:List Value),K.In s.heap->(us++ds).length=ps.length->BindsTo s fd ⟨us,[]⟩ (ps.zip (us++ds))
theorem Binds.all{K:S9}{fd:VG}{ps:List Str}(h:∀q:List Value,q.length=ps.length->bindArgs fd ⟨q,[]⟩=pure (ps.zip q)):Binds K fd ps []:=λs q _ B=>by
 rw[W9]at B ⊢;exact .of_eq (h q B)
def vQ(CX:AJ)(X:Cx)(E:XK):Prop:=∀(pins:List (Addr×Obj)) (σ:St) (H:Hp) (s:S8) (e:Value) (s':S8),Inv X pins σ H s->CX X.stack H s E e s'->X.xe e s'
section
variable {X:Cx}{CX:AJ}{k:Nat}{f C:Addr}{fd:VG}{ps:List Str}{sp:Sp}{dvs:List V}{ds:List Value}{E:XK}{x m:Str}{p pos apos:Pos}{e o:Expr}{es:List Expr}{ta:TE}{t:TA}
theorem K2(F:FnOk X.prog X.w X.K X.mg X.base CX k f fd ps sp)(U:Room k X.A)(M:Binds X.K fd ps ds)(N:Vals dvs ds)(G:vQ CX X E)
  (I:Inv X pins σ H s) (r:Vals vs us) (h:sp (vs++dvs) H Q E):wpAny (model X.prog X.w) X.A (call (.ref f) us) (EP X pins σ Q) X.xe s:=by
 have B:Vals (vs++dvs) (us++ds):=r.append N;have J:(us++ds).length=ps.length:=by rw[<- B.length];exact F.len _ _ _ _ h
 refine wpAny_call (YZ (F.run X.A X.stack s H ⟨us,[]⟩ (us++ds) (vs++dvs) Q E U I.env0 (M s us I.kIn J) B h) λr s' q=>?_);cases r with
 | error e=>exact G pins σ H s e s' I q
 | ok fl=>
  cases fl with
  | ret u=>exact I.after q
  | next=>exact VT q
  | brk=>exact VT q
  | cont=>exact VT q
theorem GO(F:FnOk X.prog X.w X.K X.mg X.base CX k f fd ps sp)(hr:Room k X.A)(U:Gl X x)(hm:X.mg x=some (.ref f))(hk:WR X.K (.ref f)=true)(N:Binds X.K fd ps ds)(hd:Vals dvs ds)(M:vQ CX X E)
  (ha:PA X (e::es) t) (G:(x == ("__debug__" : Str))=false:=by decide) (Y:TC (e::es) X.env=(false,eval e X.env)::TC es X.env:=by rfl) (B:(T7 pos (TC es X.env)).any (·.1)=false:=by rfl) :
  PE X (.Call (.Name x p) (e::es) [] pos) (N5 sp dvs E t):=by
 intro pins s σ H Q I h;refine Z6 (xE I U hm ?_ G);refine PySem.W.callWith_K (h₀:=X.base) I.ok.mod.kin hk (a7 (ha pos pins s σ H _ I h) λus s1 ⟨vs,H1,J,r,q⟩=>⟨J.kIn,?_⟩) Y B;exact K2 F hr N hd M J r q
structure Mk(K:S9)(C f:Addr):Prop where
 makes:PySem.W.makesIn K C=true
 init:PySem.W.findIn K (.ref C) "__init__" = some (some (.ref f))
 fn:PySem.W.isFn K (.ref f)=true
 kp:WR K (.ref C)=true
end
section
variable {X:Cx}{CX:AJ}{k:Nat}{f C:Addr}{fd:VG}{ps ks:List Str}{sp:Sp}{E:XK}{x m:Str}{p pos apos kpos:Pos}{e o:Expr}{es:List Expr}{kws:List V0}{te ta:TE}{t tk:TA}{nm:Option Str}
variable {g:List Value->List Value->List Value}{gV:List V->List V->List V}
end
structure FnScope(N P:List Str)(sc:Scope):Prop where
 kind:sc.kind=.function
 co:sc.isCoroutine=false
 gen:sc.isGenerator=false
 nd:N.Nodup
 pre:N.take P.length=P
 par:∀x∈P,sc.names.lookup x=some .local\/sc.names.lookup x=some .cell
 nofree:∀y∈sc.names,y.2≠.free
theorem oM{VH:Str->Option V5}:∀ {binds:List (Str×Value)} {m:Str->Option Value},(∀v,(x,v)∉binds)->bindL VH binds m x=m x
 | [],_,_=>rfl
 | (n,v)::r,m,h=>by
  unfold bindL;rw[oM λw hw=>h w (UG _ hw)];split
  ·have:x≠n:=by rintro rfl;exact h v UL
   simp[this]
  ·rfl
theorem oE{VH:Str->Option V5}:∀ {binds:List (Str×Value)} {m:Str->Option Value},(∀v,(x,v)∉binds)->bindC VH binds m x=m x
 | [],_,_=>rfl
 | (n,v)::r,m,h=>by
  unfold bindC;rw[oE λw hw=>h w (UG _ hw)];split
  ·rfl
  ·have:x≠n:=by rintro rfl;exact h v UL
   simp[this]
theorem nQ{VH:Str->Option V5}{x:Str}{v:Value}:∀ {P:List Str} {vs:List Value} {i:Nat} {m:Str->Option Value},P.Nodup->P[i]?=some x->vs[i]?=some v->VH x=some .local->
  bindL VH (P.zip vs) m x=some v
 | [],_,_,_,_,h,_,_=>by simp at h
 | _::_,[],_,_,_,_,h,_=>by simp at h
 | p::P,w::vs,0,m,nd,h1,h2,hk=>by
  simp at h1 h2;subst h1;subst h2;show bindL VH ((p,w)::P.zip vs) m p=_;unfold bindL;rw[oM λv q=>(List.nodup_cons.mp nd).1 (Z7 q).1,if_pos hk];simp
 | p::P,w::vs,i+1,m,nd,h1,h2,hk=>by
  show bindL VH ((p,w)::P.zip vs) m x=_;unfold bindL;exact nQ (i:=i) (List.nodup_cons.mp nd).2 (by simpa using h1) (by simpa using h2) hk
theorem oK{VH:Str->Option V5}{x:Str}{v:Value}:∀ {P:List Str} {vs:List Value} {i:Nat} {m:Str->Option Value},P.Nodup->P[i]?=some x->vs[i]?=some v->VH x≠some .local->
  bindC VH (P.zip vs) m x=some v
 | [],_,_,_,_,h,_,_=>by simp at h
 | _::_,[],_,_,_,_,h,_=>by simp at h
 | p::P,w::vs,0,m,nd,h1,h2,hk=>by
  simp at h1 h2;subst h1;subst h2;show bindC VH ((p,w)::P.zip vs) m p=_;unfold bindC;rw[oE λv q=>(List.nodup_cons.mp nd).1 (Z7 q).1,if_neg hk];simp
 | p::P,w::vs,i+1,m,nd,h1,h2,hk=>by
  show bindC VH ((p,w)::P.zip vs) m x=_;unfold bindC;exact oK (i:=i) (List.nodup_cons.mp nd).2 (by simpa using h1) (by simpa using h2) hk
def start(N:List Str)(vs:List V):St:=vs.map some++UA (N.length-vs.length) none
def iL(CX:AJ)(P:TJ)(w:World)(K:S9)(mg:Str->Option Value)(base:Heap)(N:List Str)(q:Str)(scope:Scope)(f:Addr)(F:Value)(A:TX)(outer:List Env)(s:S8)(H:Hp)(E:XK):Cx where
 prog:=P
 w:=w
 K:=K
 mg:=mg
 base:=base
 A:=A.deeper (UX q scope s.heap.objs.size f F)
 N:=N
 s₀:=s
 H₀:=H
 env:=UX q scope s.heap.objs.size f F
 outer:=outer
 stack:=UX q scope s.heap.objs.size f F::outer
 ex:=[]
 calm:=true
 fn:=λ_=>true
 pn:=[]
 xe:=λe s'=>wpAny (model P w) (A.deeper (UX q scope s.heap.objs.size f F)) (leaving (UX q scope s.heap.objs.size f F) e) (λ_ B=>CX outer H s E e B) (λG B=>CX outer H s E G B) s'
theorem l5{sc:Scope}{n:Nat}{x:Str}(h:sc.names.lookup x=some .cell):∃c,(WI n sc.names []).lookup x=some c:=by
 have q:=PySem.W.cellsFrom_some sc.names n [] (.inl h);exact Option.isSome_iff_exists.mp q
theorem zJ{CX:AJ}{P:TJ}{w:World}{K:S9}{mg:Str->Option Value}{base:Heap}{N ps:List Str}{F:Str}{scope:Scope}{f:Addr}{Y:Value}{A:TX}{B:List Env}{s s1:S8}{H:Hp}{E:XK}{us:List Value}{vs:List V}
  (S:FnScope N ps scope) (hd:A.handled=none) (G:Env0 P w K mg base A B s H) (hl:vs.length=ps.length) (r:Vals vs us)
  (x:InCallC s s.heap.objs.size (bindL (UX F scope s.heap.objs.size f Y).kindOf (ps.zip us) λ_=>none) (WI (s.heap.objs.size+1) scope.names []) (bindC (UX F scope s.heap.objs.size f Y).kindOf (ps.zip us) λ_=>none) s1) :
  Inv (iL CX P w K mg base N F scope f Y A B s H E) [] (start N vs) H s1:=by
 have ae:ps.length<=N.length:=by have:=congrArg V6 S.pre;rw[Y0]at this;lia
 obtain⟨h1,tk,rfl,hk⟩:=x.done;have J:∀b:Addr,b∉(iL CX P w K mg base N F scope f Y A B s H E).ex:=λb z=>absurd (show b∈([]:List Addr)from z) (by simp)
 refine⟨⟨G.mod,S.kind,rfl,rfl,TR _,λy z c h1 h2=>?_,λy M=>?_,λy c _ h=>?_,λ_=>hd,Around.frames_deeper G.frames,.inr ⟨rfl,rfl⟩,λb z=>absurd z (J b),G.bs,G.bsz,λb _ _=>J b,λb z=>absurd z (J b),G.funs,G.frf⟩,
  rfl,G.bare,Un.kept hk,⟨_,x.toInCall.ns,λi y v h1 h2 h3=>?_⟩,λy c h=>⟨_,x.cell y c h⟩,G.hok.fresh (TR _),λy c h=>?_,λp W=>absurd (show p∈([]:List (Addr×Obj))from W) (by simp),G.hok.kept hk,?_⟩
 ·exact name_of_addr x.apart (X7 h1) (X7 h2)
 ·have M:scope.names.lookup y=some .cell\/scope.names.lookup y=some .free:=M
  rcases M with M|M
  ·exact l5 M
  ·exact absurd rfl (S.nofree _ (X7 M))
 ·exact YR (x.above y c (X7 h))
 ·have hi:i<vs.length:=by
   unfold start at h2;by_cases hi:i<vs.length
   ·exact hi
   ·rw[Y1 (by simpa using hi)]at h2
    rw[Z8]at h2;split at h2 <;> cases h2
  have ha:vs[i]?=some v:=by
   unfold start at h2;rw[XA (by simpa using hi),T6]at h2;cases e:vs[i]? with
   | none=>rw[e]at h2;cases h2
   | some a=>rw[e]at h2;cases h2;rfl
  obtain⟨u,hu,rv⟩:=r.get ha;have W:ps[i]?=some y:=by
   rw[<- S.pre,List.getElem?_take_of_lt (by lia)];exact h1
  have U:ps.Nodup:=by rw[<- S.pre];exact S.nd.sublist (List.take_sublist _ _)
  refine⟨u,rv,?_⟩;rcases S.par y (U9 W)with k|k
  ·exact .inl ⟨k,nQ U W hu k⟩
  ·obtain⟨c,e⟩:=l5 (n:=s.heap.objs.size+1) k
   refine .inr ⟨.inl k,c,e,?_⟩;have q:=x.cell y c e;rw[oK U W hu (by show scope.names.lookup y≠_;rw[k];decide)]at q;exact q
 ·exact G.hok.fresh (YR (x.above y c (X7 h)))
 ·unfold start
  show _=N.length;rw[VN,TL,List.length_replicate]
  lia
theorem OG{CX:AJ}{P:TJ}{w:World}{K:S9}{mg:Str->Option Value}{base:Heap}{k:Nat}{f:Addr}{name F:Str}{M:Arguments}{body:List Stmt}{scope:Scope}{dV kV ac pm G ct oc:Value}{an od:Option Addr}
  {ah:Array (Option Value)} {N ps:List Str} {sp:Sp} (lk:K.lookup f=some ⟨oc,od,.func (VX name F M body scope dV kV ac pm an G ct),ah⟩) (ag:XB K G F=true) (S:FnScope N ps scope)
  (len:∀vs H Q E,sp vs H Q E->vs.length=ps.length)
  (aa:∀(A:TX) (B:List Env) (s:S8) (H:Hp) (vs:List V) (Q:VK) (E:XK), Room k (A.deeper (UX F scope s.heap.objs.size f G)) -> sp vs H Q E ->
   ∃t,PSs (iL CX P w K mg base N F scope f G A B s H E) body t/\t {nx:=λ_ H'=>Q .non H',rt:=Q} (start N vs) H) :
  FnOk P w K mg base CX (k+1) f (VX name F M body scope dV kV ac pm an G ct) ps sp:=by
 refine⟨len,λA B s H args us vs Q E hr e0 hb r ab=>?_⟩;have hl:=len _ _ _ _ ab;have KX:K.In s.heap:=e0.mod.kin.keeps λb o e=>(e0.bs b o e).1
 have ai:s.heap.NoLimit:=e0.mod.nolimit.keeps λb o e=>(e0.bs b o e).1
 have Y:∀y∈ps.zip us,scope.names.lookup y.1=some .local\/(scope.names.lookup y.1=some .cell/\((WI (s.heap.objs.size+1) scope.names []).lookup y.1).isSome=true):=by
  rintro⟨n,v⟩ hy;rcases S.par n (Z7 hy).1 with q|q
  ·exact .inl q
  ·exact .inr ⟨q,PySem.W.cellsFrom_some _ _ _ (.inl q)⟩
 refine codeAny_call_function hr.depth (KX _ _ lk) rfl S.co S.gen rfl (PySem.W.codeRec_of KX ag) (hb _ _ _ _ ?_);refine wpAny_newFunctionEnv_cells S.kind Y λenv he s1 x=>?_
 subst he;refine⟨ai.keeps x.toInCall.keep,codeAny_func ?_⟩;obtain⟨t,ht,hq⟩:=aa A B s H vs Q E (hr.deeper _) ab;have I:Inv (iL CX P w K mg base N F scope f G A B s H E) [] (start N vs) H s1:=zJ S hr.hd e0 hl r x;refine U3 (ht [] s1 (start N vs) H _ I hq) (λfl s' hs=>?_) λe s' hs=>hs
 have fin:∀ {U:St} {H':Hp} {v:V} {u:Value},Inv (iL CX P w K mg base N F scope f G A B s H E) [] U H' s'->RelV v u->Q v H'->CE B P w H s Q u s':=
  λ{U H' v u} J rv q=>⟨v,H',J.os,J.bare,J.base,J.hok,rv,q⟩
 cases fl with
 | ret u=>
  obtain⟨v,U,H',J,rv,q⟩:=hs;exact fin J rv q
 | next=>
  obtain⟨U,H',J,q⟩:=hs;exact fin (v:=V.non) (u:=UC) J rfl q
 | brk=>
  obtain⟨_,_,_,q⟩:=hs;exact VT q
 | cont=>
  obtain⟨_,_,_,q⟩:=hs;exact VT q
section
variable {X:Cx}{x:Str}{p pos:Pos}{e:Expr}{es:List Expr}{t:TA}{id T:String}{r:List V->Hp->VK->Prop}
def QN(r:List V->Hp->VK->Prop)(t:TA):TE:=λσ H Q=>t σ H λvs H1=>r vs H1 Q
theorem lU(U:CallR X (.builtin id) r)(M:Gl X x)(G:X.mg x=none)(W:UJ x=some (.builtin id))(Y:PA X (e::es) t)(hn:x ≠ "__name__" := by decide)(B:(x == ("__debug__" : Str))=false:=by decide)
  (N:TC (e::es) X.env=(false,eval e X.env)::TC es X.env:=by rfl) (q:(T7 pos (TC es X.env)).any (·.1)=false:=by rfl):PE X (.Call (.Name x p) (e::es) [] pos) (QN r t):=by
 intro pins s σ H Q I h;refine Z6 (gF I M G W ?_ hn B);exact PyProof.Rows.callWith_builtin1 (a7 (Y pos pins s σ H _ I h) λus s1 ⟨vs,H1,F,r1,J⟩=>U pins s1 σ H1 vs us Q F r1 J) N q
theorem nK(U:CallR X (.type T) r)(M:Gl X x)(G:X.mg x=none)(W:UJ x=some (.type T))(Y:PA X (e::es) t)(hn:x ≠ "__name__" := by decide)(B:(x == ("__debug__" : Str))=false:=by decide)
  (N:TC (e::es) X.env=(false,eval e X.env)::TC es X.env:=by rfl) (q:(T7 pos (TC es X.env)).any (·.1)=false:=by rfl):PE X (.Call (.Name x p) (e::es) [] pos) (QN r t):=by
 intro pins s σ H Q I h;refine Z6 (gF I M G W ?_ hn B);exact X5 (a7 (Y pos pins s σ H _ I h) λus s1 ⟨vs,H1,F,r1,J⟩=>U pins s1 σ H1 vs us Q F r1 J) N q
end
end L2
namespace HT
open PySem PyProof.Rows
noncomputable def lexLt:List Int->List Int->Bool
 | [],[]=>false
 | [],_::_=>true
 | _::_,[]=>false
 | x::xs,y::ys=>if x=y then lexLt xs ys else decide (x<y)
theorem cU(x y:Int)(xs ys:List Int):lexLt (x::xs) (y::ys)=if x=y then lexLt xs ys else decide (x<y):=rfl
theorem mY:lexLt [] []=false:=rfl
theorem kP(y:Int)(ys:List Int):lexLt [] (y::ys)=true:=rfl
theorem kO(x:Int)(xs:List Int):lexLt (x::xs) []=false:=rfl
theorem CB(A:TX)(s:S8)(a:Int)(t:Tok)(c:Int)(u:Tok):∃e,X8 A s (.int a t) (.int c u) e/\(e=true↔a=c):=
 ⟨(a == c),SeqAt.EqAt.int_int a t c u,by simp⟩
theorem BU(A:TX)(s:S8)(a:Int)(t:Tok)(c:Int)(u:Tok)(prog:TJ)(w:World)(E:Value->S8->Prop)(Q:Value->S8->Prop)(h:Q (.bool (decide (a<c))) s) :
  wpAny (model prog w) A (richCompare .Lt (.int a t) (.int c u)) Q E s:=
 (PyProof.Rows.lt_int h:wpAny (model prog w) A (TY .Lt (.int a t) (.int c u)) Q E s)
section
open PySem.SeqAt
open PySem.AutoSeq1 (wpAny_loadPart')
open PySem.MeetsSeq PySem.MeetsSeq2 PySem.MeetsSeq3
theorem mZ(l b:Addr)(items B:Array Value)(n n2:Nat)(dd ae:Option Addr)(sl ad:Array (Option Value))(ns ms:List Int)(hi:UZ items.toList ns)(hj:UZ B.toList ms) :
  Meets (WK.«tuple.__lt__» ⟨[.ref l,.ref b],[]⟩)
   (λ_ R s => s.heap.get? l = some {cls := .type "tuple", dict:=dd, data := .seq items n, slots:=sl} /\ s.heap.get? b = some {cls := .type "tuple", dict:=ae, data := .seq B n2, slots:=ad} /\
    R (.ok (.ret (.bool (lexLt ns ms)))) s):=
 .of_wp λprog w A R s h=>by
  obtain⟨hp,g,d,tk,os⟩:=s;obtain⟨hl,hb,h⟩:=h;have f2:=AutoSeq1.sub_tuple_tuple;have z1:items.size=ns.length:=by rw[<- hi.length];simp
  have z2:B.size=ms.length:=by rw[<- hj.length];simp
  wp_walk using WJ hl,WJ hb,wpAny_forIn_list _ (λrest b s'=>b.1=none/\s'=⟨hp,g,d,tk,os⟩/\∃(vs ws:List Value) (G J:List Int),rest=vs.zip ws /\
   UZ vs G/\UZ ws J/\G.length+B.size=J.length+items.size/\R (.ok (.ret (.bool (lexLt G J)))) ⟨hp,g,d,tk,os⟩) _
  case turn=>
   rintro⟨y,x⟩ rest b s' ⟨Y,rfl,vs,ws,G,J,hz,W,M,F,N⟩;cases W with
   | nil=>rw[List.zip_nil_left]at hz;cases hz
   | cons a t hvi'=>
    cases M with
    | nil=>rw[List.zip_nil_right]at hz;cases hz
    | cons c u hwi'=>
     rw[List.zip_cons_cons]at hz;injection hz with hyx hrest
     injection hyx with hy hx
     subst hy hx;rw[cU]at N;simp only[UK]at F;obtain⟨e,he,U⟩:=CB A.in1 ⟨hp,g,d,tk,os⟩ a t c u;refine S7 (he prog w _ _ ?_);cases e with
     | true=>
      rw[if_pos (U.mp rfl)]at N
      wp_walk
      exact⟨rfl,rfl,_,_,_,_,hrest,hvi',hwi',by lia,N⟩
     | false=>
      rw[if_neg (λq=>absurd (U.mpr q) TZ)]at N;have ac:=BU A.in1 ⟨hp,g,d,tk,os⟩ a t c u prog w
      wp_walk using ac
      exact⟨_,rfl,by simpa using N⟩
  case fin=>
   rintro⟨b1,b2⟩ s' ⟨Y,rfl,vs,ws,G,J,hz,W,M,F,N⟩;simp only at Y;subst Y;have hv:lexLt G J=decide (items.size<B.size):=by
    cases W with
    | nil=>
     cases M with
     | nil=>
      simp only[WL]at F;rw[mY];exact(decide_eq_false (by lia)).symm
     | cons c u hw=>
      simp only[WL,UK]at F;rw[kP];exact(decide_eq_true (by lia)).symm
    | cons a t hv=>
     cases M with
     | nil=>
      simp only[WL,UK]at F;rw[kO];exact(decide_eq_false (by lia)).symm
     | cons c u hw=>
      rw[List.zip_cons_cons]at hz;cases hz
   rw[hv]at N
   wp_walk
   exact⟨_,rfl,by simpa[Builtin.Tuple.tupleCompareSizes]using N⟩
  case h=>
   exact⟨rfl,rfl,items.toList,B.toList,ns,ms,rfl,hi,hj,by lia,h⟩
end
section
variable {prog:TJ}{w:World}{A:TX}{E:Value->S8->Prop}{s:S8}
theorem kU(hl:IsTup s.heap l items)(hb:IsTup s.heap b items2)(hi:UZ items.toList ns)(hj:UZ items2.toList ms)
  (hu:A.units<cLine) (h:Q (.bool (lexLt ns ms)) s):wpAny (model prog w) A (TY .Lt (.ref l) (.ref b)) Q E s:=by
 obtain⟨⟨cls,dd,data,sl⟩,W,Y,n,hd⟩:=id hl;obtain⟨⟨U,N,M,J⟩,B,G,n2,q⟩:=id hb;simp only at Y hd G q;subst Y hd G q;exact richCompare_meets_room (op:=.Lt) ⟨_,W,rfl⟩ ⟨_,B,rfl⟩ PySem.F.slot_tuple_lt PySem.F.entry_tuple_lt (PySem.F.args_tuple_lt_2 _ _) (mZ l b items items2 n n2 dd N sl J ns ms hi hj)
  ⟨W,B,show WP (lexLt ns ms)≠Value.notImplemented/\Q (.bool (lexLt ns ms)) s from⟨(λx=>nomatch x),h⟩⟩ hu
theorem GN(ht:IsTup s.heap t vs.toArray)(hb:IsTup s.heap b ws.toArray)(hv:vs≠[])
  (h1:ws=[]->Q (.ref t) s) (h2:ws≠[]->Q (.ref s.heap.objs.size) {s with heap:=s.heap.push {cls:=.type "tuple",data:=.seq (vs++ws).toArray} })
  (hsz:vs.length+ws.length<=TK):wpAny (model prog w) A (UP .Add (.ref t) (.ref b)) Q E s:=by
 obtain⟨⟨cls,Y,data,sl⟩,M,hc,n,hd⟩:=id ht;obtain⟨⟨W,F,N,B⟩,q,J,U,G⟩:=id hb;simp only at hc hd J G;subst hc hd J G;have e:vs.toArray++ws.toArray=(vs++ws).toArray:=by simp
 by_cases hw:ws=[]
 ·exact concat_meets ⟨_,M,rfl⟩ ⟨_,q,rfl⟩ Z9 seq_tuple_add zaa zab (zac _ _)
   (tuple_addW1 t b vs.toArray ws.toArray n U Y F sl B (by simpa using hv) (by simp[hw])) ⟨M,q,h1 hw⟩
 ·refine concat_meets ⟨_,M,rfl⟩ ⟨_,q,rfl⟩ Z9 seq_tuple_add zaa zab (zac _ _)
   (tuple_addW2 t b vs.toArray ws.toArray n U Y F sl B (by simpa using hv) (by simpa using hw) (by rw[T3,T3];exact hsz)) ⟨M,q,?_⟩
  rw[e];exact h2 hw
noncomputable def sIx(n d:Nat):Option Int->Nat
 | none=>d
 | some v=>if v<0 then(v+(n:Int)).toNat else min v.toNat n
theorem JJ(n d:Nat)(B:d<=n)(o:Option Int):sIx n d o<=n:=by
 cases o with
 | none=>exact B
 | some v=>
  show(if v<0 then(v+(n:Int)).toNat else min v.toNat n)<=n;by_cases q:v<0
  ·rw[if_pos q];lia
  ·rw[if_neg q];exact Nat.min_le_right _ _
theorem wU(v:Int)(n d:Nat):(if v<0 then max (v+(n:Int)) 0 else min v (n:Int))=((sIx n d (some v):Nat):Int):=by
 show(if v<0 then max (v+(n:Int)) 0 else min v (n:Int))=(((if v<0 then(v+(n:Int)).toNat else min v.toNat n):Nat):Int);by_cases q:v<0
 ·simp only[if_pos q];lia
 ·simp only[if_neg q];lia
theorem u5(lo hi:Option Int)(n:Nat):zad lo hi 1 (n:Int)=(((sIx n 0 lo:Nat):Int),((sIx n n hi:Nat):Int)):=by
 have h1:¬ ((1:Int)<0):=by lia
 unfold zad;simp only[h1,if_false];refine Prod.ext ?_ ?_
 ·cases lo with
  | none=>rfl
  | some v=>exact wU v n 0
 ·cases hi with
  | none=>rfl
  | some v=>exact wU v n n
theorem uS(i j:Nat):Y2 (i:Int) (j:Int) 1=j-i:=by
 unfold Y2;have h1:(1:Int)>0:=by lia
 simp only[h1,if_true,Int.ediv_one];split <;> lia
theorem lC(p:V7 v o)(h:Q o s):wpAny (model prog w) A (Builtin.Slice.slicePartIndex v) Q E s:=by
 cases p with
 | none=>exact slicePart_none h
 | int i t=>exact slicePart_int h
theorem dN{J:Addr}{F G:Value}{lo hi:Option Int}{n:Nat}{Q:Int×Int×Nat->S8->Prop}(hs:s.heap.IsSliceOf J F G .none)(N:V7 F lo)(M:V7 G hi)
  (h:Q (((sIx n 0 lo:Nat):Int),1,sIx n n hi-sIx n 0 lo) s):wpAny (model prog w) A (Builtin.Slice.sliceApplied (.ref J) (pure (n:Int))) Q E s:=by
 obtain⟨os,B,U,q⟩:=id hs;unfold Builtin.Slice.sliceApplied Builtin.Slice.sliceFields;refine S7 (S7 (U0 B q (x:=F) rfl (S7 (U0 B q (x:=G) rfl (S7 (U0 B q (x:=.none) rfl (TB ?_)))))));refine S7 (slicePart_none ?_);show wpAny _ _ (if((1:Int) == 0)=true then _ else _) _ _ s;rw[if_neg (by decide)];refine S7 (lC N (S7 (lC M (S7 (TB ?_)))));show wpAny _ _ (match zad lo hi 1 (n:Int)with|(lo,hi)=>pure (lo,(1:Int),Y2 lo hi 1)) _ _ s;rw[u5 lo hi n];show wpAny _ _ (pure (((sIx n 0 lo:Nat):Int),(1:Int),Y2 ((sIx n 0 lo:Nat):Int) ((sIx n n hi:Nat):Int) 1)) _ _ s;rw[uS];exact TB h
theorem B4(xs:Array Value)(i k:Nat):((T2 k).filterMap λ(m:Nat)=>xs[((i:Int)+(m:Int)*1).toNat]?).toArray=((xs.toList.drop i).take k).toArray:=by
 have e:(λ(m:Nat)=>xs[((i:Int)+(m:Int)*1).toNat]?)=λm=>xs[i+m]?:=by
  funext m;have:((i:Int)+(m:Int)*1).toNat=i+m:=by lia
  rw[this]
 rw[e];have:=pick_run xs i k;rw[List.filterMap_map]at this;have q:((λx=>xs[x]?) ∘ λx=>i+x)=λm=>xs[i+m]?:=rfl
 rw[q]at this;rw[this]
theorem gP{t U:Addr}{items:Array Value}{W Y:Value}{lo hi:Option Int}{Q:Value->S8->Prop}(F:IsTup s.heap t items)(hs:s.heap.IsSliceOf U W Y .none)(pl:V7 W lo)(pu:V7 Y hi)
  (hw:¬ (sIx items.size 0 lo=0/\sIx items.size items.size hi=items.size))
  (h:Q (.ref s.heap.objs.size) {s with heap:=s.heap.push {cls:=.type "tuple",data:=.seq ((items.toList.drop (sIx items.size 0 lo)).take (sIx items.size items.size hi-sIx items.size 0 lo)).toArray} })
  (hsz:items.size<=TK):wpAny (model prog w) A (V8 (.ref t) (.ref U)) Q E s:=by
 have B:sizeOk (.seq ((items.toList.drop (sIx items.size 0 lo)).take (sIx items.size items.size hi-sIx items.size 0 lo)).toArray):=by
  show((items.toList.drop (sIx items.size 0 lo)).take (sIx items.size items.size hi-sIx items.size 0 lo)).toArray.size<=TK;rw[T3,Y0,List.length_drop,VF]
  lia
 have hj:sIx items.size items.size hi<=items.size:=JJ _ _ (TR _) hi;obtain⟨os,J,N,ab⟩:=id hs;have G:s.TypeIs (.ref U) "slice" := ⟨os,J,N⟩;unfold V8
 try with_reducible refine VL ?_
 first|refine S7 (TB ?_)|skip
 refine S7 (wpAny_sequenceKey F.typeIs (by decide) ?_);refine S7 (V9 (name:=WA "__getitem__") F.typeIs Y3
  (VI Y3 F.typeIs entry_tuple_getitem ?_ (args_tuple_getitem _ _)))
 show wpAny _ _ (Builtin.Tuple.tupleItemsOf (.ref t) >>= _) _ _ s;refine S7 (tupleItemsOf_ F ?_);refine S7 (Y4 G ?_);rw[if_pos (by decide)];refine S7 (dN hs pl pu ?_);have M:¬ ((((sIx items.size 0 lo:Nat):Int) == 0 && (1:Int) == 1 && (sIx items.size items.size hi-sIx items.size 0 lo) == items.size)=true):=by
  intro q;rw[UE,UE]at q;have q1:((sIx items.size 0 lo:Nat):Int)=0:=eq_of_beq q.1.1;have q2:sIx items.size items.size hi-sIx items.size 0 lo=items.size:=eq_of_beq q.2;exact hw ⟨by lia,by lia⟩
 show wpAny _ _ (if(((sIx items.size 0 lo:Nat):Int) == 0 && (1:Int) == 1 && (sIx items.size items.size hi-sIx items.size 0 lo) == items.size)=true then _ else _) _ _ s;rw[if_neg M,B4]
 first
  | exact S7 (m:=Y5 _) (U7 (TB ⟨_,rfl,TB h⟩) B)
  | exact S7 (m:=Y5 _) (U7 (S7 (TB (TB ⟨_,rfl,TB h⟩))) B)
  | exact S7 (S7 (m:=Y5 _) (U7 (TB (TB ⟨_,rfl,TB h⟩)) B))
  | exact S7 (S7 (m:=Y5 _) (U7 (TB ⟨_,rfl,TB h⟩) B))
end
end HT
namespace L2
open PySem PySem.Spec PyProof.Rows
abbrev TO:=St->Hp->(Option Int->Hp->Prop)->Prop
def PO(X:Cx)(e:Option Expr)(t:TO):Prop:=
 ∀(pins:List (Addr×Obj)) (s:S8) (σ:St) (H:Hp) (Q:Option Int->Hp->Prop),Inv X pins σ H s->t σ H Q->
  wpAny (model X.prog X.w) X.A (evalPart e X.env) (λu s'=>∃o H',Inv X pins σ H' s'/\V7 u o/\Q o H') X.xe s
def FY:TO:=λ_ H Q=>Q none H
def O5(t:TE):TO:=λσ H Q=>t σ H λx H1=>∃i,x=.int i/\Q (some i) H1
theorem intsAre_of:∀ {q:List Value},Vals (ns.map V.int) q->UZ q ns:=by
 induction ns with
 | nil=>intro q r;rw[WB]at r;cases r;exact .nil
 | cons n ns ih=>
  intro q r;rw[TU]at r;cases r with
  | cons r1 r2=>
   obtain⟨t,e⟩:=r1;subst e;exact .cons n t (ih r2)
section
variable {X:Cx}{e:Expr}{te:TE}{lo hi:Option Expr}{tl th:TO}{pos p2:Pos}
theorem G3:PO X none FY:=by
 intro pins s σ H Q I h;rw[evalPart_none];exact TB ⟨none,H,I,.none,h⟩
theorem FP(h:PE X e te):PO X (some e) (O5 te):=by
 intro pins s σ H Q I hw;rw[evalPart_some];refine a7 (h pins s σ H _ I hw) λu J ⟨x,H1,G,F,B⟩=>?_
 obtain⟨i,rfl,q⟩:=B;obtain⟨t,rfl⟩:=F;exact⟨some i,H1,G,.int i t,q⟩
def SlR(X:Cx)(r:V->Option Int->Option Int->Hp->VK->Prop):Prop:=
 ∀(pins:List (Addr×Obj)) (s:S8) (σ:St) (H:Hp) (x:V) (v vl vu:Value) (lo hi:Option Int) (sl:Addr) (Q:VK),Inv X pins σ H s->RelV x v->s.heap.IsSliceOf sl vl vu .none->V7 vl lo->V7 vu hi->r x lo hi H Q->
  ∃T id,typeLookup (.type T) "__getitem__" = pure (some (.builtin id))/\s.TypeIs v T/\wpAny (model X.prog X.w) X.A (V8 v (.ref sl)) (EP X pins σ Q) X.xe s
theorem SlR.or(h:SlR X r)(h':SlR X r'):SlR X (λx lo hi H Q=>r x lo hi H Q\/r' x lo hi H Q):=by
 intro pins s σ H x v J N lo hi M Q I F hs G B q;rcases q with q|q
 ·exact h pins s σ H x v J N lo hi M Q I F hs G B q
 ·exact h' pins s σ H x v J N lo hi M Q I F hs G B q
def S6(r:V->Option Int->Option Int->Hp->VK->Prop)(te:TE)(tl th:TO):TE:=λσ H Q=>te σ H λx H1=>tl σ H1 λl H2=>th σ H2 λu q=>r x l u q Q
theorem BG(hr:SlR X r)(he:PE X e te)(hl:PO X lo tl)(W:PO X hi th):PE X (.Subscript e (.Slice lo hi none p2) pos) (S6 r te tl th):=by
 intro pins s σ H Q I h;refine Subscript_ (a7 (he pins s σ H _ I h) λv s1 ⟨x,H1,I1,r1,N⟩=>?_);refine wpAny_Slice (a7 (hl pins s1 σ H1 _ I1 N) λF s2 ⟨l,H2,I2,pl,q2⟩=>a7 (W pins s2 σ H2 _ I2 q2) λG B ⟨u,J,Y,pu,q3⟩=>?_);rw[evalPart_none];refine TB ?_;have M:Inv X pins σ J {B with heap:=B.heap.push {cls:=.type "slice",data:=.fields #[F,G,.none]} }:=Y.kept (t':=B.toks) λb ob q=>TV _ q
 obtain⟨T,id,hT,ht,U⟩:=hr pins {B with heap:=B.heap.push {cls:=.type "slice",data:=.fields #[F,G,.none]} } σ J x v F G l u B.heap.objs.size Q M r1 (Heap.IsSliceOf.new ..) pl pu q3;show wpAny (model X.prog X.w) X.A (subscriptTail e (.Slice lo hi none p2) v (.ref B.heap.objs.size)) (EP X pins σ Q) X.xe {B with heap:=B.heap.push {cls:=.type "slice",data:=.fields #[F,G,.none]} };exact tail_any (ops:=[.ref B.heap.objs.size,v]) ht hT U (by with_unfolding_all rfl)
def nD(xs:List V)(lo hi:Option Int):List V:=(xs.drop (HT.sIx xs.length 0 lo)).take (HT.sIx xs.length xs.length hi-HT.sIx xs.length 0 lo)
theorem jO(xs:List V)(lo hi:Option Int):(nD xs lo hi).length<=xs.length:=by
 unfold nD;rw[Y0,List.length_drop]
 lia
def PU(K:S9):V->Option Int->Option Int->Hp->VK->Prop:=λx lo hi H Q=>∃a xs,x=.ref a/\SqT K H a xs /\
 ¬ (HT.sIx xs.length 0 lo=0/\HT.sIx xs.length xs.length hi=xs.length)/\∀p,H p=none->Q (.ref p) (upd H p (.tup (nD xs lo hi)))
theorem MT:SlR X (PU X.K):=by
 intro pins s σ H x v W vu lo hi Y Q I N hs U J h;obtain⟨a,xs,rfl,M,hw,q⟩:=h;cases N;obtain⟨F,r,G,hz⟩:=I.tuple M;have B:F.toArray.size=xs.length:=by rw[T3];exact r.length.symm
 refine⟨"tuple",_,PyProof.Rows.slot_tuple_getitem.lookup,G.typeIs,?_⟩;refine HT.gP G hs U J (by rw[B];exact hw) ?_ (by rw[B];exact hz);rw[B];refine⟨.ref s.heap.objs.size,_,I.laid (t':=s.toks) (o:=.tup (nD xs lo hi)) (λb ob q=>TV _ q) (TR _) ?_,rfl,q _ (I.hok.fresh (TR _))⟩;exact⟨UY (jO xs lo hi) hz,_,(r.drop (HT.sIx xs.length 0 lo)).take (HT.sIx xs.length xs.length hi-HT.sIx xs.length 0 lo),IsTupN.new _ _⟩
def RX(K:S9):R2:=λx y H Q=>∃a b ns ms,x=.ref a/\y=.ref b/\SqT K H a (ns.map V.int)/\SqT K H b (ms.map V.int)/\Q (.bl (HT.lexLt ns ms)) H
theorem JY(Y:X.A.units<cLine):OpR X (TY .Lt) (RX X.K):=by
 intro pins s σ H x y v u Q I G N h;obtain⟨a,b,ns,ms,rfl,rfl,ha,J,q⟩:=h;cases G;cases N;obtain⟨F,r1,p1,_⟩:=I.tuple ha;obtain⟨B,W,p2,_⟩:=I.tuple J;have M:UZ F.toArray.toList ns:=intsAre_of r1;have U:UZ B.toArray.toList ms:=intsAre_of W;exact HT.kU p1 p2 M U Y ⟨.bl (HT.lexLt ns ms),H,I,rfl,q⟩
def OS(K:S9):R2:=λx y H Q=>∃a b xs ys,x=.ref a/\y=.ref b/\SqT K H a xs/\SqT K H b ys/\xs≠[]/\xs.length+ys.length<=TK /\
 (ys=[]->Q (.ref a) H)/\(ys≠[]->∀p,H p=none->Q (.ref p) (upd H p (.tup (xs++ys))))
theorem Vals.nil_iff(r:Vals xs us):us=[]↔xs=[]:=by
 cases r with
 | nil=>simp
 | cons _ _=>simp
theorem FQ:OpR X (UP .Add) (OS X.K):=by
 intro pins s σ H x y v u Q I M W h;obtain⟨a,b,xs,ys,rfl,rfl,Y,N,J,hz,U,q2⟩:=h;cases M;cases W;obtain⟨aa,F,p1,_⟩:=I.tuple Y;obtain⟨G,B,p2,_⟩:=I.tuple N;refine HT.GN p1 p2 (λz=>J (F.nil_iff.mp z)) (λz=>⟨.ref a,H,I,rfl,U (B.nil_iff.mp z)⟩) (λz=>?_) (by rw[<- F.length,<- B.length];exact hz);refine⟨.ref s.heap.objs.size,_,I.laid (t':=s.toks) (o:=.tup (xs++ys)) (λb ob q=>TV _ q) (TR _) ?_,rfl,q2 (λw=>z (B.nil_iff.mpr w)) _ (I.hok.fresh (TR _))⟩;exact⟨by rw[VN];exact hz,_,F.append B,IsTupN.new _ _⟩
end
noncomputable def rG(n:Nat)(i:Int):Option Nat:=if 0<=i then(if i<n then some i.toNat else none)else if -(n:Int)<=i then some (i+n).toNat else none
def dW{α:Type}(xs:List α)(i:Int):Option α:=(rG xs.length i).bind λj=>xs[j]?
theorem wB(h:rG n i=some j):seqIndex? i n=some j/\j<n/\-(n:Int)<=i/\i<n:=by
 unfold rG at h;by_cases h0:0<=i
 ·rw[if_pos h0]at h
  by_cases h1:i<n
  ·rw[if_pos h1]at h
   have e:i.toNat=j:=UF h;exact⟨by rw[seqIndex_of h0 h1,e],by lia,by lia,h1⟩
  ·rw[if_neg h1]at h;cases h
 ·rw[if_neg h0]at h
  by_cases h1:-(n:Int)<=i
  ·rw[if_pos h1]at h
   have e:(i+n).toNat=j:=UF h;exact⟨by rw[seqIndex_neg (by lia) h1,e],by lia,h1,by lia⟩
  ·rw[if_neg h1]at h;cases h
theorem p4{q:Type}{xs:List q}{i:Int}{v:q}(h:dW xs i=some v):∃j,seqIndex? i xs.length=some j/\xs[j]?=some v/\j<xs.length/\-(xs.length:Int)<=i/\i<xs.length:=by
 unfold dW at h;cases e:rG xs.length i with
 | none=>rw[e]at h;cases h
 | some j=>
  rw[e]at h;obtain⟨h1,h2,F,B⟩:=wB e;exact⟨j,h1,h,h2,F,B⟩
theorem bZ{q:Type}{xs:List q}{j:Nat}{v:q}(h:xs[j]?=some v):dW xs (j:Int)=some v:=by
 have B:j<xs.length:=(List.getElem?_eq_some_iff.mp h).1;have e:rG xs.length (j:Int)=some j:=by
  unfold rG;rw[if_pos (by lia),if_pos (by lia)];simp
 unfold dW;rw[e];exact h
def qG(b:Expr):Prop:=∀o i,Y6 b false o i=operate [o,i] (V8 o i)
def IxR(X:Cx)(r:R2):Prop:=
 ∀(value slice:Expr) (pins:List (Addr×Obj)) (s:S8) (σ:St) (H:Hp) (x y:V) (v u:Value) (Q:VK),Inv X pins σ H s->RelV x v->RelV y u->r x y H Q->
  Y6 slice false v u=operate [v,u] (V8 v u)->wpAny (model X.prog X.w) X.A (subscriptTail value slice v u) (EP X pins σ Q) X.xe s
def MtR(X:Cx)(id:String)(r:V->List V->Hp->VK->Prop):Prop:=
 ∀(pins:List (Addr×Obj)) (s:S8) (σ:St) (H:Hp) (x:V) (xs:List V) (v:Value) (us:List Value) (Q:VK),Inv X pins σ H s->RelV x v->Vals xs us->r x xs H Q->
  wpAny (model X.prog X.w) X.A (call (.builtin id) (v::us)) (EP X pins σ Q) X.xe s
section
variable {X:Cx}{a b:Expr}{ta tb:TE}{pos:Pos}
theorem IxR.or(h:IxR X r)(h':IxR X r'):IxR X (λx y H Q=>r x y H Q\/r' x y H Q):=by
 intro value B pins s σ H x y v u Q I F G q hs;rcases q with q|q
 ·exact h value B pins s σ H x y v u Q I F G q hs
 ·exact h' value B pins s σ H x y v u Q I F G q hs
theorem MtR.or{id:String}{r J:V->List V->Hp->VK->Prop}(h:MtR X id r)(h':MtR X id J):MtR X id (λx xs H Q=>r x xs H Q\/J x xs H Q):=by
 intro pins s σ H x xs v G Q I F B q;rcases q with q|q
 ·exact h pins s σ H x xs v G Q I F B q
 ·exact h' pins s σ H x xs v G Q I F B q
theorem NX(N:IxR X r)(U:PE X a ta)(F:PE X b tb)(hs:qG b):PE X (.Subscript a b pos) (NS r ta tb):=by
 intro pins s σ H Q I h;exact Subscript_ (NE U F I h λv u M x y H2 J B G q=>N a b pins M σ H2 x y v u Q J B G q (hs _ _))
def P7(K:S9):R2:=λx y H Q=>∃p xs i v,x=.ref p/\y=.int i/\SqL K H p xs/\dW xs i=some v/\Q v H
def PK(K:S9):R2:=λx y H Q=>∃p xs i v,x=.ref p/\y=.int i/\SqT K H p xs/\dW xs i=some v/\Q v H
def P1:R2:=λx y H Q=>∃z i c,x=.str z/\y=.int i/\z.length<=TK/\dW z.cps.toList i=some c/\Q (.str ⟨#[c]⟩) H
theorem E7:IxR X (P7 X.K):=by
 intro value B pins s σ H x y v u Q I W ry h hs;obtain⟨p,xs,i,z,rfl,rfl,hq,Y,q⟩:=h;cases W;obtain⟨t,rfl⟩:=ry;obtain⟨M,r,F,hz⟩:=I.list hq;obtain⟨j,h1,h2,h3,U,h5⟩:=p4 Y;obtain⟨w,N,J⟩:=r.get h2;have hl:=r.length;have hn:=mH;have fin:EP X pins σ Q w s:=⟨z,H,I,J,q⟩;by_cases h0:0<=i
 ·have G:i.toNat=j:=by
   rw[seqIndex_of h0 h5]at h1;exact UF h1
  exact item_listR F.isList h0 (by lia) (by rw[G];simpa using N) fin hs
 ·have G:(i+(M.toArray.size:Int)).toNat=j:=by
   rw[seqIndex_neg (by lia) U]at h1;rw[T3,<- hl];exact UF h1
  exact subscriptTail_builtinR (x:=w) F.isList.typeIs slot_list_getitem.lookup
   (wpAny_getItem_list_neg (Q:=λr s'=>r=w/\EP X pins σ Q r s') F.isList (by lia) (by rw[T3] <;> lia) (by lia) (by rw[G];simpa using N) ⟨rfl,fin⟩) hs
theorem LM:IxR X (PK X.K):=by
 intro value B pins s σ H x y v u Q I J N h hs;obtain⟨p,xs,i,z,rfl,rfl,W,M,q⟩:=h;cases J;obtain⟨t,rfl⟩:=N;obtain⟨Y,r,G,hz⟩:=I.tuple W;obtain⟨j,h1,h2,h3,h4,h5⟩:=p4 M;obtain⟨w,U,F⟩:=r.get h2;have hl:=r.length;have hn:=mH;have fin:EP X pins σ Q w s:=⟨z,H,I,F,q⟩;exact subscriptTail_builtinR (x:=w) G.typeIs slot_tuple_getitem.lookup
  (getItem_tuple (j:=j) (Q:=λr s'=>r=w/\EP X pins σ Q r s') G (by lia) (by lia) (by rw[T3,<- hl];exact h1) (by simpa using U) ⟨rfl,fin⟩) hs
theorem J5:IxR X P1:=by
 intro value B pins s σ H x y v u Q I G J h hs;obtain⟨z,i,c,rfl,rfl,hz,M,q⟩:=h;obtain⟨t,rfl⟩:=G;obtain⟨t',rfl⟩:=J;obtain⟨j,h1,h2,h3,F,U⟩:=p4 M;have Y:z.cps.toList.length=z.length:=by simp[Str.length]
 rw[Y]at h1 F U;have hn:=mH;exact tail_any (typeIs_str s z t) slot_str_getitem.lookup (getItem_str (c:=c) (by
  have N:decide (i < -(2^63:Int))=false:=decide_eq_false (by lia);have W:decide (i ≥ 2^63)=false:=decide_eq_false (by lia);rw[N,W,Bool.or_false]) (by rw[h1];simpa using h2) ⟨.str ⟨#[c]⟩,H,I.tok _,⟨_,rfl⟩,q⟩) hs
def S5(K:S9):R2:=λx y H Q=>P7 K x y H Q\/PK K x y H Q\/P1 x y H Q
theorem KZ:IxR X (S5 X.K):=E7.or (LM.or J5)
theorem uN(q:List Value)(n j:Nat)(u:Value):VA (·.setIfInBounds j u) {cls:=.type "list",data:=.seq q.toArray n}={cls:=.type "list",data:=.seq (q.set j u).toArray n}:=by
 simp[VA]
theorem Inv.lst{pins:List (Addr×Obj)}{σ:St}{H:Hp}{s:S8}{p:Addr}{xs:List V}(I:Inv X pins σ H s)(h:H p=some (.lst xs)) :
  ∃(q:List Value) (n:Nat),Vals xs q/\s.heap.get? p=some {cls:=.type "list",data:=.seq q.toArray n}/\xs.length<=TK:=by
 obtain⟨z,q,n,r,e⟩:=I.hok p _ h;exact⟨q,n,r,e,z⟩
theorem Inv.lstUpd{pins:List (Addr×Obj)}{xs ys:List V}{B its':List Value}{n F:Nat}{f:Obj->Obj}(I:Inv X pins σ H s)(h:H p=some (.lst xs))
  (M:s.heap.get? p=some {cls:=.type "list",data:=.seq B.toArray n}) (G:f {cls:=.type "list",data:=.seq B.toArray n}={cls:=.type "list",data:=.seq its'.toArray F}) (r:Vals ys its') (hz:ys.length<=TK) (t:Nat) :
  Inv X pins σ (upd H p (.lst ys)) {s with heap:=s.heap.update p f,toks:=t}:=by
 have e:(s.heap.update p f).get? p=some {cls:=.type "list",data:=.seq its'.toArray F}:=by
  rw[WS f M (by rw[G] <;> rfl),G]
 refine I.write (x:=p) (e:=p) (by rw[h];trivial) (.inl rfl) (λb u J q=>(WC _ _ (UB J)).trans q) ⟨_,e⟩ ?_;exact⟨hz,its',F,r,e⟩
def O9:V->V->V->Hp->(Hp->Prop)->Prop:=λo i v H Q=>∃p xs k j,o=.ref p/\i=.int k/\H p=some (.lst xs)/\rG xs.length k=some j/\Q (upd H p (.lst (xs.set j v)))
theorem set_list:AG X O9:=by
 intro pins s σ H o i v ov iv u Q I ro ri rv h;obtain⟨p,xs,k,j,rfl,rfl,Y,hj,q⟩:=h;cases ro;obtain⟨t,rfl⟩:=ri;obtain⟨B,n,r,J,hz⟩:=I.lst Y;obtain⟨h1,h2,N,M⟩:=wB hj;have F:=r.length;have hn:=mH;have U:Inv X pins σ (upd H p (.lst (xs.set j v))) {s with heap:=s.heap.update p (VA (·.setIfInBounds j u))}:=
  I.lstUpd Y J (uN B n j u) (r.set rv j) (by rw[List.length_set];exact hz) s.toks
 by_cases h0:0<=k
 ·have G:k.toNat=j:=by
   rw[seqIndex_of h0 M]at h1;exact UF h1
  exact PySem.W.ki_setAt J h0 (by lia) (by rw[T3,<- F];exact M) (by rw[G];exact⟨_,U,q⟩)
 ·have G:(k+(B.toArray.size:Int)).toNat=j:=by
   rw[seqIndex_neg (by lia) N]at h1;rw[T3,<- F];exact UF h1
  exact PySem.W.ki_setBack J (by lia) (by rw[T3,<- F];exact N) (by lia) (by rw[G];exact⟨_,U,q⟩)
theorem pL(lo hi:Option Int)(n:Nat):(WD lo hi none n).1=((HT.sIx n 0 lo:Nat):Int)/\(WD lo hi none n).2.1=((HT.sIx n n hi:Nat):Int)/\(WD lo hi none n).2.2=1:=by
 refine⟨?_,?_,rfl⟩
 ·cases lo with
  | none=>simp[WD,HT.sIx]
  | some i=>
   simp only[WD,HT.sIx,Option.getD_none,show(1:Int)>0 by decide,if_true];by_cases h:i<0
   ·simp only[h,if_true] <;> lia
   ·simp only[h,if_false] <;> lia
 ·cases hi with
  | none=>simp[WD,HT.sIx]
  | some i=>
   simp only[WD,HT.sIx,Option.getD_none,show(1:Int)>0 by decide,if_true];by_cases h:i<0
   ·simp only[h,if_true] <;> lia
   ·simp only[h,if_false] <;> lia
theorem mV(q:List Value)(lo hi:Option Int):slicePick q.toArray lo hi none=((q.drop (HT.sIx q.length 0 lo)).take (HT.sIx q.length q.length hi-HT.sIx q.length 0 lo)).toArray:=by
 obtain⟨h1,h2,B⟩:=pL lo hi q.toArray.size;unfold slicePick;rw[h1,h2,B];simp only[sliceRange_one,pick_run,T3] <;> rfl
def QX(K:S9):V->Option Int->Option Int->Hp->VK->Prop:=λx lo hi H Q=>∃a xs,x=.ref a/\SqL K H a xs/\∀p,H p=none->Q (.ref p) (upd H p (.lst (nD xs lo hi)))
theorem EO:SlR X (QX X.K):=by
 intro pins s σ H x v W vu lo hi Y Q I M hs N G h;obtain⟨a,xs,rfl,J,q⟩:=h;cases M;obtain⟨U,r,F,hz⟩:=I.list J;have B:=r.length;refine⟨"list",_,slot_list_getitem.lookup,F.isList.typeIs,?_⟩;refine wpAny_getItem_list_slice F.isList hs N G .none (by simp) ?_ (by rw[T3] <;> lia);rw[mV,<- B];refine⟨.ref s.heap.objs.size,_,I.laid (t':=s.toks) (o:=.lst (nD xs lo hi)) (λb ob q=>TV _ q) (TR _) ?_,rfl,q _ (I.hok.fresh (TR _))⟩;exact⟨UY (jO xs lo hi) hz,_,0,(r.drop (HT.sIx xs.length 0 lo)).take (HT.sIx xs.length xs.length hi-HT.sIx xs.length 0 lo),T8 _ rfl⟩
noncomputable def iI:V->Bool
 | .non=>true
 | .bl _=>true
 | .int _=>true
 | .str _=>true
 | _=>false
noncomputable def JB:V->V->Bool
 | .non,.non=>true
 | .bl a,.bl b=>a == b
 | .bl a,.int b=>(if a then 1 else 0) == b
 | .int a,.bl b=>a == (if b then 1 else 0)
 | .int a,.int b=>a == b
 | .str a,.str b=>a == b
 | _,_=>false
theorem JI(B:RelV y u)(q:RelV x v)(F:iI y=true)(fx:iI x=true):X8 A s u v (JB y x):=by
 cases y with
 | non=>
  cases B;cases x with
  | non=>cases q;exact SeqAt.EqAt.same _
  | bl b=>cases q;exact SeqAt.EqAt.none_bool b
  | int b=>obtain⟨t,rfl⟩:=q;exact SeqAt.EqAt.none_int b t
  | str b=>obtain⟨t,rfl⟩:=q;exact SeqAt.EqAt.none_str b t
  | _=>exact absurd (show false=true from fx) TZ
 | bl a=>
  cases B;cases x with
  | non=>cases q;exact SeqAt.EqAt.bool_none a
  | bl b=>cases q;exact SeqAt.EqAt.bool_bool a b
  | int b=>obtain⟨t,rfl⟩:=q;exact SeqAt.EqAt.bool_int a b t
  | str b=>obtain⟨t,rfl⟩:=q;exact SeqAt.EqAt.bool_str a b t
  | _=>exact absurd (show false=true from fx) TZ
 | int a=>
  obtain⟨t',rfl⟩:=B;cases x with
  | non=>cases q;exact SeqAt.EqAt.int_none a t'
  | bl b=>cases q;exact SeqAt.EqAt.int_bool a t' b
  | int b=>obtain⟨t,rfl⟩:=q;exact SeqAt.EqAt.int_int a t' b t
  | str b=>obtain⟨t,rfl⟩:=q;exact SeqAt.EqAt.int_str a t' b t
  | _=>exact absurd (show false=true from fx) TZ
 | str a=>
  obtain⟨t',rfl⟩:=B;cases x with
  | non=>cases q;exact SeqAt.EqAt.str_none a t'
  | bl b=>cases q;exact SeqAt.EqAt.str_bool a t' b
  | int b=>obtain⟨t,rfl⟩:=q;exact SeqAt.EqAt.str_int a t' b t
  | str b=>obtain⟨t,rfl⟩:=q;exact SeqAt.EqAt.str_str a t' b t
  | _=>exact absurd (show false=true from fx) TZ
 | _=>exact absurd (show false=true from F) TZ
def IH(x:V)(u:Value):Bool:=match u with
 | .none=>JB .non x
 | .bool b=>JB (.bl b) x
 | .int i _=>JB (.int i) x
 | .str z _=>JB (.str z) x
 | _=>false
theorem C2(r:RelV y u)(f:iI y=true):IH x u=JB y x:=by
 cases y with
 | non=>cases r;rfl
 | bl b=>cases r;rfl
 | int i=>obtain⟨t,rfl⟩:=r;rfl
 | str z=>obtain⟨t,rfl⟩:=r;rfl
 | _=>exact absurd (show false=true from f) TZ
theorem pY:∀ {xs:List V} {us:List Value},Vals xs us->xs.all iI=true->us.any (IH x)=xs.any λy=>JB y x
 | _,_,.nil,_=>rfl
 | y::xs,u::us,.cons r t,f=>by
  rw[XC,UE]at f;rw[VO,VO,C2 r f.1,pY t f.2]
theorem lS(B:RelV x v)(fx:iI x=true):∀ {xs:List V} {us:List Value},Vals xs us->xs.all iI=true->∀u∈us,X8 A s u v (IH x u)
 | _,_,.nil,_=>λu q=>by cases q
 | y::xs,u::us,.cons r t,f=>λF q=>by
  rw[XC,UE]at f;rcases List.mem_cons.mp q with rfl|q
  ·rw[C2 r f.1];exact JI r B f.1 fx
  ·exact lS B fx t f.2 F q
def inV(x:V)(xs:List V):Bool:=xs.any λy=>JB y x
def SK(K:S9)(neg:Bool):R2:=λx y H Q=>∃p xs,y=.ref p/\(SqL K H p xs\/SqT K H p xs)/\iI x=true/\xs.all iI=true/\Q (.bl (if neg then !inV x xs else inV x xs)) H
theorem zY:OpR X (TY .In) (SK X.K false):=by
 intro pins s σ H x y v u Q I J M h;obtain⟨p,xs,rfl,F,fx,fs,q⟩:=h;cases M;rcases F with F|F
 ·obtain⟨B,r,G,hz⟩:=I.list F
  refine SeqAt.in_listAt (IH x) G.isList (λw hw=>lS J fx r fs w (by simpa using hw)) ⟨.bl _,H,I,rfl,?_⟩;rw[show B.toArray.any (IH x)=B.any (IH x) by simp,pY r fs];exact q
 ·obtain⟨B,r,G,hz⟩:=I.tuple F
  refine SeqAt.in_tupleAt (IH x) G (λw hw=>lS J fx r fs w (by simpa using hw)) ⟨.bl _,H,I,rfl,?_⟩;rw[show B.toArray.any (IH x)=B.any (IH x) by simp,pY r fs];exact q
theorem pJ:OpR X (TY .NotIn) (λx y H Q=>∃i j,x=.str i/\y=.str j/\Q (.bl (!(!(YW j i 0 j.length 1).isEmpty))) H):=by
 intro pins s σ H x y v u Q I B F h;obtain⟨i,j,rfl,rfl,q⟩:=h;obtain⟨t,rfl⟩:=B;obtain⟨t',rfl⟩:=F;exact notIn_str ⟨.bl _,H,I,rfl,q⟩
theorem CallR.or(h:CallR X f r)(h':CallR X f r'):CallR X f (λxs H Q=>r xs H Q\/r' xs H Q):=by
 intro pins s σ H xs F Q I B q;rcases q with q|q
 ·exact h pins s σ H xs F Q I B q
 ·exact h' pins s σ H xs F Q I B q
theorem pN:CallR X (.type "list") (λxs H Q=>∃p ys,xs=[.ref p]/\(SqL X.K H p ys\/SqT X.K H p ys)/\∀l,H l=none->Q (.ref l) (upd H l (.lst ys))):=by
 intro pins s σ H xs us Q I r h;obtain⟨p,ys,rfl,N,q⟩:=h;obtain⟨u,rfl,rx⟩:=vals1 r;cases rx;have fin:∀(B:List Value),Vals ys B->ys.length<=TK->∀(h':Heap) (F:Nat),(∀b o',s.heap.get? b=some o'->h'.get? b=some o')->
   h'.get? s.heap.objs.size=some {cls:=.type "list",dict:=none,data:=.seq B.toArray F,slots:=#[]}->EP X pins σ Q (.ref s.heap.objs.size) {s with heap:=h'}:=λB G hz h' F M e=>
  ⟨.ref s.heap.objs.size,_,I.laid (t':=s.toks) M (TR _) (show ObjOk X.prog X.w _ h' _ (.lst ys)from⟨hz,B,F,G,e⟩),rfl,q _ (I.hok.fresh (TR _))⟩
 rcases N with N|N
 ·obtain⟨B,G,U,hz⟩:=I.list N
  have J:=G.length;obtain⟨o,ho,W,n,Y⟩:=U.isList;exact call_list_seq p (.inl rfl) ho W Y (λh' F M e=>fin B G hz h' F M e) (by simp only[T3] <;> lia)
 ·obtain⟨B,G,U,hz⟩:=I.tuple N
  have J:=G.length;obtain⟨o,ho,W,n,Y⟩:=U;exact call_list_seq p (.inr rfl) ho W Y (λh' F M e=>fin B G hz h' F M e) (by simp only[T3] <;> lia)
theorem mW:CallR X (.type "tuple") (λxs H Q=>∃p ys,xs=[.ref p]/\((SqL X.K H p ys/\∀l,H l=none->Q (.ref l) (upd H l (.tup ys)))\/(SqT X.K H p ys/\Q (.ref p) H))):=by
 intro pins s σ H xs us Q I r h;obtain⟨p,ys,rfl,h⟩:=h;obtain⟨u,rfl,W⟩:=vals1 r;cases W;rcases h with⟨G,q⟩|⟨G,q⟩
 ·obtain⟨B,J,F,hz⟩:=I.list G
  have M:=J.length;refine call_tuple_list F.isList (λh' U=>?_) (by simp only[T3] <;> lia);have N:Inv X pins σ H {s with heap:=h'}:=I.kept (t':=s.toks) U;have Y:Inv X pins σ (upd H h'.objs.size (.tup ys)) {s with heap:=h'.push {cls:=.type "tuple",data:=.seq B.toArray} }:=
   N.laid (t':=s.toks) (λb o e=>TV _ e) (TR _) (show ObjOk X.prog X.w _ _ _ (.tup ys)from⟨hz,B,J,IsTupN.new _ _⟩)
  exact⟨.ref h'.objs.size,_,Y,rfl,q _ (N.hok.fresh (TR _))⟩
 ·obtain⟨B,J,F,hz⟩:=I.tuple G
  exact call_tuple_same F ⟨.ref p,H,I,rfl,q⟩
def SF(K:S9)(T:String)(x:V)(H:Hp):Prop:=match x with
 | .str _=>T = "str"
 | .int _=>T = "int"
 | .ref p=>(T = "list" /\ ∃xs,SqL K H p xs)\/(T = "tuple" /\ ∃o,K.lookup p=some o/\o.cls=.type "tuple" /\ o.dict=none) \/
   (T = "dict" /\ ((∃kvs,H p=some (.dK kvs))\/∃kvs,H p=some (.dT kvs)))\/(T = "set" /\ ∃S n,H p=some (.set S n))
 | _=>False
theorem KQ(I:Inv X pins σ H s)(r:RelV x v)(ty:SF X.K T x H) :
  s.TypeIs v T/\∀a,v=.ref a->∃J,s.heap.get? a=some J/\J.dict=none:=by
 cases x with
 | str z=>
  obtain⟨t,rfl⟩:=r;cases(show T = "str" from ty);exact⟨typeIs_str s z t,λ_ e=>nomatch e⟩
 | int i=>
  obtain⟨t,rfl⟩:=r;cases(show T = "int" from ty);exact⟨X9 s i t,λ_ e=>nomatch e⟩
 | ref p=>
  cases r;rcases ty with⟨rfl,xs,N⟩|⟨rfl,o,q,M,B⟩|⟨rfl,q⟩|⟨rfl,S,n,q⟩
  ·obtain⟨U,_,G,_⟩:=I.list N
   refine⟨G.isList.typeIs,λa e=>?_⟩;cases e;obtain⟨o,n,e,c,B,_⟩:=G;exact⟨o,e,B⟩
  ·refine⟨⟨o,I.kIn p o q,M⟩,λa e=>?_⟩
   cases e;exact⟨o,I.kIn _ o q,B⟩
  ·have z:∃o,s.heap.get? p=some o/\o.ExactDict:=by
    rcases q with⟨kvs,q⟩|⟨kvs,q⟩
    ·obtain⟨_,_,_,_,o,_,_,e,ex,_⟩:=I.hok p _ q
     exact⟨o,e,ex⟩
    ·obtain⟨_,_,_,_,o,_,_,e,ex,_⟩:=I.hok p _ q
     exact⟨o,e,ex⟩
   obtain⟨o,e,ex⟩:=z;refine⟨⟨o,e,ex.1⟩,λa F=>?_⟩;cases F;exact⟨o,e,ex.2.1⟩
  ·obtain⟨o,_,_,_,e,ex,_⟩:=I.hok p _ q
   refine⟨⟨o,e,ex.1⟩,λa F=>?_⟩;cases F;exact⟨o,e,ex.2.1⟩
 | _=>exact VT ty
def RZ(K:S9)(T:String)(r:V->List V->Hp->VK->Prop)(to:TE)(t:TA):TE:=λσ H Q=>to σ H λx H1=>SF K T x H1/\t σ H1 λxs H2=>r x xs H2 Q
variable {o e:Expr}{es:List Expr}{to:TE}{t:TA}{name:Str}{apos cpos:Pos}{T id:String}{r:V->List V->Hp->VK->Prop}
theorem IU(pa:PlainAttrs T)(J:Slot T name id)(M:typeOf (.builtin id)=pure (.type "method_descriptor"))(hm:MtR X id r)(ho:PE X o to)(ha:PA X (e::es) t)
  (F:WZ o name X.env (eval o X.env)=eval o X.env:=by rfl)
  (G:((T7 cpos (TC (e::es) X.env)).all (λx => !x.1) && (backToKw cpos (YA [] X.env)).all (λx => x.1.isSome)
   && decide ((e::es).length+([]:List V0).length+(if([]:List V0).isEmpty then 0 else 1)<30))=true:=by rfl)
  (B:(apos.endLine == cpos.line)=true:=by rfl) (hs:TC (e::es) X.env=(false,eval e X.env)::TC es X.env:=by rfl) (q:(T7 cpos (TC es X.env)).any (·.1)=false:=by rfl) :
  PE X (.Call (.Attribute o name apos) (e::es) [] cpos) (RZ X.K T r to t):=by
 intro pins s σ H Q I h;refine wpAny_Call_method_late F G B rfl (a7 (ho pins s σ H _ I h) λv s1 ⟨x,H1,U,N,ty,Y⟩=>?_);obtain⟨h1,h2⟩:=KQ U N ty;refine⟨T,id,pa,J,M,h1,h2,?_⟩;have W:=ha cpos pins s1 σ H1 _ U Y;rw[hs]at W ⊢;refine Y7 (by show(false || (T7 cpos (TC es X.env)).any (·.1))=false;rw[q] <;> rfl) (zae ?_);exact a7 W λus s2 ⟨vs,H2,I2,r2,q2⟩=>hm pins s2 σ H2 x vs v us Q I2 N r2 q2
end
def SD(X:Cx)(id:String)(r:V->List V->Hp->VK->Prop):Prop:=
 ∀(pins:List (Addr×Obj)) (s:S8) (σ:St) (H:Hp) (x:V) (xs:List V) (v:Value) (us:List Value) (Q:VK),Inv X pins σ H s->RelV x v->Vals xs us->r x xs H Q->
  wpAny (model X.prog X.w) X.A (call (.builtin id) (v::us)) (EP X pins σ Q) X.xe s
theorem Vals.one:∀ {x:V} {us:List Value},Vals [x] us->∃u,us=[u]/\RelV x u
 | _,_,.cons r .nil=>⟨_,rfl,r⟩
theorem Vals.two:∀ {x y:V} {us:List Value},Vals [x,y] us->∃u v,us=[u,v]/\RelV x u/\RelV y v
 | _,_,_,.cons r (.cons q .nil)=>⟨_,_,rfl,r,q⟩
theorem Vals.zero:∀ {us:List Value},Vals [] us->us=[]
 | _,.nil=>rfl
theorem Vals.rep(h:Vals xs us):∀k:Nat,Vals (UA k xs).flatten (UA k us).flatten
 | 0=>.nil
 | k+1=>by
  rw[WT,WT,W0,W0];exact Vals.append h (Vals.rep h k)
theorem foldl_rep(q:List Value):∀(k:Nat) (acc:List Value),
  List.foldl (λB F=>B++F) acc.toArray (UA k q.toArray)=(acc++(UA k q).flatten).toArray
 | 0,acc=>by simp
 | k+1,acc=>by
  have e:acc.toArray++q.toArray=(acc++q).toArray:=by simp
  have G:(acc++q)++(UA k q).flatten=acc++(UA (k+1) q).flatten:=by
   rw[WT,W0,List.append_assoc]
  rw[<- G,<- foldl_rep q k (acc++q),<- e,WT,Y8]
section
variable {X:Cx}{pins:List (Addr×Obj)}{σ:St}{H:Hp}{s:S8}{l b:Addr}{xs ys zs:List V}
theorem Inv.lset{B its':List Value}{n:Nat}{f:Array Value->Array Value}{t':Nat}(I:Inv X pins σ H s)(F:H l=some (.lst xs))
  (e:s.heap.get? l=some {cls:=.type "list",data:=.seq B.toArray n}) (N:f B.toArray=its'.toArray) (M:Vals ys its') (hz:ys.length<=TK) :
  Inv X pins σ (upd H l (.lst ys)) {s with heap:=s.heap.update l (VA f),toks:=t'}:=by
 have q:=PySem.IsL.update e f;rw[N]at q;refine I.write (x:=l) (e:=l) (by rw[F];exact trivial) (.inl rfl) (λU u G J=>(WC s.heap (VA f) (UB G)).trans J) ⟨_,q⟩ ?_;exact⟨hz,its',_,M,q⟩
theorem Inv.lnew(I:Inv X pins σ H s)(B:Vals ys its)(hz:ys.length<=TK) :
  Inv X pins σ (upd H s.heap.objs.size (.lst ys)) {s with heap:=s.heap.push {cls:=.type "list",data:=.seq its.toArray},toks:=t'}:=
 I.laid (λ_ _ q=>TV _ q) (TR _) ⟨hz,its,0,B,T8 _ rfl⟩
theorem Inv.fresh(I:Inv X pins σ H s):H s.heap.objs.size=none:=I.hok.fresh (TR _)
theorem Inv.lstM(I:Inv X pins σ H s)(B:H l=some (.lst xs)):xs.length<=TK/\∃(q:List Value) (n:Nat),Vals xs q/\xs.length=q.length/\s.heap.get? l=some {cls:=.type "list",data:=.seq q.toArray n}:=by
 obtain⟨z,q,n,r,e⟩:=I.hok l _ B;exact⟨z,q,n,r,r.length,e⟩
theorem A6(h:n<=TK):zaf n=false:=by
 unfold zaf;exact decide_eq_false (by lia)
end
section
variable {X:Cx}
def xR:V->List V->Hp->VK->Prop:=λx vs H Q=>∃l xs y,x=.ref l/\vs=[y]/\H l=some (.lst xs)/\xs.length<TK/\Q .non (upd H l (.lst (xs++[y])))
theorem nF:SD X "list.append" xR:=by
 intro pins s σ H x vs v W Q I J N h;obtain⟨l,xs,y,rfl,rfl,G,hz,q⟩:=h;cases J;obtain⟨u,rfl,M⟩:=N.one;obtain⟨z,B,n,r,U,e⟩:=I.lstM G;refine call_meets F.slot_list_append ⟨_,e,rfl⟩ F.entry_list_append (F.args_list_append_2 _ _) (PySem.list_append l B.toArray n u (by rw[T3];lia)) ⟨e,?_⟩;refine⟨.non,_,I.lset (its':=B++[u]) G e (by simp) (r.append (.cons M .nil)) ?_,rfl,q⟩;rw[VN,zag]
 lia
theorem len_rep{q:Type}(xs:List q)(k:Nat):(UA k xs).flatten.length=k*xs.length:=by
 induction k with
 | zero=>simp
 | succ k ih=>rw[WT,W0,VN,ih,Nat.succ_mul,Nat.add_comm]
end
section
variable {prog:TJ}{w:World}{A:TX}{E:Value->S8->Prop}{s:S8}
end
section
variable {X:Cx}
end
section
variable {κ:Type}[DecidableEq κ]
noncomputable def iN(kvs:List (κ×V))(k:κ):Option V:=(kvs.find? λq=>decide (q.1=k)).map (·.2)
noncomputable def putK(kvs:List (κ×V))(k:κ)(v:V):List (κ×V):=
 if(kvs.any λq=>decide (q.1=k))=true then kvs.map (λq=>if q.1=k then(q.1,v)else q)else kvs++[(k,v)]
noncomputable def IR(kvs:List (κ×V))(k:κ):List (κ×V):=kvs.filter λq=>decide (q.1≠k)
theorem g8{p:κ×V}{r:List (κ×V)}{k:κ}(e:p.1=k):iN (p::r) k=some p.2:=by simp[iN,VP,e]
theorem gY{p:κ×V}{r:List (κ×V)}{k:κ}(e:¬ p.1=k):iN (p::r) k=iN r k:=by simp[iN,VP,e]
theorem sO(k:κ):∀kvs:List (κ×V),(kvs.any λq=>decide (q.1=k))=(iN kvs k).isSome
 | []=>rfl
 | p::r=>by
  rw[VO];by_cases e:p.1=k
  ·simp only[g8 e,decide_eq_true e,Bool.true_or,Option.isSome_some]
  ·rw[gY e,decide_eq_false e,Bool.false_or];exact sO k r
theorem eR(kvs:List (κ×V))(k:κ)(v:V):(putK kvs k v).length<=kvs.length+1:=by
 unfold putK;split
 ·rw[TL];lia
 ·rw[VN,UK,WL];lia
theorem RelO.isSome_eq(r:RelO o u):o.isSome=u.isSome:=by
 cases o with
 | none=>cases u with
  | none=>rfl
  | some _=>exact(show False from r).elim
 | some _=>cases u with
  | none=>exact(show False from r).elim
  | some _=>rfl
theorem RelO.getD(r:RelO o u)(q:RelV d d'):RelV (o.getD d) (u.getD d'):=by
 cases o with
 | none=>cases u with
  | none=>exact q
  | some _=>exact(show False from r).elim
 | some _=>cases u with
  | none=>exact(show False from r).elim
  | some _=>exact r
theorem KV.val(r:KV kvs vs)(k:κ):RelO (iN kvs k) (W1 vs k):=by
 unfold KV at r;induction r with
 | nil=>exact U8
 | @cons p q ps qs h t ih=>
  obtain⟨h1,h2⟩:=h;by_cases e:p.1=k
  ·have B:q.1=k:=h1.symm.trans e
   have b:W1 (q::qs) k=some q.2:=by simp[W1,VP,B]
   rw[g8 e,b];exact h2
  ·have B:¬ q.1=k:=λz=>e (h1.trans z)
   have b:W1 (q::qs) k=W1 qs k:=by simp[W1,VP,B]
   rw[gY e,b];exact ih
theorem KV.any(r:KV kvs vs)(k:κ):(kvs.any λq=>decide (q.1=k))=vs.any λq=>decide (q.1=k):=by
 unfold KV at r;induction r with
 | nil=>rfl
 | cons h t ih=>rw[VO,VO,ih,h.1]
theorem KV.repl(r:KV kvs vs)(k:κ)(F:RelV y u) :
  KV (kvs.map λB=>if B.1=k then(B.1,y)else B) (vs.map λB=>if B.1=k then(B.1,u)else B):=by
 unfold KV at r ⊢;induction r with
 | nil=>exact .nil
 | @cons p q ps qs h t ih=>
  rw[TU,TU];refine .cons ?_ ih;obtain⟨h1,h2⟩:=h;by_cases e:p.1=k
  ·rw[if_pos e,if_pos (h1.symm.trans e)];exact⟨h1,F⟩
  ·rw[if_neg e,if_neg (λz=>e (h1.trans z))];exact⟨h1,h2⟩
theorem KV.put(r:KV kvs vs)(k:κ)(q:RelV y u):KV (putK kvs k y) (stored vs k u):=by
 unfold putK stored;rw[r.any k];by_cases e:(vs.any λB=>decide (B.1=k))=true
 ·rw[if_pos e,if_pos e];exact r.repl k q
 ·rw[if_neg e,if_neg e];exact Paired.snoc r ⟨rfl,q⟩
theorem KV.drop(r:KV kvs vs)(k:κ):KV (IR kvs k) (without vs k):=by
 unfold KV at r ⊢;unfold IR without;induction r with
 | nil=>exact .nil
 | @cons p q ps qs h t ih=>
  obtain⟨h1,h2⟩:=h;rw[zah,zah];by_cases e:p.1=k
  ·have a:¬ decide (p.1≠k)=true:=by simp[e]
   have b:¬ decide (q.1≠k)=true:=by simp[h1.symm.trans e]
   rw[if_neg a,if_neg b];exact ih
  ·have B:¬ q.1=k:=λz=>e (h1.trans z)
   have a:decide (p.1≠k)=true:=by simp[e]
   have b:decide (q.1≠k)=true:=by simp[B]
   rw[if_pos a,if_pos b];exact .cons ⟨h1,h2⟩ ih
theorem KV.length(r:KV kvs vs):kvs.length=vs.length:=W4 r
end
theorem jZ(r:RelV (kV k) u):(aU P w).is k u=true:=by
 cases k with
 | inl i=>obtain⟨t,e⟩:=(show ∃t,u=Value.int i t from r);subst e;exact rJ P w i t
 | inr x=>obtain⟨t,e⟩:=(show ∃t,u=Value.str x t from r);subst e;exact rL P w x t
theorem oH:∀ {ks:List Key} {us:List Value},Vals (ks.map kV) us->ItemsAre (aU P w) ks us
 | [],_,r=>by rw[WB]at r;cases r;exact .nil
 | k::ks,_,r=>by
  rw[TU]at r;cases r with
  | cons h t=>exact .cons (jZ h) (oH t)
abbrev KT(H:Hp):List (List Key×V)->List (List Key×Addr×Value)->Prop:=UR λp q=>p.1=q.1/\H q.2.1=some (.tup (p.1.map kV))/\RelV p.2 q.2.2
theorem KT.val(r:KT H kvs xs)(k:List Key):RelO (iN kvs k) ((atKey xs k).map (·.2)):=by
 induction r with
 | nil=>exact U8
 | @cons p q ps qs h t ih=>
  obtain⟨h1,_,h2⟩:=h;by_cases e:p.1=k
  ·have B:q.1=k:=h1.symm.trans e
   have b:atKey (q::qs) k=some q.2:=by simp[atKey,VP,B]
   rw[g8 e,b];exact h2
  ·have B:¬ q.1=k:=λz=>e (h1.trans z)
   have b:atKey (q::qs) k=atKey qs k:=by simp[atKey,VP,B]
   rw[gY e,b];exact ih
theorem KT.repl(r:KT H kvs xs)(k:List Key)(G:RelV y u) :
  KT H (kvs.map λB=>if B.1=k then(B.1,y)else B) (xs.map (putAt k u)):=by
 induction r with
 | nil=>exact .nil
 | @cons p q ps qs h t ih=>
  rw[TU,TU];refine .cons ?_ ih;obtain⟨h1,h2,F⟩:=h;unfold putAt;by_cases e:p.1=k
  ·rw[if_pos e,if_pos (h1.symm.trans e)];exact⟨h1,h2,G⟩
  ·rw[if_neg e,if_neg (λz=>e (h1.trans z))];exact⟨h1,h2,F⟩
theorem KT.put(r:KT H kvs xs)(k:List Key)(F:H b=some (.tup (k.map kV)))(B:RelV y u) :
  KT H (putK kvs k y) (storedH xs k b u):=by
 have e:(kvs.any λG=>decide (G.1=k))=(atKey xs k).isSome:=by
  rw[sO,(r.val k).isSome_eq,zai]
 unfold putK storedH;rw[e];by_cases q:(atKey xs k).isSome=true
 ·rw[if_pos q,if_pos q];exact r.repl k B
 ·rw[if_neg q,if_neg q];exact Paired.snoc r ⟨rfl,F,B⟩
theorem KT.keeps(r:KT H kvs xs)(q:∀b ys,H b=some (.tup ys)->H' b=some (.tup ys)):KT H' kvs xs:=
 Paired.mapP r λ_ _ z=>⟨z.1,q _ _ z.2.1,z.2.2⟩
section
variable {P:TJ}{w:World}{H:Hp}{h:Heap}{a:Addr}
theorem IS(ok:HOk P w H h)(e:Rd H a u):ObjOk P w H h a u:=e.ok ok
theorem iJ(ok:HOk P w H h)(e:Rd H a (.dK kvs)):kvs.length<=TK/\(a == VB)=false/\∃vs,KV kvs vs/\h.DictOf (aU P w) a vs:=
 show ObjOk P w H h a (.dK kvs)from IS ok e
theorem IP(ok:HOk P w H h)(e:H a=some (.dK kvs)):kvs.length<=TK/\(a == VB)=false/\∃vs,KV kvs vs/\h.DictOf (aU P w) a vs:=iJ ok (.inl e)
theorem gL(ok:HOk P w H h)(e:H a=some (.tup (ks.map kV))):(VZ (aU P w)).is h ks a:=by
 obtain⟨_,q,r,o,h1,h2,n,B⟩:=(show ObjOk P w H h a (.tup (ks.map kV))from ok a _ e);exact⟨o,q.toArray,n,h1,h2,B.1,by simpa using oH r⟩
theorem jV(ok:HOk P w H h)(e:Rd H a (.dT kvs)):kvs.length<=TK/\(a == VB)=false /\
  ∃xs,KT H kvs xs/\h.DictOfH (VZ (aU P w)) a xs:=by
 obtain⟨z,y,xs,r,o,es,ep,h1,h2,J,F,G⟩:=(show ObjOk P w H h a (.dT kvs)from IS ok e);refine⟨z,y,xs,r,o,es,ep,h1,h2,J,F,λx B=>?_,G⟩;have all:∀ {l:List (List Key×V)} {m:List (List Key×Addr×Value)},KT H l m->∀x∈m,(VZ (aU P w)).is h x.1 x.2.1:=by
  intro l m q;induction q with
  | nil=>intro x B;exact nomatch B
  | @cons p q ps qs hq t ih=>
   intro x B;rcases List.mem_cons.mp B with e|B
   ·subst e
    exact gL ok (by rw[<- hq.1];exact hq.2.1)
   ·exact ih x B
 exact all r x B
theorem OD(ok:HOk P w H h)(e:H a=some (.dT kvs)):kvs.length<=TK/\(a == VB)=false /\
  ∃xs,KT H kvs xs/\h.DictOfH (VZ (aU P w)) a xs:=jV ok (.inl e)
end
def DGet(H:Hp)(a:Addr)(y:V)(r:Option V):Prop:=
 (∃kvs k,Rd H a (.dK kvs)/\y=kV k/\r=iN kvs k)\/∃kvs k b,Rd H a (.dT kvs)/\y=.ref b/\H b=some (.tup (k.map kV))/\r=iN kvs k
def DPut(H:Hp)(a:Addr)(y v:V)(H':Hp):Prop:=
 (∃kvs k,H a=some (.dK kvs)/\y=kV k/\kvs.length<TK/\H'=upd H a (.dK (putK kvs k v))) \/
 ∃kvs k b,H a=some (.dT kvs)/\y=.ref b/\H b=some (.tup (k.map kV))/\kvs.length<TK/\H'=upd H a (.dT (putK kvs k v))
theorem DGet.k{H:Hp}{a:Addr}{kvs:List (Key×V)}{k:Key}(e:H a=some (.dK kvs)):DGet H a (kV k) (iN kvs k):=.inl ⟨kvs,k,.inl e,rfl,rfl⟩
theorem DGet.t{H:Hp}{a b:Addr}{kvs:List (List Key×V)}{k:List Key}(e:H a=some (.dT kvs))(q:H b=some (.tup (k.map kV))):DGet H a (.ref b) (iN kvs k):=.inr ⟨kvs,k,b,.inl e,rfl,q,rfl⟩
theorem DPut.k{H:Hp}{a:Addr}{kvs:List (Key×V)}{k:Key}{v:V}(e:H a=some (.dK kvs))(q:kvs.length<TK):DPut H a (kV k) v (upd H a (.dK (putK kvs k v))):=.inl ⟨kvs,k,e,rfl,q,rfl⟩
theorem DPut.t{H:Hp}{a b:Addr}{kvs:List (List Key×V)}{k:List Key}{v:V}(e:H a=some (.dT kvs))(B:H b=some (.tup (k.map kV)))(q:kvs.length<TK) :
  DPut H a (.ref b) v (upd H a (.dT (putK kvs k v))):=.inr ⟨kvs,k,b,e,rfl,B,q,rfl⟩
section
variable {X:Cx}{pins:List (Addr×Obj)}{σ:St}{H:Hp}{s:S8}{a:Addr}{y v:V}{u r:Value}{o:Option V}{A:TX}{E:Value->S8->Prop}
theorem Inv.big(I:Inv X pins σ H s):VB<s.heap.objs.size:=by
 have h:UO<s.heap.objs.size:=(I.mod.glob.keeps I.bk).lt;exact XD (by decide) h
theorem zX(W:A.units+1<cLine)(I:Inv X pins σ H s)(g:DGet H a y (some v))(N:RelV y u)(h:∀F s',Inv X pins σ H s'->RelV v F->Q F s') :
  wpAny (model X.prog X.w) A (V8 (.ref a) u) Q E s:=by
 rcases g with⟨kvs,k,e,M,l⟩|⟨kvs,k,b,e,M,U,l⟩
 ·subst M
  obtain⟨z,Y,vs,q,G⟩:=iJ I.hok e;obtain⟨F,hw,B⟩:=RelO.some_of (v:=v) (o:=W1 vs k) (by rw[l];exact q.val k);exact wpAny_getItem_of (jZ N) G.mapOf hw (h F _ (I.tok _) B)
 ·subst M
  cases(show u=TN b from N);obtain⟨z,Y,xs,q,G⟩:=jV I.hok e;obtain⟨F,hw,B⟩:=RelO.some_of (v:=v) (o:=(atKey xs k).map (·.2)) (by rw[l];exact q.val k);obtain⟨p,hp,J⟩:=Option.map_eq_some_iff.mp hw;refine wpAny_getItem_heap (XE W) (gL I.hok U) G hp ?_;rw[J];exact h F _ (I.tok _) B
theorem QQ(U:A.units+1<cLine)(I:Inv X pins σ H s)(g:DGet H a y o)(M:RelV y u)(h:∀s',Inv X pins σ H s'->Q (.bool o.isSome) s') :
  wpAny (model X.prog X.w) A (TY .In u (.ref a)) Q E s:=by
 rcases g with⟨kvs,k,e,G,l⟩|⟨kvs,k,b,e,G,N,l⟩
 ·subst G
  obtain⟨z,J,vs,B,F⟩:=iJ I.hok e;refine wpAny_in_of (jZ M) J F.mapOf ?_;rw[<- (B.val k).isSome_eq,<- l];exact h _ (I.tok _)
 ·subst G
  cases(show u=TN b from M);obtain⟨z,J,xs,B,F⟩:=jV I.hok e;refine wpAny_in_heap (XE U) (gL I.hok N) J F ?_;have q:=(B.val k).isSome_eq;rw[zai]at q;rw[<- q,<- l];exact h _ (I.tok _)
theorem GL(U:A.units+1<cLine)(I:Inv X pins σ H s)(g:DGet H a y o)(M:RelV y u)(h:∀s',Inv X pins σ H s'->Q (.bool (!o.isSome)) s') :
  wpAny (model X.prog X.w) A (TY .NotIn u (.ref a)) Q E s:=by
 rcases g with⟨kvs,k,e,G,l⟩|⟨kvs,k,b,e,G,N,l⟩
 ·subst G
  obtain⟨z,J,vs,B,F⟩:=iJ I.hok e;refine wpAny_notIn_of (jZ M) J F.mapOf ?_;rw[<- (B.val k).isSome_eq,<- l];exact h _ (I.tok _)
 ·subst G
  cases(show u=TN b from M);obtain⟨z,J,xs,B,F⟩:=jV I.hok e;refine wpAny_notIn_heap (XE U) (gL I.hok N) J F ?_;have q:=(B.val k).isSome_eq;rw[zai]at q;rw[<- q,<- l];exact h _ (I.tok _)
theorem pZ(I:Inv X pins σ H s)(F:P9 (H a))(hs:UM a s.heap h')(G:∃q,h'.get? a=some q)(new:ObjOk X.prog X.w (upd H a ob) h' a ob) :
  Inv X pins σ (upd H a ob) {s with heap:=h',toks:=t'}:=
 I.write (x:=a) (e:=a) F (.inl rfl) (λb q B z=>(hs.2 b B).trans z) G new
theorem CY(z:kvs.length<=TK)(B:(a == VB)=false)(q:KV kvs vs)(F:h'.DictOf (aU P w) a vs) :
  ObjOk P w H' h' a (.dK kvs):=⟨z,B,vs,q,F⟩
theorem zI(hu:A.units+1<cLine)(I:Inv X pins σ H s)(g:DPut H a y v H')(ry:RelV y u)(rv:RelV v r)(h:∀s',Inv X pins σ H' s'->Q () s') :
  wpAny (model X.prog X.w) A (setItem (.ref a) u r) Q E s:=by
 rcases g with⟨kvs,k,e,M,l,U⟩|⟨kvs,k,b,e,M,Y,l,U⟩
 ·subst M U
  obtain⟨z,N,vs,B,J⟩:=IP I.hok e;have hz:vs.length<=TK:=by rw[<- B.length];exact z
  have W:(putK kvs k v).length<=TK:=by have:=eR kvs k v;lia
  refine wpAny_setItem_pairs (hsz:=hz) (jZ ry) J λh' F hs=>h _ ?_
  have he:∃q,h'.get? a=some q:=let ⟨q,_,_,G,_⟩:=F;⟨q,G⟩;exact pZ I (by rw[e];exact U8) hs he (CY W N (B.put k rv) F)
 ·subst M U
  cases(show u=TN b from ry);obtain⟨z,N,xs,B,J⟩:=OD I.hok e;have hz:xs.length<=TK:=by rw[<- W4 B];exact z
  have W:(putK kvs k v).length<=TK:=by have:=eR kvs k v;lia
  refine wpAny_setItem_heap (hsz:=hz) (XE hu) (gL I.hok Y) J λh' F hs=>h _ ?_
  obtain⟨q,es,ep,G,h2,h3,h4,_,h5⟩:=F;refine pZ I (by rw[e];exact U8) hs ⟨q,G⟩ ⟨W,N,_,(B.put k Y rv).keeps λc ys ec=>?_,q,es,ep,G,h2,h3,h4,h5⟩;rw[aC (OM ec e (λz=>nomatch z))];exact ec
end
section
variable {X:Cx}{pins:List (Addr×Obj)}{σ:St}{H:Hp}{s:S8}{a:Addr}{kvs:List (Key×V)}{k:Key}{u:Value}{A:TX}{E:Value->S8->Prop}
theorem OL(I:Inv X pins σ H s)(e:Rd H a (.dK kvs))(h:∀t s',Inv X pins σ H s'->Q (.int kvs.length t) s'):wpAny (model X.prog X.w) A (call (.builtin "len") [.ref a]) Q E s:=by
 obtain⟨z,B,vs,q,F⟩:=iJ I.hok e;refine call_len_dict B F (by rw[<- q.length];rw[WH]at z;lia) ?_;rw[<- q.length];exact h _ _ (I.tok _)
end
def PJ(i:Expr):Prop:=∀B q,Y6 i false B q=operate [B,q] (V8 B q)
theorem ET{E:Value->S8->Prop}{T id:String}{Q:Value->S8->Prop}
  (N:typeLookup (.type T) "__getitem__" = pure (some (.builtin id))) (hs:PJ slice)
  (h:wpAny (model prog w) A (eval value env) (λo G=>wpAny (model prog w) A (eval slice env) (λi q=>q.TypeIs o T/\wpAny (model prog w) A (V8 o i) Q E q) E G) E s) :
  wpAny (model prog w) A (eval (.Subscript value slice pos) env) Q E s:=by
 refine Subscript_ (U3 h (λo G J=>U3 J (λi q B=>?_) λ_ _ x=>x) λ_ _ x=>x);obtain⟨hT,B⟩:=B;unfold subscriptTail;refine S7 ?_;rw[getitemInPython_of_ne hT.not_modules];refine S7 (wpAny_specialOf hT N ?_);have fin:wpAny (model prog w) A (Y6 slice false o i) (λr F=>wpAny (model prog w) A (letTemporaryGo value o r >>= λ_=>pure r) Q E F) E q:=by
  rw[hs o i];exact wpAny_operating (U3 B (λr F M=>S7 (wpAny_letTemporaryGo (TB M))) λ_ _ x=>x)
 first
  | exact TB (S7 fin)
  | exact S7 (TB (S7 fin))
  | exact S7 fin
theorem rW(I:Inv X pins σ H s)(g:DGet H a y o):s.TypeIs (.ref a) "dict" := by
 rcases g with⟨kvs,k,e,_,_⟩|⟨kvs,k,b,e,_,_,_⟩
 ·obtain⟨_,_,vs,_,q⟩:=iJ I.hok e
  exact q.typeIs
 ·obtain⟨_,_,xs,_,q⟩:=jV I.hok e
  exact q.typeIs
def IT(td ty:TE):TE:=λσ H Q=>td σ H λx H1=>ty σ H1 λy H2=>∃a v,x=.ref a/\DGet H2 a y (some v)/\Q v H2
def OI(td ty tv:TE):TS:=λD σ H=>tv σ H λv H1=>td σ H1 λx H2=>ty σ H2 λy B=>∃a q,x=.ref a/\DPut B a y v q/\D.nx σ q
section
variable {X:Cx}{o i e value:Expr}{pos pos' tpos:Pos}{td ty tv:TE}
theorem E9(W:X.A.units+1<cLine)(ho:PE X o td)(hi:PE X i ty)(hs:PJ i):PE X (.Subscript o i pos) (IT td ty):=by
 intro pins s σ H Q I h;refine ET PySem.F.slot_dict_getitem.lookup hs (a7 (ho pins s σ H _ I h) λu Y ⟨x,H1,J,G,M⟩=>a7 (hi pins Y σ H1 _ J M) λiv s2 ⟨y,H2,B,U,a,v,ex,g,q2⟩=>?_);subst ex;obtain rfl:u=TN a:=G;exact⟨rW B g,zX W B g U λw' s3 N q=>⟨v,H2,N,q,q2⟩⟩
theorem FF(F:X.A.units+1<cLine)(M:PE X o td)(hi:PE X i ty)(hv:PE X value tv)(hs:UD value (some (.Subscript o i pos')) pos.line X.env=pure false) :
  PS X (.Assign [.Subscript o i pos'] value pos) (OI td ty tv):=by
 intro pins s σ H D I h;refine wpAny_Assign_Subscript (a7 (hv pins s σ H _ I h) λr W ⟨v,H1,I1,G,B⟩=>a7 (M pins W σ H1 _ I1 B) λu Y ⟨x,H2,U,rx,q2⟩=>a7 (hi pins Y σ H2 _ U q2) λiv s3 ⟨y,H3,J,ry,a,N,ex,g,q3⟩=>?_) hs;subst ex;obtain rfl:u=TN a:=rx;exact zI F J g ry G λs4 q=>⟨σ,N,q,q3⟩
end
theorem AY(h:Heap)(q:VB<h.objs.size):ObjOk P w H (h.push {cls:=.type "dict",data:=.dict #[]}) h.objs.size (.dK []):=
 ⟨U4 _,beq_eq_false_iff_ne.mpr (UB (T9 q)),[],.nil,Heap.DictOf.new h⟩
theorem BP(h:Heap)(q:VB<h.objs.size):ObjOk P w H (h.push {cls:=.type "dict",data:=.dict #[]}) h.objs.size (.dT []):=
 ⟨U4 _,beq_eq_false_iff_ne.mpr (UB (T9 q)),[],.nil,_,#[],0,T8 _ rfl,⟨rfl,rfl,rfl⟩,rfl,rfl,List.nodup_nil⟩
def L3:TE:=λ_ H Q=>∀p,H p=none->Q (.ref p) (upd H p (.dT []))
section
variable {X:Cx}{pos:Pos}
theorem BM:PE X (.Dict [] [] pos) L3:=λpins s σ H Q I h=>
 wpAny_Dict_empty ⟨.ref s.heap.objs.size,_,I.laid (a:=s.heap.objs.size) (o:=.dT []) (t':=s.toks) (λ_ _ q=>TV _ q) (TR _) (BP s.heap I.big),rfl,h _ (I.hok.fresh (TR _))⟩
end
def vF:List (TE×TE)->St->Hp->(List (V×V)->Hp->Prop)->Prop
 | [],_,H,Q=>Q [] H
 | (tk,tv)::r,σ,H,Q=>tk σ H λx H1=>tv σ H1 λy H2=>vF r σ H2 λps H3=>Q ((x,y)::ps) H3
abbrev VV:List (V×V)->List (Value×Value)->Prop:=UR λp q=>RelV p.1 q.1/\RelV p.2 q.2
def QI(X:Cx)(pos:Pos)(B:List (Option Expr))(q:List Expr)(F:List (TE×TE)):Prop:=
 ∀(pins:List (Addr×Obj)) (s:S8) (σ:St) (H:Hp) (Q:List (V×V)->Hp->Prop),Inv X pins σ H s->vF F σ H Q->
  wpAny (model X.prog X.w) X.A (evalPairs (pairTrees B q X.env pos)) (λvs s'=>∃ps H',Inv X pins σ H' s'/\VV ps vs/\Q ps H') X.xe s
theorem FW:QI X pos [] [] []:=λpins s σ H Q I h=>pairTrees_nil_walk ⟨[],H,I,.nil,h⟩
theorem BE(hk:PE X k tk)(U:PE X v tv)(hr:QI X pos ks vs trs) :
  QI X pos (some k::ks) (v::vs) ((tk,tv)::trs):=λpins s σ H Q I h=>
 pairTrees_cons_walk (a7 (hk pins s σ H _ I h) λu s1 ⟨x,H1,G,B,J⟩=>a7 (U pins s1 σ H1 _ G J) λw2 s2 ⟨y,H2,Y,N,q2⟩=>
  a7 (hr pins s2 σ H2 _ Y q2) λws s3 ⟨ps,F,M,q,W⟩=>⟨(x,y)::ps,F,M,.cons ⟨B,N⟩ q,W⟩)
def mM(kvs more:List (Key×V)):List (Key×V):=more.foldl (λq B=>putK q B.1 B.2) kvs
theorem KV.merge:∀ {more:List (Key×V)} {B:List (Key×Value)} {kvs:List (Key×V)} {vs:List (Key×Value)},KV more B->KV kvs vs->KV (mM kvs more) (merged vs B):=by
 intro more B kvs vs r;unfold KV at r;induction r generalizing kvs vs with
 | nil=>intro q;exact q
 | @cons p q ps qs h t ih=>
  intro F;have e:KV (putK kvs p.1 p.2) (stored vs q.1 q.2):=by
   have:=F.put p.1 h.2;rw[<- h.1];exact this
  exact ih e
theorem fR:∀(more kvs:List (Key×V)),(mM kvs more).length<=kvs.length+more.length
 | [],kvs=>by show kvs.length<=kvs.length+0;lia
 | p::r,kvs=>by
  have h1:=fR r (putK kvs p.1 p.2);have h2:=eR kvs p.1 p.2;show(mM (putK kvs p.1 p.2) r).length<=_;rw[UK];lia
theorem k4:∀ {kvs:List (Key×V)} {ws:List (Value×Value)},VV (kvs.map λF=>(kV F.1,F.2)) ws->∃B,Carries (aU P w) ws B/\KV kvs B
 | [],_,r=>by rw[WB]at r;cases r;exact⟨[],U8,.nil⟩
 | p::kvs,_,r=>by
  rw[TU]at r;cases r with
  | @cons a b as bs h t=>
   obtain⟨B,c,q⟩:=k4 (P:=P) (w:=w) t;obtain⟨J,G⟩:=b;exact⟨(p.1,G)::B,⟨jZ h.1,rfl,c⟩,.cons ⟨rfl,h.2⟩ q⟩
def N6(q:List (TE×TE)):TE:=λσ H Q=>∀p,H p=none->vF q σ (upd H p (.dK [])) λps H2=>H2 p=some (.dK [])/\∃kvs:List (Key×V),ps=kvs.map (λB=>(kV B.1,B.2))/\kvs.length<=15/\Q (.ref p) (upd H2 p (.dK (mM [] kvs)))
theorem G5(h:QI X pos keys values trs)(B:keys.all (·.isSome)=true)(hl:keys.length=values.length)(h0:keys≠[])
  (J:keys.length<=15):PE X (.Dict keys values pos) (N6 trs):=by
 intro pins s σ H Q I q;have hn:=I.hok.fresh (TR s.heap.objs.size);have I1:=I.laid (a:=s.heap.objs.size) (o:=.dK []) (h':=s.heap.push {cls:=.type "dict",data:=.dict #[]}) (t':=s.toks) (λ_ _ q=>TV _ q) (TR _) (AY s.heap I.big);refine wpAny_Dict_walk (knd:=aU X.prog X.w) B hl h0 J (a7 (h pins _ σ _ _ I1 (q _ hn)) λws s2 ⟨ps,H2,M,G,e,kvs,ep,lk,q2⟩=>?_);subst ep;obtain⟨Y,c,N⟩:=k4 (P:=X.prog) (w:=X.w) G;obtain⟨z,hd,ad,r0,U⟩:=IP M.hok e;cases r0;refine⟨Y,c,U,λh' F hs=>⟨.ref s.heap.objs.size,_,?_,rfl,q2⟩⟩;have hz:(mM [] kvs).length<=TK:=by
  have h1:=fR kvs [];rw[WL]at h1;rw[WH];lia
 have W:∃q,h'.get? s.heap.objs.size=some q:=let ⟨q,_,_,hq,_⟩:=F;⟨q,hq⟩;exact pZ M (by rw[e];exact U8) hs W (CY hz hd (N.merge .nil) F)
structure M1(X:Cx)(o:Expr)(m:Str)(apos:Pos)(e:Expr)(cpos:Pos):Prop where
 base:WZ o m X.env (eval o X.env)=eval o X.env
 few:((T7 cpos (TC [e] X.env)).all (λx=>!x.1) && (backToKw cpos (YA [] X.env)).all (λx=>x.1.isSome)
  && decide (([e]:List Expr).length+([]:List V0).length+(if([]:List V0).isEmpty then 0 else 1)<30))=true
 line:(apos.endLine == cpos.line)=true
 trees:T7 cpos (TC [e] X.env)=[(false,eval e X.env)]
structure M2(X:Cx)(o:Expr)(m:Str)(apos:Pos)(e f:Expr)(cpos:Pos):Prop where
 base:WZ o m X.env (eval o X.env)=eval o X.env
 few:((T7 cpos (TC [e,f] X.env)).all (λx=>!x.1) && (backToKw cpos (YA [] X.env)).all (λx=>x.1.isSome)
  && decide (([e,f]:List Expr).length+([]:List V0).length+(if([]:List V0).isEmpty then 0 else 1)<30))=true
 line:(apos.endLine == cpos.line)=true
 trees:T7 cpos (TC [e,f] X.env)=[(false,eval e X.env),(false,eval f X.env)]
def NH(H:Hp)(a:Addr):Prop:=(∃kvs,Rd H a (.dK kvs))\/∃kvs,Rd H a (.dT kvs)
theorem vR(I:Inv X pins σ H s)(d:NH H a) :
  s.TypeIs (.ref a) "dict" /\ (∀b,TN a=.ref b->∃B,s.heap.get? b=some B/\B.dict=none)/\(a == VB)=false:=by
 rcases d with⟨kvs,e⟩|⟨kvs,e⟩
 ·obtain⟨_,G,vs,_,F⟩:=iJ I.hok e
  refine⟨F.typeIs,λb q=>?_,G⟩;cases q;obtain⟨B,_,_,h1,h2,_⟩:=F;exact⟨B,h1,h2.2.1⟩
 ·obtain⟨_,G,xs,_,F⟩:=jV I.hok e
  refine⟨F.typeIs,λb q=>?_,G⟩;cases q;obtain⟨B,_,_,h1,h2,_⟩:=F;exact⟨B,h1,h2.2.1⟩
section
variable {X:Cx}{pins:List (Addr×Obj)}{σ:St}{H:Hp}{s:S8}{a:Addr}{y d:V}{u r:Value}{o:Option V}{A:TX}{E:Value->S8->Prop}
theorem MI(W:A.units+1<cLine)(I:Inv X pins σ H s)(g:DGet H a y o)(M:RelV y u)(h:∀N s',Inv X pins σ H s'->RelV (o.getD .non) N->Q N s') :
  wpAny (model X.prog X.w) A (call (.builtin "dict.get") [.ref a,u]) Q E s:=by
 rcases g with⟨kvs,k,e,G,l⟩|⟨kvs,k,b,e,G,U,l⟩
 ·subst G
  obtain⟨z,J,vs,q,B⟩:=iJ I.hok e;refine Y9 XF B.typeIs ZA (PySem.F.args_dict_get_2 _ _) (meets_dict_get (aU X.prog X.w) a (jZ M) J) ⟨_,B.mapOf,h _ _ (I.tok _) ?_⟩;rw[l];exact(q.val k).getD rfl
 ·subst G
  cases(show u=TN b from M);obtain⟨z,J,xs,q,B⟩:=jV I.hok e;refine Y9 XF B.typeIs ZA (PySem.F.args_dict_get_2 _ _) (meetsH_dict_get (VZ (aU X.prog X.w)) a b J) ⟨XE W,k,xs,gL I.hok U,B,h _ _ (I.tok _) ?_⟩;rw[l];exact(q.val k).getD rfl
theorem LB(Y:A.units+1<cLine)(I:Inv X pins σ H s)(g:DGet H a y o)(M:RelV y u)(N:RelV d r)(h:∀U s',Inv X pins σ H s'->RelV (o.getD d) U->Q U s') :
  wpAny (model X.prog X.w) A (call (.builtin "dict.get") [.ref a,u,r]) Q E s:=by
 rcases g with⟨kvs,k,e,G,l⟩|⟨kvs,k,b,e,G,W,l⟩
 ·subst G
  obtain⟨z,J,vs,q,B⟩:=iJ I.hok e;refine Y9 XF B.typeIs ZA (PySem.F.args_dict_get_3 _ _ _) (meets_dict_get_default (aU X.prog X.w) a (jZ M) J r) ⟨_,B.mapOf,h _ _ (I.tok _) ?_⟩;rw[l];exact(q.val k).getD N
 ·subst G
  cases(show u=TN b from M);obtain⟨z,J,xs,q,B⟩:=jV I.hok e;refine Y9 XF B.typeIs ZA (PySem.F.args_dict_get_3 _ _ _) (meetsH_dict_get_default (VZ (aU X.prog X.w)) a b J r) ⟨XE Y,k,xs,gL I.hok W,B,h _ _ (I.tok _) ?_⟩;rw[l];exact(q.val k).getD N
end
def MH(td ty:TE):TE:=λσ H Q=>td σ H λx H1=>∃a,x=.ref a/\NH H1 a/\ty σ H1 λy H2=>∃o,DGet H2 a y o/\Q (o.getD .non) H2
def KD(td ty tx:TE):TE:=λσ H Q=>td σ H λx H1=>∃a,x=.ref a/\NH H1 a/\ty σ H1 λy H2=>tx σ H2 λz q=>∃o,DGet q a y o/\Q (o.getD z) q
section
variable {X:Cx}{o e f:Expr}{apos cpos:Pos}{td ty tx:TE}
theorem AZ(J:X.A.units+1<cLine)(N:PE X o td)(W:PE X e ty)(m:M1 X o "get" apos e cpos):PE X (.Call (.Attribute o "get" apos) [e] [] cpos) (MH td ty):=by
 intro pins s σ H Q I h;refine wpAny_Call_method m.base m.few m.line zaj XF PySem.F.type_dict_get (a7 (N pins s σ H _ I h) λu s1 ⟨x,H1,B,rx,a,ex,d,G⟩=>?_);subst ex;obtain rfl:u=TN a:=rx;obtain⟨t1,U,_⟩:=vR B d;refine⟨t1,U,?_⟩;rw[m.trees];refine Y7 rfl (zae (YY (a7 (W pins s1 σ H1 _ B G) λiv s2 ⟨y,H2,Y,ry,ov,g,q2⟩=>Z5 ?_)));exact MI J Y g ry λw' s3 M q=>⟨_,H2,M,q,q2⟩
theorem B0(M:X.A.units+1<cLine)(W:PE X o td)(he:PE X e ty)(Y:PE X f tx)(m:M2 X o "get" apos e f cpos):PE X (.Call (.Attribute o "get" apos) [e,f] [] cpos) (KD td ty tx):=by
 intro pins s σ H Q I h;refine wpAny_Call_method m.base m.few m.line zaj XF PySem.F.type_dict_get (a7 (W pins s σ H _ I h) λu s1 ⟨x,H1,B,rx,a,ex,d,J⟩=>?_);subst ex;obtain rfl:u=TN a:=rx;obtain⟨t1,t2,_⟩:=vR B d;refine⟨t1,t2,?_⟩;rw[m.trees];refine Y7 rfl (zae (YY (a7 (he pins s1 σ H1 _ B J) λiv s2 ⟨y,H2,I2,ry,q2⟩=>
  YY (a7 (Y pins s2 σ H2 _ I2 q2) λfv s3 ⟨z,H3,N,U,ov,g,q3⟩=>Z5 ?_))))
 exact LB M N g ry U λw' s4 G q=>⟨_,H3,G,q,q3⟩
end
section
variable {X:Cx}{pins:List (Addr×Obj)}{σ:St}{H:Hp}{s:S8}{a:Addr}{kvs:List (Key×V)}{A:TX}{E:Value->S8->Prop}
end
section
variable {X:Cx}{pins:List (Addr×Obj)}{σ:St}{H:Hp}{s:S8}{a:Addr}{y:V}{u:Value}{A:TX}{E:Value->S8->Prop}
end
end L2
namespace Att
open PySem PySem.W PySem.Calls PyProof.Rows
theorem j4:∀(ns:List Int) (vs:List Value),WellAll P h vs (ns.map WData.int)->UZ vs ns:=by
 intro ns;induction ns with
 | nil=>
  intro vs w;rw[WB]at w;cases w;exact .nil
 | cons n ns ih=>
  intro vs w;rw[TU]at w;cases w with
  | cons a b=>
   cases a;exact .cons _ _ (ih _ b)
theorem z9{l:OpenLaw}{n:Nat}(hn:l.most=some n){P:Params}{h:Heap}{args:List WData}{B:List Value}
  (F:l.row.toRowW.claim.pre args=true) (U:WellAll P h B args) :
  ∃a vs ns,B=[TN a]/\args=[WData.list (ns.map WData.int)]/\h.get? a=some {cls:=.type "list",data:=.seq vs.toArray}/\UZ vs ns/\ns.length<=n:=by
 have N:WShape.hasAll [] args [.list .int]=true:=(pre_splitW F).1;have W:l.pre.holds [] {args:=args}=true:=(pre_splitW F).2;obtain⟨d,r,rfl,h1,h2⟩:=hasAllW_cons N;obtain rfl:=hasAllW_nil h2;obtain⟨xs,rfl,Y⟩:=hasW_list h1;obtain⟨ns,rfl⟩:=items_int Y;have G:ns.length<=n:=by
  unfold OpenLaw.pre at W;have J:(WTm.not (.lt (.lit (.int (n:Int))) (.len (.arg 0)))).holds [] {args:=[.list (ns.map .int)]}=true:=by
   have J:=(holds_andW W).1;rw[hn]at J;exact J
  have M:=condW_of J (w_not (w_lt w_lit (w_len_list (w_arg rfl))));rw[TL]at M;refine Nat.le_of_not_lt λq=>?_
  have q':(n:Int)<((ns.length:Nat):Int):=by lia
  first
   | (rw[decide_eq_true q']at M;exact absurd M (by decide))
   | (simp at M;lia)
 cases U with
 | cons w1 w2=>
  cases w2;cases w1 with
  | list ho hall=>exact⟨_,_,ns,rfl,rfl,ho,j4 ns _ hall,G⟩
theorem yF(l:OpenLaw)(args:List WData):l.row.toRowW.claim.post args (.bool true) args=true:=
 postW_of (r:=l.row.toRowW) (X:=(true == true))
  (show WShape.has [] (.bool true) .bool=true by first|rfl|decide|simp[WShape.has,WShape.arms,WShape.armsAll])
  (show(WTm.eq .res (.lit (.bool true))).value [] {args:=args,res:=some (.bool true),after:=args}=some (.bool (true == true))from w_eq_bool (w_res rfl) w_lit) rfl
theorem rZ{l:OpenLaw}{n:Nat}{q:TJ}{F:List Str}{XP:(Str->Option Value)->Heap->Prop}{YP:World->Heap->Prop}{d:DefRec}
  (hn:l.most=some n) (ag:d.params.defaults=[])
  (call:∀(w:World) (J B:S8) (mg mb:Str -> Option Value) (fa:Addr) (o:Obj) (pm cd N:Value) (a:Addr) (vs:List Value) (ns:List Int),
   Ground q F [] XP w J mg mb B.heap->YP w B.heap->
   B.heap.get? fa=some o->o.data=.func (docDef d.name d.params d.body d.scope pm cd N)->B.heap.CodeRec cd d.name->mg d.name=some (.ref fa)->
   B.heap.get? a=some {cls:=.type "list",data:=.seq vs.toArray}->UZ vs ns->ns.length<=n->B.gens=#[]->
   VW (model l.prog w) W2 (.call (.ref fa) ⟨[.ref a],[]⟩) (λr s'=>r=.ok (.ret (.bool true))/\OldK B.heap s'.heap/\s'.os=B.os/\WE s'.gens) B) :
  WalkO q F XP YP l.row.toRowW d [] (λf vs=>PySem.call f vs):=by
 intro w J B mg mb G Y fa o pm cd N dV kV ho hd ae hD ad hg args ak as aa an ar ah aw;obtain rfl:dV=.none:=Dflts.none hD ag;obtain rfl:kV=.none:=Dflts.noKw hD;obtain⟨a,vs,ns,rfl,rfl,W,M,U⟩:=z9 hn aa ah;refine enter_call (YZ (call w J B mg mb fa o pm cd N a vs ns G Y ho (fd_plain hd) ae ad W M U hg) λr s' hq=>?_);obtain⟨rfl,h2,h3,h4⟩:=hq;exact⟨.inl ⟨.bool true,.bool true,[],rfl,λ_=>rfl,.bool true,yF l _,λ_=>⟨List.Pairwise.nil,λ_ hm=>(nomatch hm)⟩⟩,h2,h3,h4⟩
section
variable {prog:TJ}{w:World}{A:TX}{E:Value->S8->Prop}{s:S8}{K:Frag}
noncomputable def qO(h:Heap):Heap:={h with objs:=#[]}
theorem fZ(h:Heap)(b:Addr):(qO h).get? b=none:=by
 cases e:(qO h).get? b with
 | none=>rfl
 | some o=>exact absurd (TQ e) (Nat.not_lt_zero _)
noncomputable def ledger(h:Heap)(L d:Addr):List (Addr×Obj):=(T2 h.objs.size).filterMap λa=>if a=L\/a=d then none else(h.get? a).map λo=>(a,o)
theorem cC:(a,o)∈ledger h L d↔a≠L/\a≠d/\h.get? a=some o:=by
 unfold ledger;rw[List.mem_filterMap];constructor
 ·rintro⟨b,_,e⟩
  split at e
  ·cases e
  ·rename_i hb
   obtain⟨o',B,G⟩:=Option.map_eq_some_iff.mp e;cases G;exact⟨λq=>hb (.inl q),λq=>hb (.inr q),B⟩
 ·rintro⟨n1,F,B⟩
  refine⟨a,List.mem_range.mpr (TQ B),?_⟩;rw[if_neg (show ¬ (a=L\/a=d)from λq=>q.elim n1 F),B] <;> rfl
theorem KI(n:h.Ns L m):Fr (qO h) L h m:=
 ⟨n,λb o e=>(by rw[fZ]at e;cases e),U4 _⟩
end
end Att
namespace L2
open PySem PySem.Spec PyProof.Rows
theorem oD:∀ {vs:List Value} {ns:List Int},UZ vs ns->Vals (ns.map V.int) vs
 | _,_,.nil=>.nil
 | _,_,.cons n t h=>.cons ⟨t,rfl⟩ (oD h)
def Only(H:Hp):Prop:=∀b,H b=none\/∃o xs,H b=some (.frz o (.lst xs))
theorem CK{P:TJ}{w:World}{K:S9}{mg mb:Str->Option Value}{CX:AJ}{k:Nat}{fa a:Addr}{fd:VG}{x:Str}{sp:Sp}{B:S8}{vs:List Value}{ns:List Int}
  (KX:K.In B.heap) (ab:B.heap.Ns UO mg) (J:B.heap.Ns builtinsNs mb) (ao:∀x:Str,x ≠ "__name__" -> mb x=UJ x) (aa:B.heap.NoLimit) (hg:B.gens=#[])
  (ha:B.heap.get? a=some {cls:=.type "list",data:=.seq vs.toArray}) (hi:UZ vs ns) (hl:ns.length<=TK) (hr:Room k W2)
  (F:∀base:Heap,K.In base->base.Ns UO mg->FnOk P w K mg base CX k fa fd [x] sp) (U:∀(s:S8) (u:Value),BindsTo s fd ⟨[u],[]⟩ [(x,u)])
  (aj:∀H:Hp,Only H->SqL K H a (ns.map V.int)->sp [.ref a] H (λv _=>v=.bl true) λ_ _ _=>False)
  (al:∀H e s',CX [] H B (λ_ _ _=>False) e s'->False) :
  VW (model P w) W2 (.call (.ref fa) ⟨[.ref a],[]⟩) (λr s'=>r=.ok (.ret (.bool true))/\OldK B.heap s'.heap/\s'.os=B.os/\WE s'.gens) B:=by
 have rv:=oD hi;have af:=hi.length
 -- from an abstract heap in which nothing but the script may be tracked
 have N:∀H:Hp,Only H->SqL K H a (ns.map V.int)->HOk P w H B.heap->(∀b,H b≠none->b=a)->(H a≠none->K.lookup a=none)->
   VW (model P w) W2 (.call (.ref fa) ⟨[.ref a],[]⟩) (λr s'=>r=.ok (.ret (.bool true))/\OldK B.heap s'.heap/\s'.os=B.os/\WE s'.gens) B:=by
  intro H hO hS W hA hK;have G:∀ {b:Addr} {o:Obj},B.heap.get? b=some o->H b=none->(rA B.heap H).get? b=some o:=λe n=>BR e n
  have ak:∀ {b:Addr} {o:Obj} {es:Array WM} {ep:Nat},B.heap.get? b=some o->o.data=.dict es ep->H b=none:=λ{b o es ep} e d=>by
   cases q:H b with
   | none=>rfl
   | some u=>
    have e':b=a:=hA b (by rw[q];simp);subst e';rw[ha]at e;cases e;have d':Data.seq vs.toArray _=Data.dict es ep:=d;cases d'
  have M:∀ {b:Addr} {m:Str->Option Value},B.heap.Ns b m->(rA B.heap H).Ns b m:=λ{b m} ⟨o,es,ep,e,d,r⟩=>⟨o,es,ep,G e (ak e d),d,r⟩
  have Y:K.In (rA B.heap H):=λb o e=>G (KX b o e) (by
   cases q:H b with
   | none=>rfl
   | some u=>
    have e':b=a:=hA b (by rw[q];simp);subst e';rw[hK (by rw[q];simp)]at e;cases e)
  have hM:Mod K mg (rA B.heap H):=⟨Y,M ab,⟨mb,M J,ao⟩,let ⟨mc,h1,h2⟩:=aa;⟨mc,M h1,h2⟩⟩;have e0:Env0 P w K mg (rA B.heap H) W2 [] B H:=⟨rfl,hM,λb o e=>HG e,Nat.le_of_eq (yQ _ _),trivial,λb J=>absurd (show b∈([]:List Addr)from J) (by simp),W,.of_eq hg⟩;refine YZ ((F _ Y (M ab)).run W2 [] B H ⟨[.ref a],[]⟩ [.ref a] [.ref a] _ _ hr e0 (U B (.ref a)) (.cons rfl .nil) (aj H hO hS)) λr s' h=>?_
  cases r with
  | error e=>exact(al H e s' h).elim
  | ok fl=>
   cases fl with
   | next=>exact VT h
   | brk=>exact VT h
   | cont=>exact VT h
   | ret u=>
    obtain⟨v,H',os,ae,un,ad,r',q⟩:=h;have q':v=.bl true:=q;subst q';obtain rfl:u=WP true:=r';refine⟨rfl,OldK.of_keep λb o e=>?_,os,ae⟩;cases q:H b with
    | none=>exact un.keep b o e q (by intro z;exact absurd (show b∈([]:List Addr)from z) (by simp)) (by simp)
    | some u=>
     rcases hO b with z|⟨ob,xs,z⟩
     ·rw[q]at z;cases z
     ·have z2:=un.frzs b ob _ z
      obtain⟨e1,_⟩:=W b _ z;obtain⟨e2,_⟩:=ad b _ z2;rw[e]at e1;cases e1;exact e2
 cases hk:K.lookup a with
 | some o=>
  -- the script is one of the module's own objects
  have e:=KX a o hk;rw[ha]at e;cases e;refine N (λ_=>none) (λ_=>.inl rfl) (.inr ⟨_,vs.toArray,_,hk,rfl,rfl,rfl,by rw[T3,af];exact hl,by simpa using rv⟩) (λb u z=>by have z':(none:Option HO)=some u:=z;cases z') (λb z=>absurd rfl z) λz=>absurd rfl z
 | none=>
  refine N (λb=>if b=a then some (.frz {cls:=.type "list",data:=.seq vs.toArray} (.lst (ns.map V.int)))else none) (λb=>?_) (.inl (.inr ⟨{cls:=.type "list",data:=.seq vs.toArray},if_pos rfl⟩)) (λb u z=>?_) (λb z=>?_) λ_=>hk
  ·by_cases J:b=a
   ·exact .inr ⟨_,_,if_pos J⟩
   ·exact .inl (if_neg J)
  ·by_cases J:b=a
   ·have z':=(if_pos J).symm.trans z
    cases z';subst J;exact⟨ha,by rw[TL];exact hl,vs,_,rv,ha⟩
   ·have z':=(if_neg J).symm.trans z
    cases z'
  ·by_cases J:b=a
   ·exact J
   ·exact absurd (if_neg J) z
theorem FL{l:zak}{n k:Nat}{q:TJ}{M:List Str}{XP:(Str->Option Value)->Heap->Prop}{YP:World->Heap->Prop}{d:DefRec}{K:Params->S9}{CX:World->AJ}{sp:World->Sp}{x:Str}
  (hn:l.most=some n) (ac:n<=TK) (af:d.params.defaults=[]) (hr:Room k W2)
  (hY:∀(w:World) (h:Heap),YP w h->(K w.params).In h)
  (F:∀(w:World) (mg:Str -> Option Value) (fa:Addr) (h:Heap), (K w.params).In h -> h.Ns UO mg -> mg d.name = some (.ref fa) ->
   ∃fd:VG,(∀(s:S8) (u:Value),BindsTo s fd ⟨[u],[]⟩ [(x,u)]) /\
    ∀base:Heap,(K w.params).In base->base.Ns UO mg->FnOk l.prog w (K w.params) mg base (CX w) k fa fd [x] (sp w))
  (ad:∀(w:World) (H:Hp) (a:Addr) (ns:List Int),ns.length<=n->Only H->SqL (K w.params) H a (ns.map V.int)->sp w [.ref a] H (λv _=>v=.bl true) λ_ _ _=>False)
  (ae:∀(w:World) (H:Hp) (s:S8) (e:Value) (s':S8),CX w [] H s (λ_ _ _=>False) e s'->False) :
  PySem.W.WalkO q M XP YP l.row.toRowW d [] (λf vs=>PySem.call f vs):=by
 refine Att.rZ hn af λw ai N mg mb fa o pm cd ap a vs ns G Y ho hd an ab U J B hg=>?_
 have KX:=hY w _ Y;obtain⟨fd,hb,hF⟩:=F w mg fa _ KX G.T.g ab;exact CK KX G.T.g G.T.b G.T.builtins G.T.nolimit hg U J (UY B ac) hr hF hb (λH hO hS=>ad w H a ns B hO hS) λH e s'=>ae w H N e s'
noncomputable def cI(s:Stmt):Arguments:=match s with
 | .FunctionDef _ a _ _ _ _ _ _ _ _=>a
 | _=>{posonlyargs:=[],args:=[],vararg:=none,kwonlyargs:=[],kw_defaults:=[],kwarg:=none,defaults:=[]}
noncomputable def a6(s:Stmt):List Stmt:=match s with
 | .FunctionDef _ _ b _ _ _ _ _ _ _=>b
 | _=>[]
noncomputable def aE(s:Stmt):Scope:=match s with
 | .FunctionDef _ _ _ _ _ _ sc _ _ _=>sc
 | _=>{kind:=.function,names:=[],isGenerator:=false,isCoroutine:=false}
abbrev uD:AJ:=λ_ _ _ _ _ _=>False
abbrev E0:XK:=λ_ _ _=>False
theorem O4:vQ uD X E0:=λ_ _ _ _ _ _ _ h=>h.elim
structure Fun(K:S9)(x qual:Str)(st:Stmt)(f:Addr)(fd:VG):Prop where
 ex:∃(oc:Value) (od:Option Addr) (kV doc pm:Value) (an:Option Addr) (cdv ct:Value) (osl:Array (Option Value)),
  fd=VX x qual (cI st) (a6 st) (aE st) .none kV doc pm an cdv ct/\K.lookup f=some ⟨oc,od,.func fd,osl⟩/\XB K cdv qual=true
 kp:WR K (.ref f)=true
section
variable {P:TJ}{w:World}{K:S9}{mg:Str->Option Value}{base:Heap}
theorem Fun.ok{x G:Str}{st:Stmt}{f:Addr}{fd:VG}{N ps:List Str}{k:Nat}{sp:Sp}(F:Fun K x G st f fd)(S:FnScope N ps (aE st))(len:∀vs H Q E,sp vs H Q E->vs.length=ps.length)
  (M:∀(J:Value) (A:TX) (B:List Env) (s:S8) (H:Hp) (vs:List V) (Q:VK) (E:XK), Room k (A.deeper (UX G (aE st) s.heap.objs.size f J)) -> sp vs H Q E ->
   ∃t,PSs (iL uD P w K mg base N G (aE st) f J A B s H E).nox (a6 st) t/\t {nx:=λ_ H'=>Q .non H',rt:=Q} (start N vs) H):FnOk P w K mg base uD (k+1) f fd ps sp:=by
 obtain⟨oc,od,kV,aa,pm,an,J,ct,ab,rfl,Y,U⟩:=F.ex;refine OG Y U S len λA B s H vs Q E hr W=>?_
 obtain⟨t,h,q⟩:=M J A B s H vs Q E hr W;exact⟨t,h.nox,q⟩
theorem Fun.binds{x q:Str}{st:Stmt}{f:Addr}{fd:VG}{ps:List Str}(F:Fun K x q st f fd)
  (h:∀(kV B M:Value) (J:Option Addr) (G ct:Value) (us:List Value),us.length=ps.length->bindArgs (VX x q (cI st) (a6 st) (aE st) .none kV B M J G ct) ⟨us,[]⟩=pure (ps.zip us)):Binds K fd ps []:=by
 obtain⟨Y,od,kV,B,M,J,G,ct,U,rfl,W,N⟩:=F.ex;exact .all (h kV B M J G ct)
theorem DL{x q:Str}{st:Stmt}{f:Addr}{N:Value}{od J:Option Addr}{G:Array (Option Value)}{kV F M B ct:Value}(l:K.lookup f=some ⟨N,od,.func (VX x q (cI st) (a6 st) (aE st) .none kV F M J B ct),G⟩)
  (c:XB K B q=true) (k:WR K (.ref f)=true):Fun K x q st f (VX x q (cI st) (a6 st) (aE st) .none kV F M J B ct):=⟨⟨N,od,kV,F,M,J,B,ct,G,rfl,l,c⟩,k⟩
end
theorem x9(q:Room k A):A.units+1<cLine:=YB (Nat.add_le_add_left (by decide:1<=64) _) q.units
section
variable {X:Cx}
theorem pv(i:Nat)(B:X.N[i]?=some x:=by rfl)(G:NF X.env.scope x:=by first|exact U1 rfl|exact VD (U1 rfl)|exact VD (VD rfl))(F:(x == ("__debug__" : Str))=false:=by decide)
  (q:(x == ("__classdict__" : Str))=false:=by decide):PE X (.Name x pos) (i4 i):=MK B G F q
end
theorem QU{A B:Prop}(h:B):if false=true then A else B:=by
 rw[if_neg TZ];exact h
theorem P2{A B:Prop}(h:A):if true=true then A else B:=by
 rw[if_pos rfl];exact h
def Same(H H':Hp):Prop:=∀b o,H b=some o->H' b=some o
theorem Same.trans(a:Same H H1)(b:Same H1 H2):Same H H2:=λc o h=>b c o (a c o h)
theorem Same.free(e:Same H H')(h:H' l=Option.none):H l=Option.none:=by
 cases q:H l with
 | none=>rfl
 | some o=>
  rw[e l o q]at h;cases h
theorem Same.seq{K:S9}{H H':Hp}{a:Addr}{xs:List V}(e:Same H H')(h:SqL K H a xs):SqL K H' a xs:=by
 rcases h with(h|⟨o,h⟩)|h
 ·exact .inl (.inl (e _ _ h))
 ·exact .inl (.inr ⟨o,e _ _ h⟩)
 ·exact .inr h
section
variable {X:Cx}
end
section
variable {κ:Type}[DecidableEq κ]
theorem wQ:∀ {l:List κ} {k:κ},l.Nodup->¬ k∈l->(l++[k]).Nodup
 | [],k,_,_=>by simp
 | a::r,k,h,hk=>by
  obtain⟨h1,h2⟩:=List.nodup_cons.mp h;show(a::(r++[k])).Nodup;refine List.nodup_cons.mpr ⟨λm=>?_,wQ h2 λm=>hk (List.mem_cons.mpr (VD m))⟩;rcases List.mem_append.mp m with q|q
  ·exact h1 q
  ·exact hk (List.mem_cons.mpr (U1 (List.mem_singleton.mp q).symm))
end
end L2
set_option maxHeartbeats 4000000
namespace My
open PySem PySem.Spec PyProof.Rows L2
def PX(i j:Int):Prop:=(-(10^250)<i/\i<10^250)/\-(10^250)<j/\j<10^250
section
variable {X:Cx}
def RV(K:S9):List V->Hp->VK->Prop:=λxs H Q=>∃x n t b,xs=[x,.ty n]/\TyOf K H x t/\X6 K t (.type n)=some b/\Q (.bl b) H
theorem B6:CallR X (.builtin "isinstance") (RV X.K):=by
 intro pins s σ H xs J Q I r h;obtain⟨x,n,t,b,rfl,ty,e,q⟩:=h;obtain⟨u,G,rfl,B,F⟩:=vals2 r;cases F;exact zB I B ty e λtk=>⟨.bl b,H,I.tok tk,rfl,q⟩
end
structure Ok(P:TJ)(w:World)(K:S9)(mg:Str->Option Value)(base:Heap)(x:Str)(k:Nat)(ps:List Str)(sp:Sp):Prop where
 ex:∃f fd,WR K (.ref f)=true/\Binds K fd ps []/\mg x=some (.ref f)/\FnOk P w K mg base uD k f fd ps sp
structure DefAt(K:S9)(mg:Str->Option Value)(x:Str)(st:Stmt)(ps:List Str):Prop where
 ex:∃f fd,Fun K x x st f fd/\Binds K fd ps []/\mg x=some (.ref f)
def MG(sp:Sp)(t:TA):TE:=λσ H Q=>t σ H λvs H1=>sp vs H1 Q E0
section
variable {X:Cx}{x:Str}{k:Nat}{ps:List Str}{sp:Sp}{e:Expr}{es:List Expr}{t:TA}{p pos:Pos}
theorem lT(O:Ok X.prog X.w X.K X.mg X.base x k ps sp)(U:Room k X.A)(J:Gl X x)(Y:PA X (e::es) t)(B:(x == ("__debug__" : Str))=false:=by decide)
  (M:TC (e::es) X.env=(false,eval e X.env)::TC es X.env:=by rfl) (q:(T7 pos (TC es X.env)).any (·.1)=false:=by rfl) :
  PE X (.Call (.Name x p) (e::es) [] pos) (MG sp t):=by
 obtain⟨f,fd,N,G,W,F⟩:=O.ex;have h:=GO (p:=p) (pos:=pos) F U J W N G .nil O4 Y B M q;intro pins s σ H Q I hw;refine h pins s σ H Q I ?_;have e:(λ(vs:List V) (H1:Hp)=>sp (vs++[]) H1 Q E0)=λvs H1=>sp vs H1 Q E0:=by
  funext vs H1;rw[W9]
 show t σ H λvs H1=>sp (vs++[]) H1 Q E0
 rw[e];exact hw
end
section
variable {P:TJ}{w:World}{K:S9}{mg:Str->Option Value}{base:Heap}
def BodyOk(P:TJ)(w:World)(K:S9)(mg:Str->Option Value)(base:Heap)(x:Str)(st:Stmt)(N:List Str)(k:Nat)(sp:Sp):Prop:=
 ∀(f:Addr) (cdv:Value) (A:TX) (outer:List Env) (s:S8) (H:Hp) (vs:List V) (Q:VK) (E:XK),Room k (A.deeper (UX x (aE st) s.heap.objs.size f cdv))->sp vs H Q E->
   ∃t,PSs (iL uD P w K mg base N x (aE st) f cdv A outer s H E).nox (a6 st) t/\t {nx:=λ_ H'=>Q .non H',rt:=Q} (start N vs) H
theorem BodyOk.fn{x:Str}{st:Stmt}{N ps:List Str}{k:Nat}{sp:Sp}{f:Addr}{fd:VG}(q:BodyOk P w K mg base x st N k sp)(F:Fun K x x st f fd)(S:FnScope N ps (aE st))(len:∀vs H Q E,sp vs H Q E->vs.length=ps.length) :
  FnOk P w K mg base uD (k+1) f fd ps sp:=F.ok S len λG A B s H vs Q E J h=>q f G A B s H vs Q E J h
theorem BodyOk.ok{x:Str}{st:Stmt}{N ps:List Str}{k:Nat}{sp:Sp}(q:BodyOk P w K mg base x st N k sp)(D:DefAt K mg x st ps)(S:FnScope N ps (aE st))(len:∀vs H Q E,sp vs H Q E->vs.length=ps.length) :
  Ok P w K mg base x (k+1) ps sp:=by
 obtain⟨f,fd,F,B,G⟩:=D.ex;exact⟨f,fd,F.kp,B,G,q.fn F S len⟩
theorem Ok.mono(O:Ok P w K mg base x j ps sp)(h:j<=k):Ok P w K mg base x k ps sp:=by
 obtain⟨f,fd,q,B,G,F⟩:=O.ex;exact⟨f,fd,q,B,G,F.mono h⟩
end
def t6(K:S9):Sp:=λvs H Q _=>∃(a:Addr) (ns:List Int),vs=[.ref a]/\SqL K H a (ns.map V.int)/\ns.length<=63/\∀H',Q (.bl true) H'
theorem walk{l:zak}{q:TJ}{B:List Str}{N:(Str->Option Value)->Heap->Prop}{J:World->Heap->Prop}{d:DefRec}{K:Params->S9}{k:Nat}(Y:k<=100)(hn:l.most=some 63)(G:d.params.defaults=[])
  (U:∀(w:World) (h:Heap),J w h->(K w.params).In h)
  (F:∀(w:World) (mg:Str -> Option Value) (fa:Addr) (h:Heap), (K w.params).In h -> h.Ns UO mg -> mg d.name = some (.ref fa) ->
   ∃fd:VG,(∀(s:S8) (u:Value),BindsTo s fd ⟨[u],[]⟩ [("script",u)])/\∀base:Heap,(K w.params).In base->base.Ns UO mg->FnOk l.prog w (K w.params) mg base uD k fa fd ["script"] (t6 (K w.params))) :
  PySem.W.WalkO q B N J l.row.toRowW d [] (λf vs=>PySem.call f vs):=
 L2.FL (n:=63) (k:=k) (x := "script") (CX:=λ_=>uD) (sp:=λw=>t6 (K w.params)) hn (by decide) G (Room.mono (k:=100) ⟨rfl,by decide,by decide⟩ Y) U F (λ_ _ a ns hl _ M=>⟨a,ns,rfl,M,hl,λ_=>rfl⟩) λ_ _ _ _ _ z=>z
theorem sP(h:H p=none):Same H (upd H p o):=λb u e=>by
 rw[aC (aW e h)];exact e
theorem Same.tupR{K:S9}{H H':Hp}{a:Addr}{xs:List V}(e:Same H H')(h:SqT K H a xs):SqT K H' a xs:=by
 rcases h with(h|⟨o,h⟩)|h
 ·exact .inl (.inl (e _ _ h))
 ·exact .inl (.inr ⟨o,e _ _ h⟩)
 ·exact .inr h
theorem boot_len:UJ "len" = some (.builtin "len"):=by decide +kernel
theorem boot_max:UJ "max" = some (.builtin "max"):=by decide +kernel
theorem boot_isinstance:UJ "isinstance" = some (.builtin "isinstance"):=by decide +kernel
theorem boot_sorted:UJ "sorted" = some (.builtin "sorted"):=by decide +kernel
theorem boot_int:UJ "int" = some (.type "int"):=by decide +kernel
theorem boot_bool:UJ "bool" = some (.type "bool"):=by decide +kernel
theorem boot_tuple:UJ "tuple" = some (.type "tuple"):=by decide +kernel
theorem boot_list:UJ "list" = some (.type "list"):=by decide +kernel
theorem boot_range:UJ "range" = some (.type "range"):=by decide +kernel
theorem boot_all:UJ "all" = some (.builtin "all"):=by decide +kernel
end My
namespace My
open PySem PySem.Spec PyProof.Rows L2 PySem.SeqAt
inductive Dx where
 | non|bl (b:Bool)|int (i:Int)|str (x:Str)|tup (l:List Dx)|lst (l:List Dx)
mutual
def Rep(K:S9)(H:Hp):Dx->V->Prop
 | .non,v=>v=.non
 | .bl b,v=>v=.bl b
 | .int i,v=>v=.int i
 | .str x,v=>v=.str x
 | .tup l,v=>∃a xs,v=.ref a/\SqT K H a xs/\RepL K H l xs
 | .lst l,v=>∃a xs,v=.ref a/\SqL K H a xs/\RepL K H l xs
def RepL(K:S9)(H:Hp):List Dx->List V->Prop
 | [],vs=>vs=[]
 | d::ds,vs=>∃x xs,vs=x::xs/\Rep K H d x/\RepL K H ds xs
end
section
variable {K:S9}{H H':Hp}
mutual
theorem Rep.same(e:Same H H'):∀(d:Dx) (v:V),Rep K H d v->Rep K H' d v
 | .non,v,h=>by rw[Rep]at h ⊢;exact h
 | .bl b,v,h=>by rw[Rep]at h ⊢;exact h
 | .int i,v,h=>by rw[Rep]at h ⊢;exact h
 | .str x,v,h=>by rw[Rep]at h ⊢;exact h
 | .tup l,v,h=>by
  rw[Rep]at h ⊢;obtain⟨a,xs,q,h1,h2⟩:=h;exact⟨a,xs,q,Same.tupR e h1,RepL.same e l xs h2⟩
 | .lst l,v,h=>by
  rw[Rep]at h ⊢;obtain⟨a,xs,q,h1,h2⟩:=h;exact⟨a,xs,q,e.seq h1,RepL.same e l xs h2⟩
theorem RepL.same(e:Same H H'):∀(ds:List Dx) (vs:List V),RepL K H ds vs->RepL K H' ds vs
 | [],vs,h=>by rw[RepL]at h ⊢;exact h
 | d::ds,vs,h=>by
  rw[RepL]at h ⊢;obtain⟨x,xs,q,h1,h2⟩:=h;exact⟨x,xs,q,Rep.same e d x h1,RepL.same e ds xs h2⟩
end
theorem RepL.nil:RepL K H [] []:=by rw[RepL]
theorem RepL.cons(h1:Rep K H d v)(h2:RepL K H ds vs):RepL K H (d::ds) (v::vs):=by
 rw[RepL];exact⟨v,vs,rfl,h1,h2⟩
theorem RepL.length:∀ {ds:List Dx} {vs:List V},RepL K H ds vs->vs.length=ds.length
 | [],vs,h=>by rw[RepL]at h;rw[h];rfl
 | d::ds,vs,h=>by
  rw[RepL]at h;obtain⟨x,xs,rfl,_,h2⟩:=h;rw[UK,UK,RepL.length h2]
theorem RepL.get':∀ {ds:List Dx} {vs:List V} {i:Nat} {d:Dx},RepL K H ds vs->ds[i]?=some d->∃v,vs[i]?=some v/\Rep K H d v
 | [],vs,i,d,h,e=>by simp at e
 | d'::ds,vs,i,d,h,e=>by
  rw[RepL]at h;obtain⟨x,xs,rfl,h1,h2⟩:=h;cases i with
  | zero=>simp at e;subst e;exact⟨x,rfl,h1⟩
  | succ i=>exact RepL.get' (i:=i) (ds:=ds) h2 (by simpa using e)
mutual
def Dx.dep:Dx->Nat
 | .tup l=>rE l+1
 | .lst l=>rE l+1
 | .non=>0
 | .bl _=>0
 | .int _=>0
 | .str _=>0
def rE:List Dx->Nat
 | []=>0
 | d::ds=>max d.dep (rE ds)
end
mutual
def Dx.nb:Dx->Bool
 | .bl _=>false
 | .tup l=>EK l
 | .lst l=>EK l
 | .non=>true
 | .int _=>true
 | .str _=>true
def EK:List Dx->Bool
 | []=>true
 | d::ds=>d.nb && EK ds
end
theorem w8:∀ {ds:List Dx} {i:Nat} {d:Dx},ds[i]?=some d->d.dep<=rE ds
 | [],i,d,e=>by simp at e
 | d'::ds,0,d,e=>by simp at e;subst e;rw[rE];lia
 | d'::ds,i+1,d,e=>by
  have:=w8 (ds:=ds) (i:=i) (by simpa using e);rw[rE];lia
theorem vP:∀ {ds:List Dx} {i:Nat} {d:Dx},EK ds=true->ds[i]?=some d->d.nb=true
 | [],i,d,_,e=>by simp at e
 | d'::ds,0,d,h,e=>by simp at e;subst e;rw[EK,UE]at h;exact h.1
 | d'::ds,i+1,d,h,e=>by
  rw[EK,UE]at h;exact vP h.2 (by simpa using e)
end
section
variable {X:Cx}{pins:List (Addr×Obj)}{σ:L2.St}{H:Hp}{s:S8}
theorem wY(I:Inv X pins σ H s)(h1:SqL X.K H a xs)(h2:SqT X.K H a ys):False:=by
 obtain⟨F,_,⟨o,n,e,c,_⟩,_⟩:=I.list h1;obtain⟨its',_,⟨o',B,q,_⟩,_⟩:=I.tuple h2;rw[e]at B;cases B;rw[c]at q;exact absurd q (by decide)
mutual
theorem Rep.inj(I:Inv X pins σ H s):∀(d e:Dx) (v:V),Rep X.K H d v->Rep X.K H e v->d=e
 | .non,e,v,h,h'=>by
  rw[Rep]at h;subst h;cases e <;> (rw[Rep]at h') <;> first|rfl|(cases h';done)|(obtain⟨_,_,z,_⟩:=h';cases z)
 | .bl b,e,v,h,h'=>by
  rw[Rep]at h;subst h;cases e <;> (rw[Rep]at h') <;> first|(cases h';rfl)|(cases h';done)|(obtain⟨_,_,z,_⟩:=h';cases z)
 | .int i,e,v,h,h'=>by
  rw[Rep]at h;subst h;cases e <;> (rw[Rep]at h') <;> first|(cases h';rfl)|(cases h';done)|(obtain⟨_,_,z,_⟩:=h';cases z)
 | .str x,e,v,h,h'=>by
  rw[Rep]at h;subst h;cases e <;> (rw[Rep]at h') <;> first|(cases h';rfl)|(cases h';done)|(obtain⟨_,_,z,_⟩:=h';cases z)
 | .tup l,e,v,h,h'=>by
  rw[Rep]at h;obtain⟨a,xs,rfl,h1,h2⟩:=h;cases e with
  | tup m=>
   rw[Rep]at h';obtain⟨b,ys,q,B,F⟩:=h';cases q;have G:=I.tuple_inj h1 B;subst G;rw[RepL.inj I l m xs h2 F]
  | lst m=>
   rw[Rep]at h';obtain⟨b,ys,q,B,F⟩:=h';cases q;exact(wY I B h1).elim
  | non=>rw[Rep]at h';cases h'
  | bl b=>rw[Rep]at h';cases h'
  | int i=>rw[Rep]at h';cases h'
  | str x=>rw[Rep]at h';cases h'
 | .lst l,e,v,h,h'=>by
  rw[Rep]at h;obtain⟨a,xs,rfl,h1,h2⟩:=h;cases e with
  | lst m=>
   rw[Rep]at h';obtain⟨b,ys,q,B,F⟩:=h';cases q;have G:=I.list_inj h1 B;subst G;rw[RepL.inj I l m xs h2 F]
  | tup m=>
   rw[Rep]at h';obtain⟨b,ys,q,B,F⟩:=h';cases q;exact(wY I h1 B).elim
  | non=>rw[Rep]at h';cases h'
  | bl b=>rw[Rep]at h';cases h'
  | int i=>rw[Rep]at h';cases h'
  | str x=>rw[Rep]at h';cases h'
theorem RepL.inj(I:Inv X pins σ H s):∀(ds es:List Dx) (vs:List V),RepL X.K H ds vs->RepL X.K H es vs->ds=es
 | [],es,vs,h,h'=>by
  rw[RepL]at h;subst h;cases es with
  | nil=>rfl
  | cons e es=>rw[RepL]at h';obtain⟨_,_,z,_⟩:=h';cases z
 | d::ds,es,vs,h,h'=>by
  rw[RepL]at h;obtain⟨x,xs,rfl,h1,h2⟩:=h;cases es with
  | nil=>rw[RepL]at h';cases h'
  | cons e es=>
   rw[RepL]at h';obtain⟨_,_,z,B,q⟩:=h';cases z;rw[Rep.inj I d e x h1 B,RepL.inj I ds es xs h2 q]
end
end
open Classical in
theorem qF:∀(ds es:List Dx),((T2 (min ds.length es.length)).all (λj=>decide (ds.getD j .non=es.getD j .non)) && ds.length == es.length)=decide (ds=es):=by
 intro ds es;by_cases h:ds=es
 ·subst h
  simp
 ·rw[decide_eq_false h]
  by_cases q:ds.length=es.length
  ·simp only[q,Nat.min_self,beq_self_eq_true,Bool.and_true]
   rw[zal];intro B;rw[YC]at B;refine h (YD q λi h1 h2=>?_);have:=of_decide_eq_true (B i (List.mem_range.mpr h2));simpa[XG,h1,h2]using this
  ·have:(ds.length == es.length)=false:=by simpa using q
   rw[this,Bool.and_false]
open Classical in
theorem tN(ds es:List Dx)(h:ds.length=es.length):((T2 ds.length).all (λj=>decide (ds.getD j .non=es.getD j .non)))=decide (ds=es):=by
 have:=qF ds es;rw[h,Nat.min_self,beq_self_eq_true,Bool.and_true]at this;rw[h];exact this
section
variable {X:Cx}{pins:List (Addr×Obj)}{σ:L2.St}{H:Hp}{s:S8}
theorem EqAt.to(h:EqAt A s u v b)(e:b=c):EqAt A s u v c:=e ▸ h
open Classical in
theorem g4(I:Inv X pins σ H s){n:Nat}(ih:∀(A:TX) (d e:Dx) (x y:V) (u v:Value),d.dep<=n->A.units+n<cLine->d.nb=true->e.nb=true->Rep X.K H d x->Rep X.K H e y->RelV x u->RelV y v->EqAt A s u v (decide (d=e)))
  {A:TX} {ds es:List Dx} {xs ys:List V} {q vs:List Value} (hd:rE ds<=n) (hu:A.units+(n+1)<cLine) (h1:EK ds=true) (h2:EK es=true) (U:RepL X.K H ds xs) (J:RepL X.K H es ys) (F:Vals xs q) (N:Vals ys vs) :
  ∀j (h1:j<q.toArray.size) (h2:j<vs.toArray.size),EqAt A.in1 s q.toArray[j] vs.toArray[j] (decide (ds.getD j .non=es.getD j .non)):=by
 intro j j1 j2;have l1:=U.length;have l2:=J.length;have l3:=F.length;have l4:=N.length;have Y:j<q.length:=by simpa using j1
 have W:j<vs.length:=by simpa using j2
 have B:ds[j]?=some (ds.getD j .non):=by simp[XG,show j<ds.length by lia]
 have G:es[j]?=some (es.getD j .non):=by simp[XG,show j<es.length by lia]
 obtain⟨x,ex,rx⟩:=U.get' B;obtain⟨y,ey,ry⟩:=J.get' G;obtain⟨u,M,ru⟩:=F.get ex;obtain⟨v,ev,rv⟩:=N.get ey;have b1:q.toArray[j]=u:=by
  rw[UU Y]at M;simpa using UF M
 have b2:vs.toArray[j]=v:=by
  rw[UU W]at ev;simpa using UF ev
 rw[b1,b2];exact ih A.in1 _ _ x y u v (UY (w8 B) hd) (by show A.units+1+n<cLine;lia) (vP h1 B) (vP h2 G) rx ry ru rv
end
section
variable {X:Cx}{pins:List (Addr×Obj)}{σ:L2.St}{H:Hp}{s:S8}
theorem PlainL.isList(p:PlainL h a its):h.IsList a its:=by
 obtain⟨o,n,e,c,_,d⟩:=p;exact⟨o,e,c,n,d⟩
open Classical in
theorem p8(I:Inv X pins σ H s) :
  ∀(n:Nat) (A:TX) (d e:Dx) (x y:V) (u v:Value),d.dep<=n->A.units+n<cLine->d.nb=true->e.nb=true->Rep X.K H d x->Rep X.K H e y->RelV x u->RelV y v->EqAt A s u v (decide (d=e)):=by
 intro n;induction n with
 | zero=>
  intro A d e x y u v hd hu n1 M W q Y F;have B:A.units<cLine:=by lia
  cases d with
  | bl b=>rw[Dx.nb]at n1;cases n1
  | tup l=>rw[Dx.dep]at hd;lia
  | lst l=>rw[Dx.dep]at hd;lia
  | non=>
   rw[Rep]at W;subst W;cases Y;cases e with
   | bl b=>rw[Dx.nb]at M;cases M
   | non=>rw[Rep]at q;subst q;cases F;exact EqAt.to (EqAt.same _) (by simp)
   | int i=>rw[Rep]at q;subst q;obtain⟨t,rfl⟩:=F;exact EqAt.to (EqAt.none_int _ _) (by simp)
   | str i=>rw[Rep]at q;subst q;obtain⟨t,rfl⟩:=F;exact EqAt.to (EqAt.none_str _ _) (by simp)
   | tup l=>
    rw[Rep]at q;obtain⟨a,xs,rfl,h1,_⟩:=q;cases F;obtain⟨J,_,G,_⟩:=I.tuple h1;exact EqAt.to (EqAt.none_tuple G B) (by simp)
   | lst l=>
    rw[Rep]at q;obtain⟨a,xs,rfl,h1,_⟩:=q;cases F;obtain⟨J,_,G,_⟩:=I.list h1;exact EqAt.to (EqAt.none_list G.isList B) (by simp)
  | int i=>
   rw[Rep]at W;subst W;obtain⟨t,rfl⟩:=Y;cases e with
   | bl b=>rw[Dx.nb]at M;cases M
   | non=>rw[Rep]at q;subst q;cases F;exact EqAt.to (EqAt.int_none _ _) (by simp)
   | int j=>rw[Rep]at q;subst q;obtain⟨t',rfl⟩:=F;exact EqAt.to (EqAt.int_int _ _ _ _) (by simp[zam])
   | str j=>rw[Rep]at q;subst q;obtain⟨t',rfl⟩:=F;exact EqAt.to (EqAt.int_str _ _ _ _) (by simp)
   | tup l=>
    rw[Rep]at q;obtain⟨a,xs,rfl,h1,_⟩:=q;cases F;obtain⟨J,_,G,_⟩:=I.tuple h1;exact EqAt.to (EqAt.int_tuple _ _ G B) (by simp)
   | lst l=>
    rw[Rep]at q;obtain⟨a,xs,rfl,h1,_⟩:=q;cases F;obtain⟨J,_,G,_⟩:=I.list h1;exact EqAt.to (EqAt.int_list _ _ G.isList B) (by simp)
  | str i=>
   rw[Rep]at W;subst W;obtain⟨t,rfl⟩:=Y;cases e with
   | bl b=>rw[Dx.nb]at M;cases M
   | non=>rw[Rep]at q;subst q;cases F;exact EqAt.to (EqAt.str_none _ _) (by simp)
   | int j=>rw[Rep]at q;subst q;obtain⟨t',rfl⟩:=F;exact EqAt.to (EqAt.str_int _ _ _ _) (by simp)
   | str j=>rw[Rep]at q;subst q;obtain⟨t',rfl⟩:=F;exact EqAt.to (EqAt.str_str _ _ _ _) (by simp[zam])
   | tup l=>
    rw[Rep]at q;obtain⟨a,xs,rfl,h1,_⟩:=q;cases F;obtain⟨J,_,G,_⟩:=I.tuple h1;exact EqAt.to (EqAt.str_tuple _ _ G B) (by simp)
   | lst l=>
    rw[Rep]at q;obtain⟨a,xs,rfl,h1,_⟩:=q;cases F;obtain⟨J,_,G,_⟩:=I.list h1;exact EqAt.to (EqAt.str_list _ _ G.isList B) (by simp)
 | succ n ih=>
  intro A d e x y u v hd hu n1 M W q Y F;have B:A.units<cLine:=by lia
  cases d with
  | bl b=>rw[Dx.nb]at n1;cases n1
  | non=>exact ih A _ e x y u v (by rw[Dx.dep];lia) (by lia) n1 M W q Y F
  | int i=>exact ih A _ e x y u v (by rw[Dx.dep];lia) (by lia) n1 M W q Y F
  | str i=>exact ih A _ e x y u v (by rw[Dx.dep];lia) (by lia) n1 M W q Y F
  | tup l=>
   have aa:=W;rw[Rep]at W;obtain⟨a,xs,rfl,h1,q1⟩:=W;cases Y;obtain⟨J,v1,G,_⟩:=I.tuple h1;cases e with
   | bl b=>rw[Dx.nb]at M;cases M
   | non=>rw[Rep]at q;subst q;cases F;exact EqAt.to (EqAt.tuple_none G B) (by simp)
   | int j=>rw[Rep]at q;subst q;obtain⟨t',rfl⟩:=F;exact EqAt.to (EqAt.tuple_int _ _ G B) (by simp)
   | str j=>rw[Rep]at q;subst q;obtain⟨t',rfl⟩:=F;exact EqAt.to (EqAt.tuple_str _ _ G B) (by simp)
   | lst m=>
    rw[Rep]at q;obtain⟨b,ys,rfl,h2,q2⟩:=q;cases F;obtain⟨U,v2,N,_⟩:=I.list h2;exact EqAt.to (EqAt.tuple_list G N.isList B) (by simp)
   | tup m=>
    by_cases hv:v=TN a
    ·subst hv
     obtain rfl:y=V.ref a:=RelV.inj F rfl;have:=Rep.inj I _ _ _ aa q;rw[this];exact EqAt.to (EqAt.same _) (by simp)
    ·rw[Rep]at q;obtain⟨b,ys,rfl,h2,q2⟩:=q;cases F
     obtain⟨U,v2,N,_⟩:=I.tuple h2;rw[Dx.dep]at hd;rw[Dx.nb]at n1 M;refine EqAt.to (EqAt.of_refs (λz=>hv (by rw[z])) (RcAt.tuples G N B (g4 I ih (by lia) hu n1 M q1 q2 v1 v2))) ?_;have e1:J.toArray.size=l.length:=by rw[T3,<- v1.length,q1.length]
     have e2:U.toArray.size=m.length:=by rw[T3,<- v2.length,q2.length]
     rw[e1,e2,qF];simp
  | lst l=>
   have aa:=W;rw[Rep]at W;obtain⟨a,xs,rfl,h1,q1⟩:=W;cases Y;obtain⟨J,v1,G,_⟩:=I.list h1;cases e with
   | bl b=>rw[Dx.nb]at M;cases M
   | non=>rw[Rep]at q;subst q;cases F;exact EqAt.to (EqAt.list_none G.isList B) (by simp)
   | int j=>rw[Rep]at q;subst q;obtain⟨t',rfl⟩:=F;exact EqAt.to (EqAt.list_int _ _ G.isList B) (by simp)
   | str j=>rw[Rep]at q;subst q;obtain⟨t',rfl⟩:=F;exact EqAt.to (EqAt.list_str _ _ G.isList B) (by simp)
   | tup m=>
    rw[Rep]at q;obtain⟨b,ys,rfl,h2,q2⟩:=q;cases F;obtain⟨U,v2,N,_⟩:=I.tuple h2;exact EqAt.to (EqAt.list_tuple G.isList N B) (by simp)
   | lst m=>
    by_cases hv:v=TN a
    ·subst hv
     obtain rfl:y=V.ref a:=RelV.inj F rfl;have:=Rep.inj I _ _ _ aa q;rw[this];exact EqAt.to (EqAt.same _) (by simp)
    ·rw[Rep]at q;obtain⟨b,ys,rfl,h2,q2⟩:=q;cases F
     obtain⟨U,v2,N,_⟩:=I.list h2;rw[Dx.dep]at hd;rw[Dx.nb]at n1 M;have e1:J.toArray.size=l.length:=by rw[T3,<- v1.length,q1.length]
     have e2:U.toArray.size=m.length:=by rw[T3,<- v2.length,q2.length]
     by_cases hl:l.length=m.length
     ·refine EqAt.to (EqAt.of_refs (λz=>hv (by rw[z])) (RcAt.lists G.isList N.isList (by rw[e1,e2,hl]) B (g4 I ih (by lia) hu n1 M q1 q2 v1 v2))) ?_
      rw[e1,tN _ _ hl];simp
     ·refine EqAt.to (EqAt.of_refs (λz=>hv (by rw[z])) (RcAt.lists_lengths G.isList N.isList (by rw[e1,e2];simpa using hl) B)) ?_
      rw[decide_eq_false];intro z;cases z;exact hl rfl
end
noncomputable def Dx.seq:Dx->Bool
 | .tup _=>true | .lst _=>true | .non=>false | .bl _=>false | .int _=>false | .str _=>false
open Classical in
def P5(K:S9)(neg:Bool):R2:=λx y H Q=>∃d e,Rep K H d x/\Rep K H e y/\d.seq=true/\e.seq=true/\d.nb=true/\e.nb=true/\d.dep<=60/\Q (.bl (if neg then !decide (d=e)else decide (d=e))) H
section
variable {X:Cx}{pins:List (Addr×Obj)}{σ:L2.St}{H:Hp}{s:S8}
open Classical in
theorem I0(I:Inv X pins σ H s)(hu:X.A.units+64<cLine)(r1:Rep X.K H d x)(J:Rep X.K H e y)(q1:d.seq=true)(M:e.seq=true)(n1:d.nb=true)(n2:e.nb=true)(hd:d.dep<=60)(ru:RelV x u)(rv:RelV y v) :
  RcAt X.A s u v (decide (d=e))/\RcNeAt X.A s u v (!decide (d=e)):=by
 have B:X.A.units<cLine:=by lia
 cases d with
 | bl b=>cases q1
 | non=>cases q1
 | int b=>cases q1
 | str b=>cases q1
 | tup l=>
  rw[Rep]at r1;obtain⟨a,xs,rfl,h1,k1⟩:=r1;cases ru;obtain⟨W,v1,G,_⟩:=I.tuple h1;have U:W.toArray.size=l.length:=by rw[T3,<- v1.length,k1.length]
  cases e with
  | bl b=>cases M
  | non=>cases M
  | int b=>cases M
  | str b=>cases M
  | tup m=>
   rw[Rep]at J;obtain⟨b,ys,rfl,h2,N⟩:=J;cases rv;obtain⟨F,Y,q,_⟩:=I.tuple h2;have e2:F.toArray.size=m.length:=by rw[T3,<- Y.length,N.length]
   rw[Dx.dep]at hd;rw[Dx.nb]at n1 n2;have he:=g4 I (p8 I 60) (A:=X.A) (by lia) (by lia) n1 n2 k1 N v1 Y;have a1:=RcAt.tuples G q B he;have a2:=RcNeAt.tuples G q B he;rw[U,e2,qF]at a1 a2;have z:decide (Dx.tup l=Dx.tup m)=decide (l=m):=by simp
   rw[z];exact⟨a1,a2⟩
  | lst m=>
   rw[Rep]at J;obtain⟨b,ys,rfl,h2,N⟩:=J;cases rv;obtain⟨F,Y,q,_⟩:=I.list h2;have z:decide (Dx.tup l=Dx.lst m)=false:=by simp
   rw[z];exact⟨RcAt.tuple_list G q.isList B,RcNeAt.tuple_list G q.isList B⟩
 | lst l=>
  rw[Rep]at r1;obtain⟨a,xs,rfl,h1,k1⟩:=r1;cases ru;obtain⟨W,v1,G,_⟩:=I.list h1;have U:W.toArray.size=l.length:=by rw[T3,<- v1.length,k1.length]
  cases e with
  | bl b=>cases M
  | non=>cases M
  | int b=>cases M
  | str b=>cases M
  | tup m=>
   rw[Rep]at J;obtain⟨b,ys,rfl,h2,N⟩:=J;cases rv;obtain⟨F,Y,q,_⟩:=I.tuple h2;have z:decide (Dx.lst l=Dx.tup m)=false:=by simp
   rw[z];exact⟨RcAt.list_tuple G.isList q B,RcNeAt.list_tuple G.isList q B⟩
  | lst m=>
   rw[Rep]at J;obtain⟨b,ys,rfl,h2,N⟩:=J;cases rv;obtain⟨F,Y,q,_⟩:=I.list h2;have e2:F.toArray.size=m.length:=by rw[T3,<- Y.length,N.length]
   rw[Dx.dep]at hd;rw[Dx.nb]at n1 n2;have z:decide (Dx.lst l=Dx.lst m)=decide (l=m):=by simp
   rw[z];by_cases hl:l.length=m.length
   ·have he:=g4 I (p8 I 60) (A:=X.A) (by lia) (by lia) n1 n2 k1 N v1 Y
    have a1:=RcAt.lists G.isList q.isList (by rw[U,e2,hl]) B he;have a2:=RcNeAt.lists G.isList q.isList (by rw[U,e2,hl]) B he;rw[U,tN _ _ hl]at a1 a2;exact⟨a1,a2⟩
   ·have z2:decide (l=m)=false:=decide_eq_false λz=>hl (by rw[z])
    rw[z2];exact⟨RcAt.lists_lengths G.isList q.isList (by rw[U,e2];simpa using hl) B,RcNeAt.lists_lengths G.isList q.isList (by rw[U,e2];simpa using hl) B⟩
end
section
variable {X:Cx}
theorem MB(N:X.A.units+64<cLine):OpR X (TY .Eq) (P5 X.K false):=by
 intro pins s σ H x y v u Q I F M h;obtain⟨d,e,W,J,G,Y,n1,B,U,q⟩:=h;exact(I0 I N W J G Y n1 B U F M).1 X.prog X.w X.xe _ ⟨.bl _,H,I,rfl,q⟩
theorem J2(N:X.A.units+64<cLine):OpR X (TY .NotEq) (P5 X.K true):=by
 intro pins s σ H x y v u Q I F M h;obtain⟨d,e,W,J,G,Y,n1,B,U,q⟩:=h;exact(I0 I N W J G Y n1 B U F M).2 X.prog X.w X.xe _ ⟨.bl _,H,I,rfl,q⟩
end
noncomputable def NB(lo c:Int)(n:Nat):It:=⟨λi _=>i<n,λi H x H'=>H'=H/\x=.int (lo+i*c),λi _=>n<=i⟩
theorem sC{P:TJ}{w:World}{K:S9}{tg:Expr}(it:Addr)(lo c:Int)(n:Nat):Turn P w K tg (NB lo c n) [it] it (λi h=>YV h it (lo+(i:Nat)*c) ((n:Int)-(i:Nat)) c) where
 mem:=by simp
 obj:=λi h st b q=>by
  have e:b=it:=by simpa using q
  subst e;exact⟨_,st,λv z=>by
   have z':Data.fields _=Data.cell v:=z;cases z'⟩
 keep:=λi h h' st k=>k it (by simp) _ st
 item:=by
  intro X N hw J hc i pins s σ H E I F st M;subst N hw J;obtain⟨f0,Y,f2,f3,U,G⟩:=F it (by simp);have W:=Walks.range (prog:=X.prog) (w:=X.w) (I.ok.hd hc) it lo c n;refine W.item i s _ _ M st λv h' tk hv B kk=>?_
  obtain⟨t,rfl⟩:=hv;have I1:Inv X pins σ H {s with heap:=h',toks:=tk}:=I.turned (λb o q e=>kk b o (by simpa using q) e) f0 Y f3 U G;exact⟨_,rfl,mN (s:={s with heap:=h',toks:=tk}) (n := "range_iterator") B rfl rfl (by decide) ⟨.int (lo+i*c),H,I1,⟨t,rfl⟩,⟨rfl,rfl⟩,B,λb q=>(F b q).1⟩⟩
 done:=by
  intro X N hw J hc i pins s σ H E I F st M;subst N hw J;obtain⟨f0,Y,f2,f3,U,G⟩:=F it (by simp);exact wpAny_pyNext_range_end (I.ok.hd hc) st (by have:n<=i:=M;lia) λh' eb=>⟨rfl,I.turned (t':=s.toks) (λb o q e=>eb b o q e) f0 Y f3 U G⟩
 self:=λ_ _ _ _ _ st h=>wpAny_pyIter_rangeiter st h
noncomputable def rsz(a b c:Int):Nat:=(WF a b c).toNat
theorem MD(a b c:Int)(q:c≠0):WF a b c=(rsz a b c:Int):=by
 unfold rsz;have:0<=WF a b c:=by
  unfold WF;split
  ·rename_i h
   split
   ·have:=Int.ediv_nonneg (show 0<=b-a-1 by lia) (show 0<=c by lia)
    lia
   ·lia
  ·split
   ·have:=Int.ediv_nonneg (show 0<=a-b-1 by lia) (show 0<=-c by lia)
    lia
   ·lia
 lia
def OZ(ta:TA):TI:=λσ H R=>ta σ H λvs H1=>∃i j c:Int,vs=[.int i,.int j,.int c]/\(c≠0/\c.natAbs<1000/\XH i j c=true)/\R (NB i c (rsz i j c)) H1
theorem yK(Y:Gl X "range")(hm:X.mg "range" = none)(ha:PA X [a,b,c] ta)(hs:TC [a,b,c] X.env=[(false,eval a X.env),(false,eval b X.env),(false,eval c X.env)]:=by rfl)(J:TC [b,c] X.env=[(false,eval b X.env),(false,eval c X.env)]:=by rfl) :
  PI X tg (.Call (.Name "range" p) [a,b,c] [] pos) (OZ ta):=by
 intro pins s σ H R I h;refine Call_ (gF I Y hm My.boot_range (X5 (a7 (ha pos pins s σ H _ I h) λus G ⟨vs,H1,U,r1,W⟩=>?_) (by rw[hs,J]) (by rw[J];rfl)));obtain⟨i,j,B,e,⟨c0,c1,sm⟩,q⟩:=W;subst e;cases r1 with
 | cons r rr=>
  cases rr with
  | cons r' rr=>
   cases rr with
   | cons r'' rr=>
    cases rr;obtain⟨t,rfl⟩:=r;obtain⟨t',rfl⟩:=r';obtain⟨F,rfl⟩:=r'';refine call_range_3 c0 ?_ (U1 (PyProof.noPylong_small (by lia)));refine wpAny_pyIter_range (IsRange.new ..) sm ?_;have M:Inv X pins σ H1 {G with heap:=G.heap.push {cls:=.type "range",data:=.fields #[.int i t,.int j t',.int B F]},toks:=G.toks}:=U.kept λb o e=>TV _ e
    refine⟨(G.heap.push {cls:=.type "range",data:=.fields #[.int i t,.int j t',.int B F]}).objs.size,[(G.heap.push {cls:=.type "range",data:=.fields #[.int i t,.int j t',.int B F]}).objs.size],_,_,H1,rfl,
     M.kept (t':=G.toks) λb o e=>TV _ e,sC _ i B (rsz i j B),?_,λb N=>?_,q⟩
    ·show YV _ _ (i+((0:Nat):Int)*B) (((rsz i j B:Nat):Int)-((0:Nat):Int)) B
     rw[<- MD i j B c0];have e1:i+((0:Nat):Int)*B=i:=by simp
     have e2:WF i j B-((0:Nat):Int)=WF i j B:=by simp
     rw[e1,e2];exact T8 _ rfl
    ·have e:b=(G.heap.push {cls:=.type "range",data:=.fields #[.int i t,.int j t',.int B F]}).objs.size:=by simpa using N
     subst e;exact M.fpOk (TR _) (M.hok.fresh (TR _))
def TSame(H H':Hp):Prop:=∀b xs,Rd H b (.tup xs)->Rd H' b (.tup xs)
theorem Same.t(e:Same H H'):TSame H H':=λb xs h=>by
 rcases h with h|⟨o,h⟩
 ·exact .inl (e _ _ h)
 ·exact .inr ⟨o,e _ _ h⟩
theorem TSame.trans(a:TSame H H1)(b:TSame H1 H2):TSame H H2:=λc o h=>b c o (a c o h)
theorem TSame.put(h:H l=some (.lst us)):TSame H (upd H l o):=λb xs q=>by
 have ne:b≠l:=λz=>by
  subst z;rcases q with q|⟨B,q⟩ <;> (rw[h]at q;cases q)
 rcases q with q|⟨B,q⟩
 ·exact .inl (by rw[aC ne];exact q)
 ·exact .inr ⟨B,by rw[aC ne];exact q⟩
theorem TSame.sq{K:S9}{H H':Hp}{a:Addr}{xs:List V}(e:TSame H H')(h:SqT K H a xs):SqT K H' a xs:=by
 rcases h with h|h
 ·exact .inl (e _ _ h)
 ·exact .inr h
mutual
def Dx.nl:Dx->Bool
 | .lst _=>false
 | .tup l=>QH l
 | .non=>true
 | .bl _=>true
 | .int _=>true
 | .str _=>true
def QH:List Dx->Bool
 | []=>true
 | d::ds=>d.nl && QH ds
end
section
variable {K:S9}{H H':Hp}
mutual
theorem Rep.tsame(e:TSame H H'):∀(d:Dx) (v:V),d.nl=true->Rep K H d v->Rep K H' d v
 | .non,v,_,h=>by rw[Rep]at h ⊢;exact h
 | .bl b,v,_,h=>by rw[Rep]at h ⊢;exact h
 | .int i,v,_,h=>by rw[Rep]at h ⊢;exact h
 | .str x,v,_,h=>by rw[Rep]at h ⊢;exact h
 | .tup l,v,n,h=>by
  rw[Rep]at h ⊢;rw[Dx.nl]at n;obtain⟨a,xs,q,h1,h2⟩:=h;exact⟨a,xs,q,e.sq h1,RepL.tsame e l xs n h2⟩
 | .lst l,v,n,h=>by rw[Dx.nl]at n;cases n
theorem RepL.tsame(e:TSame H H'):∀(ds:List Dx) (vs:List V),QH ds=true->RepL K H ds vs->RepL K H' ds vs
 | [],vs,_,h=>by rw[RepL]at h ⊢;exact h
 | d::ds,vs,n,h=>by
  rw[RepL]at h ⊢;rw[QH,UE]at n;obtain⟨x,xs,q,h1,h2⟩:=h;exact⟨x,xs,q,Rep.tsame e d x n.1 h1,RepL.tsame e ds xs n.2 h2⟩
end
end
theorem Same.put(e:Same H H')(h:H l=none):Same H (upd H' l o):=λb u q=>by
 rw[aC (aW q h)];exact e b u q
def aL(X:Cx)(N:List Str)(scope:Scope)(q:List (Str×Addr))(C:Addr)(s:S8)(H:Hp)(fp:List Addr):Cx where
 prog:=X.prog
 w:=X.w
 K:=X.K
 mg:=X.mg
 base:=X.base
 A:=X.A
 N:=N
 s₀:=s
 H₀:=H
 env:=compEnvC scope q C X.env
 outer:=X.stack
 stack:=X.stack
 ex:=fp
 fn:=λ_=>false
 calm:=X.calm
 pn:=[]
 xe:=λ_ _=>False
def uE(X:Cx)(q:List Expr)(t:TT):Prop:=
 ∀(pins:List (Addr×Obj)) (s:S8) (σ:L2.St) (H:Hp) (Q:Bool->Hp->Prop),Inv X pins σ H s->t σ H Q->
  wpAny (model X.prog X.w) X.A (forIn q true λc r=>if r=true then do let ok <- isTrue c X.env (eval c X.env);pure (XI ok)else pure (XI r)) (TP X pins σ Q) X.xe s
def RO:TT:=λ_ H Q=>Q true H
theorem EW:uE X [] RO:=λpins s σ H Q I h=>wpAny_tests_nil ⟨H,I,h⟩
theorem G9(h:PT X c t):uE X [c] t:=λpins s σ H Q I hw=>wpAny_tests_one (h pins s σ H Q I hw)
structure Clo(X:Cx)(N:List Str)(scope:Scope)(cl:List (Str×Addr)):Prop where
 clos:closureFor scope X.env=pure cl
 kind:scope.kind=.function
 nocell:∀y∈scope.names,y.2≠.cell
 names:∀y∈scope.names,y.2=.local->scope.names.lookup y.1=some .local
 sub:∀x c,cl.lookup x=some c->X.env.cells.lookup x=some c
 has:∀x,((VY scope X.env).names.lookup x=some .cell\/(VY scope X.env).names.lookup x=some .free)->∃c,cl.lookup x=some c
def Start(X:Cx)(N:List Str)(scope:Scope)(σ q:L2.St):Prop:=
 q.length=N.length/\∀(j:Nat) (x:Str) (v:V),N[j]?=some x->q[j]?=some (some v)->NF (VY scope X.env) x->¬ (VY scope X.env).names.lookup x=some .local/\∃i:Nat,X.N[i]?=some x/\σ[i]?=some (some v)/\(X.env.kindOf x=some .cell\/X.env.kindOf x=some .free)
def xV(wi:TI)(g:TG)(tt:TT)(te:TE)(S:L2.St->L2.St->Prop):TE:=λσ H Q=>∃F,S σ F/\wi σ H λJ H1=>∀D,H1 D=none->∃W:Nat->Nat->L2.St->List V->Hp->Prop,(∃m,W 0 m F [] (upd H1 D (.lst []))) /\
 ∀i m G B H2,W i m G B H2->(J.stop i H2/\Q (.ref D) H2)\/(J.go i H2/\B.length<TK/\∀x U,J.yld i H2 x U->g x G U λq H4=>tt q H4 λok N=>
  if ok=true then te q N λv Y=>Y D=some (.lst B)/\∃M,M<m/\W (i+1) M q (B++[v]) (upd Y D (.lst (B++[v])))else N D=some (.lst B)/\∃M,M<m/\W (i+1) M q B N)
section
variable {X:Cx}
theorem GS(B:Inv X pins σ H3 s3)(G:Clo X N scope cl)(J:∀b∈fp,fH X pins H3 b)(M:∀b∈fp,∃o,s3.heap.get? b=some o) :
  (aL X N scope cl s3.heap.objs.size s3 H3 fp).Ok where
 mod:=B.ok.mod
 kind:=G.kind
 glob:=B.ok.glob
 blt:=B.ok.blt
 above:=TR _
 inj:=λx y c h1 h2=>B.ok.inj x y c (G.sub x c h1) (G.sub y c h2)
 has:=λx h=>G.has x h
 cab:=λx c h _=>nomatch h
 hd:=B.ok.hd
 frames:=B.ok.frames
 stk:=.inl rfl
 exf:=λb F=>by
  obtain⟨o,e⟩:=M b F;exact⟨T9 (TQ e),λx c h=>(J b F).2.2.2.2.1 x c (G.sub x c h)⟩
 bs:=B.bs
 bsz:=UY B.ok.bsz B.sz
 noex:=λb o e F=>by
  rcases(J b F).2.2.2.1 with z|z
  ·exact B.ok.noex b o e z
  ·exact absurd (U2 (TQ e) B.ok.bsz) (Nat.not_lt.mpr z)
 exfs:=λb F z=>by
  rcases List.mem_cons.mp (B.stkSub b z)with q|q
  ·exact(J b F).2.1 q
  ·exact(J b F).2.2.1 q
 funs:=B.stack
 frf:=B.stkFree
theorem BS(F:Inv X pins σ H3 s3)(M:Clo X N scope cl)(ff:∀b∈fp,fH X pins H3 b)(fe:∀b∈fp,∃o,s3.heap.get? b=some o)
  (st:Start X N scope σ σ') (ho:s4.os=s3.os) (hg:s4.gens=s3.gens) (U:∀b o,s3.heap.get? b=some o->s4.heap.get? b=some o) (hn:s4.heap.Ns s3.heap.objs.size m) :
  Inv (aL X N scope cl s3.heap.objs.size s3 H3 fp) [] σ' H3 s4 where
 ok:=GS F M ff fe
 os:=ho
 bare:=by rw[hg];exact F.bare
 base:=Un.kept U
 loc:=by
  refine⟨m,hn,λj x v h1 h2 B=>?_⟩;obtain⟨nl,i,W,e2,q⟩:=st.2 j x v h1 h2 B;obtain⟨m0,ag,aa⟩:=F.loc;have Y:NF X.env.scope x:=by
   rcases q with q|q
   ·exact .inr (.inl q)
   ·exact .inr (.inr q)
  obtain⟨u,ru,l⟩:=aa i x v W e2 Y;refine⟨u,ru,?_⟩;rcases l with⟨lk,_⟩|⟨_,c,hc,G⟩
  ·rcases q with q|q <;> (rw[lk]at q;cases q)
  ·have kk:(VY scope X.env).names.lookup x=some .cell\/(VY scope X.env).names.lookup x=some .free:=by
    rcases B with B|B|B
    ·exact absurd B nl
    ·exact .inl B
    ·exact .inr B
   obtain⟨c',J⟩:=M.has x kk;have ec:=M.sub x c' J;rw[hc]at ec;cases ec;obtain⟨o,ab,ac⟩:=G;exact .inr ⟨kk,c,J,o,U c o ab,ac⟩
 cell:=λx c e=>by
  obtain⟨v,o,W,d1⟩:=F.cell x c (M.sub x c e);exact⟨v,o,U c o W,d1⟩
 free:=F.hok.fresh (TR _)
 freeC:=λx c e=>F.freeC x c (M.sub x c e)
 pin:=λp hp=>nomatch hp
 hok:=F.hok.kept U
 len:=st.1
theorem comp_back(U:Inv X pins σ H3 s3)(ff:∀b∈fp,fH X pins H3 b)
  (G:Inv (aL X N scope cl s3.heap.objs.size s3 H3 fp) [] σ5 H5 s5) (hs:UM s3.heap.objs.size s5.heap h'):Inv X pins σ H5 {s5 with heap:=h'}:=by
 have ne:∀b o,s3.heap.get? b=some o->b≠s3.heap.objs.size:=λb o e=>T9 (TQ e)
 have u:=G.base;refine U.call' (s':={s5 with heap:=h'}) (ch:=fp) G.os ⟨λb o e n F B=>?_,λb o e n F B=>?_,u.free,λb o e B=>?_,u.tups,u.frzs,u.tbls⟩ ?_ G.bare λb F=>?_
 ·exact(hs.2 b (ne b o e)).trans (u.keep b o e n F B)
 ·obtain⟨sl,q⟩:=u.slot b o e n F B
  exact⟨sl,(hs.2 b (ne b o e)).trans q⟩
 ·obtain⟨o',q⟩:=u.there b o e B
  exact⟨o',(hs.2 b (ne b o e)).trans q⟩
 ·intro b ob e
  have J:H5 s3.heap.objs.size=none:=G.free;refine(G.hok b ob e).stay (λc w' hc q=>(hs.2 c ?_).trans q) (λ_ q=>q) λ_ _ q=>q
  rintro rfl;rcases hc with z|z
  ·subst z;rw[J]at e;cases e
  ·rw[J]at z;cases z
 ·obtain⟨_,W,_,f3,Y,M⟩:=ff b F
  exact⟨f3,W,Y,M⟩
theorem z5(I:Nat->S8->Prop)
  (turn:∀n s, I n s -> wpAny (model prog w) A (UW it) (λr F => match r with
   | none=>R (.ok .next) F
   | some v=>wpAny (model prog w) A (YU target it v) (λ_ q=>wpAny (model prog w) A (U6 target env v) (λ_ J=>
     wpAny (model prog w) A (forIn ifs true λc r=>if r=true then do let ok <- isTrue c env (eval c env);pure (XI ok)else pure (XI r)) (λok B=>
      if ok=true then wpAny (model prog w) A (eval elt env) (λx U=>
       wpAny (model prog w) A (call (.builtin "list.append") [acc,x]) (λ_ G=>∃m,m<n/\I m G) (λ_ _=>False) U) (λ_ _=>False) B
      else ∃m,m<n/\I m B) (λ_ _=>False) J) (λ_ _=>False) q) (λ_ _=>False) F) (λ_ _=>False) s)
  (n:Nat) (h:I n s) :
  VW (model prog w) A (.compLoop (.ListComp elt [⟨target,iter,ifs,0⟩] scope pos) 0 it acc env) R s:=by
 refine codeAny_loop rfl I (λn s hI=>?_) n h;show wpAny _ A ((compTurn (.ListComp elt [⟨target,iter,ifs,0⟩] scope pos) 0 it acc env).onRaise (λx=>do noteFrame x env;theTreesLotGoes x)) _ _ s;refine wpAny_noted ?_;rw[compTurn_list];have Y:∀(e:Value) (s':S8),False->notedBy (model prog w) A env (λe s'=>R (.error e) s') e s':=λ_ _ h=>h.elim
 refine S7 (X2 (S7 (U3 (turn n s hI) (λr F N=>?_) Y)));cases r with
 | none=>exact TB N
 | some v=>
  refine S7 (U3 N (λ_ q W=>?_) Y);refine S7 (U3 W (λ_ J aa=>S7 (U3 aa (λok B M=>?_) Y)) Y);cases ok with
  | false=>exact TB ⟨rfl,M⟩
  | true=>
   exact S7 (S7 (U3 M (λx U ab=>S7 (U3 ab (λ_ G ac=>TB (TB ⟨rfl,ac⟩)) Y)) Y))
theorem nU{as tg am:Expr}{ao:List Expr}{scope:Scope}{pos:Pos}{N:List Str}{U:List (Str×Addr)}{wi:TI}{g:TG}{tt:TT}{te:TE}{RR:Value->Addr->Result->S8->Prop}{pins:List (Addr×Obj)}{σ ai:L2.St}{Q:VK}{J:It}{H2:Hp}{B:S8}{it:Addr}{fp:List Addr}{tn:Nat->Heap->Prop}{E:Value->S8->Prop}
  (hc:X.calm=true) (cc:Clo X N scope U) (hg:∀C s H fp,PG (aL X N scope U C s H fp) tg g) (ht:∀C s H fp,uE (aL X N scope U C s H fp) ao tt) (he:∀C s H fp,PE (aL X N scope U C s H fp) as te)
  (I2:Inv X pins σ H2 B) (T:Turn X.prog X.w X.K tg J fp it tn) (ap:tn 0 B.heap) (f2:∀b∈fp,fH X pins H2 b) (sS:Start X N scope σ ai)
  (q2:∀D, H2 D = none -> ∃W:Nat -> Nat -> L2.St -> List V -> Hp -> Prop, (∃m, W 0 m ai [] (upd H2 D (.lst []))) /\
   ∀i m M G H2,W i m M G H2->(J.stop i H2/\Q (.ref D) H2)\/(J.go i H2/\G.length<TK/\∀x F,J.yld i H2 x F->g x M F λaj H4=>tt aj H4 λok H5=>
    if ok=true then te aj H5 λv H6=>H6 D=some (.lst G)/\∃m',m'<m/\W (i+1) m' aj (G++[v]) (upd H6 D (.lst (G++[v])))else H5 D=some (.lst G)/\∃m',m'<m/\W (i+1) m' aj G H5))
  (br:∀(s3 s5:S8) (F H5:Hp) (Y:L2.St) (D:Addr),Inv X pins σ F s3->(∀b∈fp,fH X pins F b)->Inv (aL X N scope U s3.heap.objs.size s3 F fp) [] Y H5 s5->Q (.ref D) H5->RR (.ref D) s3.heap.objs.size (.ok .next) s5) :
  wpAny (model X.prog X.w) X.A (newList []) (λa2 a3=>wpAny (model X.prog X.w) X.A (newFunctionEnv scope X.env.globals U [] X.env.qual none .none (some X.env)) (λak a4=>
   VW (model X.prog X.w) X.A (.compStart (.ListComp as [⟨tg,am,ao,0⟩] scope pos) 0 (.ref it) a2 {ak with scope:=VY scope X.env}) (RR a2 ak.locals) a4) E a3) E B:=by
 refine U7 (wpAny_newFunctionEnv cc.nocell (by intro y hy;simp at hy) (λh1 ae af=>?_) cc.kind);dsimp only at ae af ⊢;have I3:Inv X pins σ (upd H2 B.heap.objs.size (.lst [])) {B with heap:=B.heap.push {cls:=.type "list",dict:=none,data:=.seq ([]:List Value).toArray} }:=I2.lnew (t':=B.toks) .nil (U4 _);have hD:H2 B.heap.objs.size=none:=I2.fresh;have bg:∀b∈fp,b≠B.heap.objs.size:=λb q=>by
  obtain⟨o,e,_⟩:=T.obj 0 _ ap b q;exact T9 (TQ e)
 have fe:∀b∈fp,∃o,(B.heap.push {cls:=.type "list",dict:=none,data:=.seq ([]:List Value).toArray}).get? b=some o:=λb q=>by
  obtain⟨o,e,_⟩:=T.obj 0 _ ap b q;exact⟨o,TV _ e⟩
 have f3:∀b∈fp,fH X pins (upd H2 B.heap.objs.size (.lst [])) b:=λb q=>⟨by rw[aC (bg b q)];exact(f2 b q).1,(f2 b q).2⟩
 obtain⟨W,⟨m0,w0⟩,turn⟩:=q2 B.heap.objs.size hD;have bq:(upd H2 B.heap.objs.size (.lst [])) B.heap.objs.size=some (.lst []):=aF;generalize hs3:({B with heap:=B.heap.push {cls:=.type "list",dict:=none,data:=.seq ([]:List Value).toArray} }:S8)=s3 at I3;have e3:B.heap.push {cls:=.type "list",dict:=none,data:=.seq ([]:List Value).toArray}=s3.heap:=by rw[<- hs3]
 rw[e3]at ae af fe ⊢;generalize B.heap.objs.size=D at *;generalize upd H2 D (.lst [])=F at *;have an:∀b o,s3.heap.get? b=some o->h1.get? b=some o:=λb o e=>(af.2 b (T9 (TQ e))).trans (TV _ e)
 have aw:tn 0 s3.heap:=by
  refine T.keep 0 _ _ ap λb q o e=>?_
  rw[<- e3];exact TV _ e
 have al:∀s4:S8,s4={B with heap:=h1,toks:=B.toks+([]:List (Str×Value)).length}->
   VW (model X.prog X.w) X.A (.compLoop (.ListComp as [⟨tg,am,ao,0⟩] scope pos) 0 (.ref it) (.ref D) (compEnvC scope U s3.heap.objs.size X.env)) (RR (.ref D) s3.heap.objs.size) s4:=by
  rintro s4 rfl;have I4:Inv (aL X N scope U s3.heap.objs.size s3 F fp) [] ai F {B with heap:=h1,toks:=B.toks+([]:List (Str×Value)).length}:=
   BS (m:=λx=>([]:List (Str×Value)).reverse.lookup x) I3 cc f3 fe sS (by rw[<- hs3]) (by rw[<- hs3]) an ae
  have ar:∀ {H':Hp},(∀b∈fp,H' b=none)->∀b∈fp,fH (aL X N scope U s3.heap.objs.size s3 F fp) [] H' b:=λhn b q=>by
   have ok:=I4.ok;exact⟨hn b q,(ok.exf b q).1,ok.exfs b q,.inl q,(ok.exf b q).2,λp hp=>nomatch hp⟩
  refine z5 (λn s'=>∃i M G H',Inv (aL X N scope U s3.heap.objs.size s3 F fp) [] M H' s'/\tn i s'.heap/\(∀b∈fp,H' b=none)/\H' D=some (.lst G)/\W i n M G H') ?_ m0 ⟨0,ai,[],F,I4,T.keep 0 _ _ aw λb q o e=>an b o e,λb q=>(f3 b q).1,bq,w0⟩;rintro n s5 ⟨i,Y,G,H5,I5,ax,ay,cs,w5⟩;rcases turn i n Y G H5 w5 with⟨az,qn⟩|⟨go,a5,step⟩
  ·refine a7 (T.done (aL X N scope U s3.heap.objs.size s3 F fp) rfl rfl rfl hc i [] s5 Y H5 _ I5 (ar ay) ax az) λr s6 ⟨hr,I6⟩=>?_
   subst hr;exact br s3 s6 F H5 Y D I3 f3 I6 qn
  ·refine a7 (T.item (aL X N scope U s3.heap.objs.size s3 F fp) rfl rfl rfl hc i [] s5 Y H5 _ I5 (ar ay) ax go) λr s6 ⟨u,hr,h6⟩=>?_
   subst hr;refine a7 h6 λ_ s7 ⟨x,H7,I7,r7,y7,au,bn⟩=>?_
   have be:=I7.pinned (ar bn) (T.obj _ _ au);refine a7 (hg _ _ _ _ _ s7 Y H7 x u _ be r7 (step x H7 y7)) λ_ s8 ⟨aa,H8,I8,q8⟩=>?_
   refine a7 (ht _ _ _ _ _ s8 aa H8 _ I8 q8) λok s9 ⟨H9,I9,q9⟩=>?_
   have fin:∀ {ac:S8} {ab:Hp} {vs:List V},Inv (aL X N scope U s3.heap.objs.size s3 F fp) ([]++mJ fp s7.heap) aa ab ac->ab D=some (.lst vs)->(∃m',m'<n/\W (i+1) m' aa vs ab)->
     ∃m,m<n/\∃i M G H',Inv (aL X N scope U s3.heap.objs.size s3 F fp) [] M H' ac/\tn i ac.heap/\(∀b∈fp,H' b=none)/\H' D=some (.lst G)/\W i m M G H':=λ{ac ab vs} ag hd ⟨m',hm,bl⟩=>by
    refine⟨m',hm,i+1,aa,vs,ab,ag.unpinned,T.keep _ _ _ au λb q o e=>(ag.pin (b,o) (VU _ (VU _ (dZ q e)))).1,λb q=>?_,hd,bl⟩;obtain⟨o,e,d⟩:=T.obj _ _ au b q;exact(ag.pin (b,o) (VU _ (VU _ (dZ q e)))).2.1
   cases ok with
   | false=>
    rw[if_neg TZ]at q9 ⊢;exact fin I9 q9.1 q9.2
   | true=>
    rw[if_pos rfl]at q9 ⊢;refine a7 (he _ _ _ _ _ s9 aa H9 _ I9 q9) λy ac ⟨v,ab,ag,bi,a0,bh⟩=>?_
    refine a7 (nF (X:=aL X N scope U s3.heap.objs.size s3 F fp) _ ac aa ab (.ref D) [v] (.ref D) [y] (λ_ aq=>aq D=some (.lst (G++[v]))/\∃m',m'<n/\W (i+1) m' aa (G++[v]) aq) ag rfl (.cons bi .nil) ⟨D,G,v,rfl,rfl,a0,a5,aF,bh⟩) λ_ cx ⟨z,aq,bj,_,a1,bf⟩=>?_
    exact fin bj a1 bf
 exact codeAny_compStart_list (al _ rfl) (T.self X.A 0 _ _ _ (T.keep 0 _ _ aw λb q o e=>an b o e) (al _ rfl))
theorem G7{G tg B:Expr}{F:List Expr}{scope:Scope}{pos:Pos}{N:List Str}{M:List (Str×Addr)}{wi:TI}{g:TG}{tt:TT}{te:TE}
  (hc:X.calm=true) (U:Clo X N scope M) (hi:PI X tg B wi) (hg:∀C s H fp,PG (aL X N scope M C s H fp) tg g) (ht:∀C s H fp,uE (aL X N scope M C s H fp) F tt) (he:∀C s H fp,PE (aL X N scope M C s H fp) G te)
  (hs:∀x,VC B X.env x=pure x:=by intro _;rfl) :
  PE X (.ListComp G [⟨tg,B,F,0⟩] scope pos) (xV wi g tt te (Start X N scope)):=by
 intro pins s σ H Q I h;obtain⟨ae,sS,hw⟩:=h;rw[eval_ListComp];refine wpAny_comprehension_free (use:=none) rfl hs U.clos U.kind U.names (a7 (hi pins s σ H _ I hw) λv s1 h1=>a7 h1 λam s2 h2=>?_);obtain⟨it,fp,tn,J,H2,e,I2,T,W,f2,q2⟩:=h2;subst e;refine nU (wi:=wi) (Q:=Q) (RR:=λaa C=>compPost (model X.prog X.w) X.A X.xe none (EP X pins σ Q) aa C) hc U hg ht he I2 T W f2 sS q2 ?_;intro s3 s5 H3 H5 an D I3 f3 I5 q;obtain⟨m,hn,_⟩:=id I5.loc;exact⟨m,hn,λh' Y=>⟨.ref D,H5,comp_back I3 f3 I5 Y,rfl,q⟩⟩
end
end My
namespace My
open PySem PySem.W PyProof.Rows
structure Ord(n:Nat)(lt:Nat->Nat->Bool):Prop where
 irr:∀i,i<n->lt i i=false
 tr:∀i j k,i<n->j<n->k<n->lt i j=true->lt j k=true->lt i k=true
 tot:∀i j,i<n->j<n->i≠j->lt i j=true\/lt j i=true
noncomputable def dU(n:Nat)(lt:Nat->Nat->Bool):Nat->Nat->(Bool->S8->Prop)->S8->Prop:=λi j C s=>i<n/\j<n/\i≠j/\C (lt i j) s
def PermR(n:Nat)(p:Array Nat):Prop:=p.Perm (YE (T2 n))
theorem PermR.size(h:PermR n p):p.size=n:=by
 have:=Array.Perm.size_eq h;simpa using this
theorem PermR.lt(h:PermR n p)(hi:i<n):p.getD i 0<n:=by
 have hs:=h.size;have q:i<p.size:=by lia
 have e:p.getD i 0=p[i]:=by simp[XJ,q]
 rw[e];have B:p[i]∈p.toList:=by simp
 have:=(Array.perm_iff_toList_perm.mp h).mem_iff.mp B;simpa using this
theorem PermR.nodup(h:PermR n p):p.toList.Nodup:=by
 have:=Array.perm_iff_toList_perm.mp h;exact this.symm.nodup (by simpa using List.nodup_range)
theorem PermR.ne(h:PermR n p)(hi:i<n)(M:j<n)(q:i≠j):p.getD i 0≠p.getD j 0:=by
 have hs:=h.size;have B:i<p.toList.length:=by rw[VF];lia
 have J:j<p.toList.length:=by rw[VF];lia
 have F:p.getD i 0=p.toList[i]:=by simp[XJ,show i<p.size by lia]
 have G:p.getD j 0=p.toList[j]:=by simp[XJ,show j<p.size by lia]
 rw[F,G];intro z;exact q ((X1 h.nodup).mp z)
def dG(lt:Nat->Nat->Bool)(p:Array Nat)(k:Nat):Prop:=∀i j,i<j->j<k->lt (p.getD i 0) (p.getD j 0)=true
section
variable {n:Nat}{lt:Nat->Nat->Bool}(O:Ord n lt)
include O
theorem gB(B:PermR n p)(F:r<=n)(h:∀i,i+1<r->lt (p.getD i 0) (p.getD (i+1) 0)=true):dG lt p r:=by
 intro i j q G;obtain⟨d,rfl⟩:∃d,j=i+1+d:=⟨j-i-1,by lia⟩;clear q;induction d with
 | zero=>exact h i (by lia)
 | succ d ih=>exact O.tr _ _ _ (B.lt (by lia)) (B.lt (by lia)) (B.lt (by lia)) (ih (by lia)) (h (i+1+d) (by lia))
theorem M7(B:PermR n p)(hi:i<n)(F:j<n)(q:i≠j)(h:lt (p.getD i 0) (p.getD j 0)=false):lt (p.getD j 0) (p.getD i 0)=true:=by
 rcases O.tot _ _ (B.lt hi) (B.lt F) (B.ne hi F q)with z|z
 ·rw[h]at z;cases z
 ·exact z
theorem vM(q:PermR n p):∀(f m:Nat),1<=m->m+f<=n->(∀i,i+1<m->lt (p.getD i 0) (p.getD (i+1) 0)=true)->
  (∀r,m<=r->r<=m+f->(∀i,i+1<r->lt (p.getD i 0) (p.getD (i+1) 0)=true)->(r<m+f->lt (p.getD r 0) (p.getD (r-1) 0)=true)->G r s)->(kas_asc p f m).kasWp (dU n lt) G s
 | 0,m,h1,h2,ha,hG=>hG m (TR _) (TR _) ha λz=>absurd z (by lia)
 | f+1,m,h1,h2,ha,hG=>by
  show dU n lt _ _ _ s;refine⟨q.lt (by lia),q.lt (by lia),q.ne (by lia) (by lia) (by lia),?_⟩;cases hc:lt (p.getD m 0) (p.getD (m-1) 0)with
  | true=>
   show(KasT.ret m).kasWp (dU n lt) G s;exact hG m (TR _) (by lia) ha λ_=>hc
  | false=>
   show(kas_asc p f (m+1)).kasWp (dU n lt) G s;refine vM q f (m+1) (by lia) (by lia) (λi hi=>?_) (λr N M B J=>hG r (by lia) (by lia) B λz=>J (by lia));by_cases e:i+1<m
   ·exact ha i e
   ·have:i=m-1:=by lia
    subst this;have F:m-1+1=m:=by lia
    rw[F];exact M7 O q (by lia) (by lia) (by lia) hc
theorem xM(q:PermR n p):∀(f m:Nat),1<=m->m+f<=n->(∀i,i+1<m->lt (p.getD (i+1) 0) (p.getD i 0)=true)->
  (∀r,m<=r->r<=m+f->(∀i,i+1<r->lt (p.getD (i+1) 0) (p.getD i 0)=true)->G (p,r,0) s)->(kas_desc f p m 0).kasWp (dU n lt) G s
 | 0,m,h1,h2,ha,hG=>hG m (TR _) (TR _) ha
 | f+1,m,h1,h2,ha,hG=>by
  show dU n lt _ _ _ s;refine⟨q.lt (by lia),q.lt (by lia),q.ne (by lia) (by lia) (by lia),?_⟩;cases hc:lt (p.getD m 0) (p.getD (m-1) 0)with
  | true=>
   show(kas_desc f p (m+1) 0).kasWp (dU n lt) G s;refine xM q f (m+1) (by lia) (by lia) (λi hi=>?_) (λr M J B=>hG r (by lia) (by lia) B);by_cases e:i+1<m
   ·exact ha i e
   ·have:i=m-1:=by lia
    subst this;have F:m-1+1=m:=by lia
    rw[F];exact hc
  | false=>
   show dU n lt _ _ _ s;refine⟨q.lt (by lia),q.lt (by lia),q.ne (by lia) (by lia) (by lia),?_⟩;rw[M7 O q (by lia) (by lia) (by lia) hc];exact hG m (TR _) (by lia) ha
theorem CQ(B:PermR n p)(F:r<=n)(k:Nat):(kas_rev p 0 r).getD k 0=if k<r then p.getD (r-1-k) 0 else p.getD k 0:=by
 have hs:=B.size;have e:=getElem?_mirror_all (xs:=p) (i:=0) (j:=r) (by lia) k;have g:∀(q:Array Nat) (k:Nat),q.getD k 0=(q[k]?).getD 0:=λq k=>by
  by_cases h:k<q.size <;> simp[XJ,h]
 unfold kas_rev;rw[g,e];by_cases h:k<r
 ·rw[if_pos ⟨U4 _,h⟩,if_pos h,g]
  congr 2
  lia
 ·rw[if_neg (λz=>h z.2),if_neg h,g]
omit O in
theorem BY(q:PermR n p)(r:Nat):PermR n (kas_rev p 0 r):=(mirror_perm p 0 r _).trans q
theorem A4(q:PermR n p)(hn:1<=n)(M:∀m N,1<=m->m<=n->PermR n N->dG lt N m->G (m,N) s):(kas_count n p).kasWp (dU n lt) G s:=by
 unfold kas_count;rw[KasT.kasWp_bind];refine vM O q (n-1) 1 (TR _) (by lia) (λi hi=>absurd hi (by lia)) λr h1 h2 Y h4=>?_
 by_cases e:r=n
 ·have:(r == n)=true:=by simp[e]
  rw[if_pos this];exact M r p h1 (by lia) q (gB O q (by lia) Y)
 ·have:¬ (r == n)=true:=by simp[e]
  rw[if_neg this];have hs:=gB O q (r:=r) (by lia) Y;by_cases h5:r>1
  ·rw[if_pos h5]
   show dU n lt _ _ _ s;refine⟨q.lt (by lia),q.lt (by lia),q.ne (by lia) (by lia) (by lia),?_⟩;rw[hs 0 (r-1) (by lia) (by lia)];exact M r p h1 (by lia) q hs
  ·rw[if_neg h5]
   have r1:r=1:=by lia
   subst r1;unfold kas_descPart;rw[KasT.kasWp_bind];have U:=h4 (by lia);refine xM O q (n-(1+1)) (1+1) (by lia) (by lia) (λi hi=>?_) λB h6 h7 h8=>?_
   ·have:i=0:=by lia
    subst this;exact U
   ·show(kas_tail3 B n p).kasWp (dU n lt) G s
    unfold kas_tail3;rw[KasT.kasWp_bind];have J:B<=n:=by lia
    have F:PermR n (kas_rev p 0 B):=BY q B;refine vM O F (n-B) B (by lia) (by lia) (λi hi=>?_) λm h9 ab W _=>?_
    ·rw[CQ O q J,CQ O q J,if_pos (by lia),if_pos hi]
     have:=h8 (B-1-(i+1)) (by lia);have e2:B-1-(i+1)+1=B-1-i:=by lia
     rw[e2]at this;exact this
    ·exact M m _ (by lia) (by lia) F (gB O F (by lia) W)
theorem lZ(q:PermR n p)(M:k<n)(hs:dG lt p k):∀(f l r:Nat),l<=r->r<=k->r-l<=f->(∀i,i<l->lt (p.getD i 0) (p.getD k 0)=true)->(∀i,r<=i->i<k->lt (p.getD k 0) (p.getD i 0)=true)->
  (∀l,l<=k->(∀i,i<l->lt (p.getD i 0) (p.getD k 0)=true)->(∀i,l<=i->i<k->lt (p.getD k 0) (p.getD i 0)=true)->G l s)->(kas_place p k f l r).kasWp (dU n lt) G s
 | 0,l,r,h1,h2,h3,h4,h5,hG=>by
  have:l=r:=by lia
  subst this;exact hG l h2 h4 h5
 | f+1,l,r,h1,h2,h3,h4,h5,hG=>by
  unfold kas_place;by_cases e:l ≥ r
  ·rw[if_pos e]
   have:l=r:=by lia
   subst this;exact hG l h2 h4 h5
  ·rw[if_neg e]
   show dU n lt _ _ _ s;refine⟨q.lt (by lia),q.lt (by lia),q.ne (by lia) (by lia) (by lia),?_⟩;have U:(l+r)/2<k:=by lia
   have F:l<=(l+r)/2:=by lia
   have N:(l+r)/2<r:=by lia
   generalize (l+r)/2=mid at *;cases hc:lt (p.getD k 0) (p.getD mid 0)with
   | true=>
    show(kas_place p k f l mid).kasWp (dU n lt) G s;refine lZ q M hs f l mid F (by lia) (by lia) h4 (λi hi J=>?_) hG;by_cases z:i=mid
    ·rw[z];exact hc
    ·exact O.tr _ _ _ (q.lt (by lia)) (q.lt (by lia)) (q.lt (by lia)) hc (hs mid i (by lia) J)
   | false=>
    show(kas_place p k f (mid+1) r).kasWp (dU n lt) G s;have B:=M7 O q (by lia) (by lia) (by lia) hc;refine lZ q M hs f (mid+1) r (by lia) h2 (by lia) (λi hi=>?_) h5 hG;by_cases z:i=mid
    ·rw[z];exact B
    ·exact O.tr _ _ _ (q.lt (by lia)) (q.lt (by lia)) (q.lt (by lia)) (hs i mid (by lia) U) B
theorem DK(F:PermR n p)(G:k<n)(J:l<=k)(j:Nat):(bubble p k (k-l)).getD j 0=if j=l then p.getD k 0 else if l<j/\j<=k then p.getD (j-1) 0 else p.getD j 0:=by
 have hs:=F.size;have e:=getElem?_bubble (xs:=p) (src:=k) (by lia) (k-l) (by lia) j;have g:∀(q:Array Nat) (k:Nat),q.getD k 0=(q[k]?).getD 0:=λq k=>by
  by_cases h:k<q.size <;> simp[XJ,h]
 have B:k-(k-l)=l:=by lia
 rw[B]at e;rw[g,e];by_cases h:j=l
 ·rw[if_pos h,if_pos h,g]
 ·rw[if_neg h,if_neg h]
  by_cases h2:l<j/\j<=k
  ·rw[if_pos h2,if_pos h2,g]
  ·rw[if_neg h2,if_neg h2,g]
theorem C6(N:∀p,PermR n p->dG lt p n->G p s):∀(f:Nat) (p:Array Nat) (k:Nat),k+f=n->PermR n p->dG lt p k->(kas_bin f p k).kasWp (dU n lt) G s
 | 0,p,k,h1,hp,hs=>by
  have:k=n:=by lia
  subst this;exact N p hp hs
 | f+1,p,k,h1,hp,hs=>by
  unfold kas_bin;rw[KasT.kasWp_bind];have q:k<n:=by lia
  refine lZ O hp q hs k 0 k (U4 _) (TR _) (by lia) (λi hi=>absurd hi (by lia)) (λi h2 h3=>absurd h3 (by lia)) λl U Y h5=>?_
  refine C6 N f _ (k+1) (by lia) ((bubble_perm p k _).trans hp) λi j B hj=>?_
  rw[DK O hp q U,DK O hp q U];by_cases J:i=l
  ·rw[if_pos J,if_neg (by lia),if_pos (by lia)]
   exact h5 (j-1) (by lia) (by lia)
  ·rw[if_neg J]
   by_cases M:j=l
   ·rw[if_pos M,if_neg (by lia)]
    exact Y i (by lia)
   ·rw[if_neg M]
    by_cases F:l<i/\i<=k
    ·rw[if_pos F,if_pos (by lia)]
     exact hs (i-1) (j-1) (by lia) (by lia)
    ·rw[if_neg F]
     by_cases W:l<j/\j<=k
     ·rw[if_pos W]
      by_cases c:i=j-1
      ·lia
      ·exact hs i (j-1) (by lia) (by lia)
     ·rw[if_neg W]
      exact hs i j B (by lia)
theorem HD(J:1<=n)(B:∀p,PermR n p->dG lt p n->G p s):(kas_sort n).kasWp (dU n lt) G s:=by
 unfold kas_sort;rw[KasT.kasWp_bind];refine A4 O (Array.Perm.refl _) J λm q h1 h2 F hs=>?_
 show(if m<n then kas_bin (n-max m 1) q (max m 1)else KasT.ret q).kasWp (dU n lt) G s;have e:max m 1=m:=by lia
 rw[e];by_cases h:m<n
 ·rw[if_pos h]
  exact C6 O B (n-m) q m (by lia) F hs
 ·rw[if_neg h]
  have:m=n:=by lia
  subst this;exact B q F hs
end
theorem wH{B:Type}{n:Nat}{lt:Nat->Nat->Bool}{c:Nat->Nat->(Bool->S8->Prop)->S8->Prop}(q:∀i j C,i<n->j<n->i≠j->C (lt i j) s->c i j C s){Q:B->S8->Prop}:∀(t:KasT B),t.kasWp (dU n lt) Q s->t.kasWp c Q s
 | .ret a,h=>h
 | .ask i j k,h=>by
  obtain⟨h1,h2,G,F⟩:=(show i<n/\j<n/\i≠j/\(k (lt i j)).kasWp (dU n lt) Q s from h);exact q i j _ h1 h2 G (wH q (k (lt i j)) F)
end My
namespace My
open PySem PySem.Spec PyProof.Rows PySem.W
section
variable {prog:TJ}{w:World}{A:TX}{E:Value->S8->Prop}{s:S8}{it d:Addr}{i ep:Nat}{od:Obj}{es:Array WM}
def RawD(h:Heap)(d:Addr)(es:Array WM)(ep:Nat):Prop:=∃o,h.get? d=some o/\o.ExactDict/\o.data=.dict es ep
theorem RawD.at'(x:RawD h d es ep)(k:∀o,h.get? d=some o->h'.get? d=some o):RawD h' d es ep:=let ⟨o,a,b⟩:=x;⟨o,k o a,b⟩
theorem RawD.typ(x:RawD s.heap d es ep):s.TypeIs (.ref d) "dict" := let ⟨o,a,b,_⟩:=x;⟨o,a,b.1⟩
theorem B7(M:(d == VB)=false)(J:RawD s.heap d es ep)
  (N:Q (.ref s.heap.objs.size) {s with heap:=s.heap.push {cls:=.type "dict_keyiterator",data:=.fields #[.ref d,.int 0 0,.int es.size 0,.int ep 0]} }):wpAny (model prog w) A (pyIter (.ref d)) Q E s:=by
 have q:=J.typ;obtain⟨o,G,U,B⟩:=J;refine wpAny_pyIter_slot q PySem.F.slot_dict_iter (VI PySem.F.slot_dict_iter q PySem.F.entry_dict_iter ?_ (PySem.F.args_dict_iter_1 _));unfold WK.«dict.__iter__»;refine S7 ?_;unfold Builtin.Dict.dictSlotNone;refine S7 (wpAny_notOrdered_dict q ?_);show wpAny _ _ (pure (TN d)) _ _ s;refine TB ?_;show wpAny _ _ (ZC d >>= _) _ _ s;unfold ZC;rw[if_neg (by rw[M];exact TZ)];refine S7 (TB (S7 (XM G B (S7 (XN G B ?_)))));refine S7 (U7 (TB ⟨_,rfl, "dict_keyiterator",_,⟨_,T8 _ rfl,rfl⟩,PySem.F.slot_dict_keyiterator_next.lookup,?_⟩));simpa[UT]using N
theorem AX(B:s.heap.IsKeyIter it d i es.size ep)(Y:RawD s.heap d es ep)(N:i<es.size)
  (W:∀h',h'.IsKeyIter it d (i+1) es.size ep->UM it s.heap h'->Q (some es[i].key) {s with heap:=h'}):wpAny (model prog w) A (UW (.ref it)) Q E s:=by
 have q:=B.typeIs;obtain⟨o,G,U,F⟩:=id B;obtain⟨od,J,g2,M⟩:=Y;unfold UW;refine S7 (XO (V9 (name:=WA "__next__") q ZD (VI ZD q zaB ?_ (zaC _))));refine S7 (TB (S7 (S7 ?_)))
 first|refine S7 (ZE q (TB ?_))|refine S7 (ZF q (TB ?_))
 refine S7 (ZG G F ?_);simp only[show YF "dict_keyiterator" = false by decide,WN,if_false];show wpAny _ _ (if(TN d == UC)=true then _ else _) _ _ s;rw[if_neg (show ¬ ((TN d == UC)=true)from TZ)];refine S7 (TB (S7 (XM J M ?_)));rw[if_neg (by simp)];refine S7 (TB (S7 (XN J M ?_)));rw[if_neg (by simp)];refine TB ?_;simp only[show ¬ ((i:Int)<0)from by lia,if_false,U5,zan N];refine S7 ?_;first|refine S7 (ZE q (TB ?_))|refine S7 (ZF q (TB ?_))
 refine S7 (wpAny_isOneOf_keyiter q ?_);show wpAny _ _ (XQ (.ref it) 1 (UT ((i:Int)+1)) >>= _) _ _ s;refine S7 (YG G F (by simp) ?_);have nx:(s.heap.update it (Obj.mapFields (·.setIfInBounds 1 (UT ((i:Int)+1))))).IsKeyIter it d (i+1) es.size ep:=⟨_,WS _ G (Obj.isFreed_of_fields (ZH F _)),(Obj.cls_mapFields ..).trans U,by rw[ZH F];simp[UT]⟩;refine S7 (VL (S7 (wpAny_isOneOf_keyiter (s:={s with heap:=s.heap.update it (Obj.mapFields (·.setIfInBounds 1 (UT ((i:Int)+1))))}) nx.typeIs ?_)));show wpAny _ _ (pure es[i].key) _ _ _;exact TB (TB ⟨_,rfl,TB (W _ nx (W3 ..))⟩)
theorem HI(W:A.handled=none)(B:s.heap.IsKeyIter it d i es.size ep)(Y:RawD s.heap d es ep)(N:es.size<=i)
  (U:∀h',YH it s.heap h'->Q none {s with heap:=h'}):wpAny (model prog w) A (UW (.ref it)) Q E s:=by
 have q:=B.typeIs;obtain⟨o,J,hc,M⟩:=id B;obtain⟨od,F,g2,G⟩:=Y;unfold UW;refine S7 (XO (V9 (name:=WA "__next__") q ZD (VI ZD q zaB ?_ (zaC _))));refine S7 (TB (S7 (S7 ?_)))
 first|refine S7 (ZE q (TB ?_))|refine S7 (ZF q (TB ?_))
 refine S7 (ZG J M ?_);simp only[show YF "dict_keyiterator" = false by decide,WN,if_false];show wpAny _ _ (if(TN d == UC)=true then _ else _) _ _ s;rw[if_neg (show ¬ ((TN d == UC)=true)from TZ)];refine S7 (TB (S7 (XM F G ?_)));rw[if_neg (by simp)];refine S7 (TB (S7 (XN F G ?_)));rw[if_neg (by simp)];refine TB ?_;simp only[show ¬ ((i:Int)<0)from by lia,if_false,U5,Array.getElem?_eq_none N];refine S7 ?_;first|refine S7 (ZE q (TB ?_))|refine S7 (ZF q (TB ?_))
 show wpAny _ _ (XQ (.ref it) 0 .none >>= _) _ _ s;refine S7 (YG J M (by simp) ?_);show wpAny _ _ (newExc (.type "StopIteration") [] >>= _) _ _ _;refine S7 ?_;simp only[newExc,newTuple];refine S7 (U7 ?_ (by size_fits));refine S7 (m:=XR _ _) (ZI (a:=UC) (by first|rfl|(simp only[XR];rfl)) ?_)
 refine U7 ?_ (by size_fits);simp only[raiseNew];refine S7 (wpAny_handled ?_);rw[show A.in1.handled=none from W];refine S7 (TB (wpAny_throw ?_));refine S7 (zao (T := "StopIteration") (b:=true) ⟨_,T8 _ rfl,rfl⟩ isSubtype_stop ?_);exact TB (U _ (((W3 ..).extBut.push _).push _))
def yC(h:Heap)(it d:Addr)(i n ep:Nat)(q fl:Value)(ok B:Value):Prop:=
 h.get? it=some {cls:=.type "dict_itemiterator",dict:=none,data:=.fields #[q,fl,.ref d,.int i 0,.int n 0,.int ep 0,ok,B],slots:=#[]}
def ItSt(h:Heap)(it d S:Addr)(i n ep:Nat):Prop:=
 (i=0/\∃ok q,yC h it d i n ep .none (.bool false) ok q)\/∃ok q a f B,yC h it d i n ep (UT (a:Nat)) (.bool f) ok q/\h.get? a=some B/\a≠it/\a≠S
theorem nM(B:yC s.heap it d i es.size ep own fl ok ov)(hm:RawD s.heap d es ep)(U:i<es.size)
  (hQ:∀h1:Heap, yC h1 it d (i+1) es.size ep own fl ok ov -> UM it s.heap h1 ->
   wpAny (model prog w) A.in1 (ZJ (.ref it) 6 es[i].key es[i].val) (λv s'=>Q (some v) s') (λ_ _=>False) {s with heap:=h1}):wpAny (model prog w) A (UW (.ref it)) Q E s:=by
 obtain⟨od,G,g2,J⟩:=hm;have F:s.TypeIs (.ref it) "dict_itemiterator" := ⟨_,B,rfl⟩;unfold UW;refine S7 (XO (V9 (name:=WA "__next__") F ZK (VI ZK F zaD ?_ (zaE _))));refine S7 (TB (S7 (S7 ?_)))
 first|refine S7 (ZL F (TB ?_))|refine S7 (ZM F (TB ?_))
 refine S7 (ZG B rfl ?_);simp only[show YF "dict_itemiterator" = true by decide,if_true];show wpAny _ _ (if(TN d == UC)=true then _ else _) _ _ s;rw[if_neg (show ¬ ((TN d == UC)=true)from TZ)];refine S7 (TB (S7 (XM G J ?_)));rw[if_neg (by simp)];refine S7 (TB (S7 (XN G J ?_)));rw[if_neg (by simp)];refine TB ?_;simp only[show ¬ ((i:Int)<0)from by lia,if_false,U5,zan U];refine S7 ?_;first|refine S7 (ZL F (TB ?_))|refine S7 (ZM F (TB ?_))
 refine S7 (zap F ?_);show wpAny _ _ (XQ (.ref it) 3 (UT ((i:Int)+1)) >>= _) _ _ s;refine S7 (V1 B (by simp) λh1 Y W=>?_);have M:yC h1 it d (i+1) es.size ep own fl ok ov:=by
  have e:((i+1:Nat):Int)=(i:Int)+1:=by lia
  unfold yC;rw[e];simpa[UT]using Y
 have N:Shared.TypeIs {s with heap:=h1} (.ref it) "dict_itemiterator" := ⟨_,M,rfl⟩;refine S7 (VL (S7 (zap N ?_)));refine S7 (zap N ?_);show wpAny _ _ (ZJ (.ref it) 6 es[i].key es[i].val) _ _ {s with heap:=h1};exact U3 (hQ h1 M W) (λv s' q=>TB ⟨_,rfl,TB q⟩) λ_ _ z=>z.elim
theorem yR(af:ItSt s.heap it d S i es.size ep)(hS:S<s.heap.objs.size)(hm:RawD s.heap d es ep)(hx:i<es.size)
  (hQ:∀h', ItSt h' it d S (i+1) es.size ep -> h'.get? s.heap.objs.size = some {cls := .type "tuple", data := .seq #[es[i].key, es[i].val]} -> h'.objs.size = s.heap.objs.size+1 ->
   (∀b o,b≠it->s.heap.get? b=some o->h'.get? b=some o)->Q (some (.ref s.heap.objs.size)) {s with heap:=h'}):wpAny (model prog w) A (UW (.ref it)) Q E s:=by
 have N:it<s.heap.objs.size:=by
  rcases af with⟨_,ok,U,B⟩|⟨ok,U,a,f,oa,B,_⟩ <;> exact TQ B
 rcases af with⟨_,ok,U,B⟩|⟨ok,U,a,f,oa,B,ha,J,al⟩
 ·refine nM B hm hx λh1 k1 k2=>?_
  have W:h1.objs.size=s.heap.objs.size:=k2.1;unfold ZJ;refine S7 (ZN ?_);have G:yC (h1.push {cls:=.type "tuple",data:=.seq #[es[i].key,es[i].val]}) it d (i+1) es.size ep .none (.bool false) ok U:=TV _ k1;have m2:(h1.push {cls:=.type "tuple",data:=.seq #[es[i].key,es[i].val]}).get? s.heap.objs.size=some {cls:=.type "tuple",data:=.seq #[es[i].key,es[i].val]}:=by rw[<- W];exact T8 _ rfl
  have m3:(h1.push {cls:=.type "tuple",data:=.seq #[es[i].key,es[i].val]}).objs.size=s.heap.objs.size+1:=by rw[YI,W]
  have m4:∀b o,b≠it->s.heap.get? b=some o->(h1.push {cls:=.type "tuple",data:=.seq #[es[i].key,es[i].val]}).get? b=some o:=λb o q e=>TV _ (k2.extBut b o q e)
  show wpAny _ _ (ZO (.ref it) >>= _) _ _ {s with heap:=h1.push {cls:=.type "tuple",data:=.seq #[es[i].key,es[i].val]} };dsimp only;rw[W];generalize h1.push {cls:=.type "tuple",data:=.seq #[es[i].key,es[i].val]}=h2 at *;refine S7 ?_;unfold ZO;refine S7 (U0 G rfl (x:=.none) rfl (TB ?_));simp only[if_true];refine S7 (U0 G rfl (x:=ok) rfl (S7 (U0 G rfl (x:=U) rfl ?_)));refine S7 (V1 G (by simp) λF e3 M=>?_);have aj:yC F it d (i+1) es.size ep .none (.bool false) es[i].key U:=e3;refine S7 (V1 aj (by simp) λh4 e4 s4=>?_);have am:yC h4 it d (i+1) es.size ep .none (.bool false) es[i].key es[i].val:=e4;refine S7 (V1 am (by simp) λh5 e5 s5=>?_);have an:yC h5 it d (i+1) es.size ep (UT (s.heap.objs.size:Nat)) (.bool false) es[i].key es[i].val:=e5;refine S7 (V1 an (by simp) λY e6 s6=>?_);have ao:yC Y it d (i+1) es.size ep (UT (s.heap.objs.size:Nat)) (.bool false) es[i].key es[i].val:=e6;have ex:∀b o,b≠it->h2.get? b=some o->Y.get? b=some o:=λb o q e=>(show UM it h5 Y from s6).extBut b o q ((show UM it h4 h5 from s5).extBut b o q ((show UM it F h4 from s4).extBut b o q ((show UM it h2 F from M).extBut b o q e)))
  have sz:Y.objs.size=s.heap.objs.size+1:=by
   rw[(show UM it h5 Y from s6).1,(show UM it h4 h5 from s5).1,(show UM it F h4 from s4).1,(show UM it h2 F from M).1,m3]
  exact S7 (XS (TB (hQ Y (.inr ⟨_,_,_,false,_,ao,ex _ _ (US N) m2,US N,US hS⟩) (ex _ _ (US N) m2) sz λb o q e=>ex b o q (m4 b o q e))))
 ·refine nM B hm hx λh1 k1 k2=>?_
  have W:h1.objs.size=s.heap.objs.size:=k2.1;unfold ZJ;refine S7 (ZN ?_);have G:yC (h1.push {cls:=.type "tuple",data:=.seq #[es[i].key,es[i].val]}) it d (i+1) es.size ep (UT (a:Nat)) (.bool f) ok U:=TV _ k1;have m2:(h1.push {cls:=.type "tuple",data:=.seq #[es[i].key,es[i].val]}).get? s.heap.objs.size=some {cls:=.type "tuple",data:=.seq #[es[i].key,es[i].val]}:=by rw[<- W];exact T8 _ rfl
  have m3:(h1.push {cls:=.type "tuple",data:=.seq #[es[i].key,es[i].val]}).objs.size=s.heap.objs.size+1:=by rw[YI,W]
  have m4:∀b o,b≠it->s.heap.get? b=some o->(h1.push {cls:=.type "tuple",data:=.seq #[es[i].key,es[i].val]}).get? b=some o:=λb o q e=>TV _ (k2.extBut b o q e)
  show wpAny _ _ (ZO (.ref it) >>= _) _ _ {s with heap:=h1.push {cls:=.type "tuple",data:=.seq #[es[i].key,es[i].val]} };dsimp only;rw[W];generalize h1.push {cls:=.type "tuple",data:=.seq #[es[i].key,es[i].val]}=h2 at *;refine S7 ?_;unfold ZO;refine S7 (U0 G rfl (x:=UT (a:Nat)) rfl ?_);show wpAny _ _ (loadIfAlive ((a:Int).toNat) >>= _) _ _ _;rw[U5];refine S7 (kdx_alive (m4 a oa J ha) ?_);simp only[Option.isNone_some,WN,if_false];refine S7 (U0 G rfl (x:=.bool f) rfl ?_);have fin:∀F:Heap,yC F it d (i+1) es.size ep (UT (a:Nat)) (.bool true) ok U->UM it h2 F->Q (some (.ref s.heap.objs.size)) {s with heap:=F}:=λF e3 M=>
   hQ F (.inr ⟨_,_,a,true,oa,e3,M.extBut a oa J (m4 a oa J ha),J,al⟩) (M.extBut _ _ (US N) m2) (by rw[M.1,m3]) λb o q e=>M.extBut b o q (m4 b o q e)
  cases f with
  | true=>
   rw[if_neg (show ¬ ((WP true != WP true)=true)from TZ)];refine TB ?_;simp only[WN,if_false];exact TB (fin h2 G (Heap.SameBut.refl _ _))
  | false=>
   rw[if_pos (show(WP false != WP true)=true from rfl)];refine S7 (V1 G (by simp) λF e3 M=>?_);refine TB ?_;simp only[WN,if_false];exact TB (fin F e3 M)
theorem tO(N:A.handled=none)(q:yC s.heap it d i es.size ep own fl ok ov)(U:RawD s.heap d es ep)(J:es.size<=i)
  (M:∀h',YH it s.heap h'->Q none {s with heap:=h'}):wpAny (model prog w) A (UW (.ref it)) Q E s:=by
 obtain⟨od,F,W,G⟩:=U;have B:s.TypeIs (.ref it) "dict_itemiterator" := ⟨_,q,rfl⟩;unfold UW;refine S7 (XO (V9 (name:=WA "__next__") B ZK (VI ZK B zaD ?_ (zaE _))));refine S7 (TB (S7 (S7 ?_)))
 first|refine S7 (ZL B (TB ?_))|refine S7 (ZM B (TB ?_))
 refine S7 (ZG q rfl ?_);simp only[show YF "dict_itemiterator" = true by decide,if_true];show wpAny _ _ (if(TN d == UC)=true then _ else _) _ _ s;rw[if_neg (show ¬ ((TN d == UC)=true)from TZ)];refine S7 (TB (S7 (XM F G ?_)));rw[if_neg (by simp)];refine S7 (TB (S7 (XN F G ?_)));rw[if_neg (by simp)];refine TB ?_;simp only[show ¬ ((i:Int)<0)from by lia,if_false,U5,Array.getElem?_eq_none J];refine S7 ?_;first|refine S7 (ZL B (TB ?_))|refine S7 (ZM B (TB ?_))
 show wpAny _ _ (XQ (.ref it) 2 .none >>= _) _ _ s;refine S7 (YG q rfl (by simp) ?_);show wpAny _ _ (newExc (.type "StopIteration") [] >>= _) _ _ _;refine S7 ?_;simp only[newExc,newTuple];refine S7 (U7 ?_ (by size_fits));refine S7 (m:=XR _ _) (ZI (a:=UC) (by first|rfl|(simp only[XR];rfl)) ?_)
 refine U7 ?_ (by size_fits);simp only[raiseNew];refine S7 (wpAny_handled ?_);rw[show A.in1.handled=none from N];refine S7 (TB (wpAny_throw ?_));refine S7 (zao (T := "StopIteration") (b:=true) ⟨_,T8 _ rfl,rfl⟩ isSubtype_stop ?_);exact TB (M _ (((W3 ..).extBut.push _).push _))
theorem ItSt.keep(x:ItSt h it d S i n ep)(J:∀b o,b≠S->h.get? b=some o->h'.get? b=some o)(M:it≠S):ItSt h' it d S i n ep:=by
 rcases x with⟨e,ok,F,q⟩|⟨ok,F,a,f,N,q,U,G,B⟩
 ·exact .inl ⟨e,ok,F,J _ _ M q⟩
 ·exact .inr ⟨ok,F,a,f,N,J _ _ M q,J _ _ B U,G,B⟩
structure Made(es:Array WM)(lo:Addr)(h:Heap)(as:List Addr):Prop where
 above:∀a∈as,lo<a
 pair:∀(j:Nat) (a:Addr),as[j]?=some a->∃e,es[j]?=some e/\h.get? a=some {cls:=.type "tuple",data:=.seq #[e.key,e.val]}
end
section
variable {prog:TJ}{w:World}{A:TX}{s:S8}{R:Result->S8->Prop}{es:Array WM}{ep:Nat}
theorem zH{S I d:Addr}(hh:A.handled=none)(aj:S<I)(aq:d≠S)(ao:d≠I)(hn:es.size<=TK)(res:Value){h0:Heap}
  (hR:∀h' tk q c as,(∀b o,b≠S->b≠I->h0.get? b=some o->h'.get? b=some o)->h'.get? S=some {cls:=.type "list",dict:=none,data:=.seq q c,slots:=#[]}->as.length=es.size->Made es I h' as->q.toList=as.map TN->R (.ok (.ret res)) {s with heap:=h',toks:=tk}) :
  ∀(k i:Nat) (h:Heap) (tk c:Nat) (q:Array Value) (as:List Addr),es.size-i=k->i<=es.size->ItSt h I d S i es.size ep->RawD h d es ep->(∀b o,b≠S->b≠I->h0.get? b=some o->h.get? b=some o)->
   h.get? S=some {cls:=.type "list",dict:=none,data:=.seq q c,slots:=#[]}->q.toList=as.map TN->as.length=i->Made es I h as->I<h.objs.size->
   VW (model prog w) A (.builtin "list.extend.loop" ⟨[.ref S,.ref I,res],[]⟩) R {s with heap:=h,toks:=tk}:=by
 have aa:S≠I:=T9 aj;intro k;induction k with
 | zero=>
  intro i h tk c q as hk hi ac hD B hS G ab N ad;have ah:es.size<=i:=by lia
  refine XT PySem.F.entry_extend_loop ?_;rw[XU YJ _];show wpAny _ A.in1 (UW (.ref I) >>= _) _ _ _;have fin:∀h',YH I h h'->R (.ok (.ret res)) {s with heap:=h',toks:=tk}:=λh' W=>by
   refine hR h' tk q c as (λb o h1 h2 e=>W b o h2 (B b o h1 h2 e)) (W S _ aa hS) (by lia) ⟨N.above,λj a M=>?_⟩ G;obtain⟨e,e1,e2⟩:=N.pair j a M;exact⟨e,e1,W a _ (US (N.above a (U9 M))) e2⟩
  rcases ac with⟨_,ok,ov,U⟩|⟨ok,ov,a,f,oa,U,_⟩
  ·exact S7 (tO (s:={s with heap:=h,toks:=tk}) (A:=A.in1) hh U hD ah λh' W=>TB (fin h' W))
  ·exact S7 (tO (s:={s with heap:=h,toks:=tk}) (A:=A.in1) hh U hD ah λh' W=>TB (fin h' W))
 | succ k ih=>
  intro i h tk c q as hk hi ac hD B hS G ab N ad;have Y:i<es.size:=by lia
  have hsz:q.size=i:=by rw[<- VF,G,TL,ab]
  refine XT PySem.F.entry_extend_loop ?_;rw[XU YJ _];show wpAny _ A.in1 (UW (.ref I) >>= _) _ _ _;refine S7 (yR (s:={s with heap:=h,toks:=tk}) (S:=S) ac (TQ hS) hD Y λh' ag ht hz J=>?_);dsimp only at ht hz J ⊢;have am:=J S _ aa hS;have al:S<h.objs.size:=TQ hS;have up:∀b o,b≠S->h'.get? b=some o->(h'.update S (VA (·.push (TN h.objs.size)))).get? b=some o:=λb o hb e=>(WC _ _ (UB hb)).trans e
  show wpAny _ A.in1 (YK S (·.push (TN h.objs.size)) >>= _) _ _ _;refine S7 (XW am rfl ?_ (by rw[hsz];lia) (by show(q.push (TN h.objs.size)).size<=TK+1;rw[Array.size_push,hsz];lia));refine TB ⟨WU YJ _,ih (i+1) _ tk _ (q.push (TN h.objs.size)) (as++[h.objs.size]) (by lia) Y (ag.keep up (UB aa)) (hD.at' λo e=>up d o aq (J d o ao e)) (λb o h1 h2 e=>up b o h1 (J b o h2 (B b o h1 h2 e))) (WS _ am rfl) (by rw[Array.toList_push,G,VE];rfl) (by rw[VN,ab];rfl) ⟨λa ha=>?_,λj b M=>?_⟩ ?_⟩
  ·rcases List.mem_append.mp ha with ha|ha
   ·exact N.above a ha
   ·rw[List.mem_singleton.mp ha];exact ad
  ·by_cases h1:j<as.length
   ·rw[XA h1]at M
    obtain⟨e,e1,e2⟩:=N.pair j b M;have hb:=N.above b (U9 M);exact⟨e,e1,up b _ (US (XD aj hb)) (J b _ (US hb) e2)⟩
   ·rw[Y1 (by lia)]at M
    have:j-as.length=0:=by
     by_cases z:j-as.length=0
     ·exact z
     ·rw[List.getElem?_eq_none (by simp only[zag];lia)]at M;cases M
    rw[this]at M;cases M;have e:j=i:=by lia
    subst e;exact⟨es[j],by simp[Y],up _ _ (US al) ht⟩
  ·have e:=up _ _ (US al) ht
   exact XD ad (TQ e)
end
section
variable {prog:TJ}{w:World}{A:TX}{E:Value->S8->Prop}{s:S8}{r d:Addr}{es:Array WM}{ep:Nat}
theorem yP(J:s.heap.IsItemsView r d)(W:RawD s.heap d es ep)
  (U:Q (.ref s.heap.objs.size) {s with heap:=s.heap.push {cls:=.type "dict_itemiterator",data:=.fields #[.none,.bool false,.ref d,.int 0 0,.int es.size 0,.int ep 0,.none,.none]} }):wpAny (model prog w) A (pyIter (.ref r)) Q E s:=by
 have G:=J.typeIs;obtain⟨ov,M,v2,N⟩:=id J;obtain⟨o,q,Y,B⟩:=W;refine wpAny_pyIter_slot G zaF (VI zaF G PySem.F.entry_dict_items_iter ?_ (PySem.F.args_dict_items_iter_1 _));unfold WK.«dict_items.__iter__»;refine S7 (TB (S7 ?_));unfold Builtin.Dict_items.dictOf;refine S7 (U0 M N (x:=.ref d) rfl (TB ?_));refine S7 ?_;unfold Builtin.Dict_items.newIterator;refine S7 (XM q B (S7 (XN q B ?_)));simp only[show YF "dict_itemiterator" = true by decide,if_true];refine U7 (TB ⟨_,rfl, "dict_itemiterator",_,⟨_,T8 _ rfl,rfl⟩,PySem.F.slot_dict_itemiterator_next.lookup,?_⟩) (by simp only[sizeOk,zaG,T3,VN,UK,WL,WH];lia);simpa[UT,zaG]using U
theorem rK{R:Result->S8->Prop}(hh:A.handled=none)(hv:s.heap.IsItemsView r d)(hm:RawD s.heap d es ep)(S:Addr)(ab:S≠r)(J:d≠S)(res:Value)(F:Nat)(hS:s.heap.get? S=some {cls:=.type "list",data:=.seq #[] F})
  (hR:∀h' tk B c as,(∀b o,b≠S->s.heap.get? b=some o->h'.get? b=some o)->h'.get? S=some {cls:=.type "list",dict:=none,data:=.seq B c,slots:=#[]}->as.length=es.size->Made es s.heap.objs.size h' as->B.toList=as.map TN->R (.ok (.ret res)) {s with heap:=h',toks:=tk}) (hn:es.size<=TK) :
  wpAny (model prog w) A.in1 (zaq (.ref S) (.ref r) res)
   (λfin s'=>match fin with | .done f=>R (.ok f) s' | .again c'=>c'.quiet=true/\VW (model prog w) A c' R s') (λe s'=>R (.error e) s') s:=by
 have U:S<s.heap.objs.size:=TQ hS;have af:d<s.heap.objs.size:=by
  obtain⟨o,e,_⟩:=hm;exact TQ e
 have M:∀(h:Heap) (q tk:Nat),(∀b o,b≠S->(s.heap.push {cls:=.type "dict_itemiterator",data:=.fields #[.none,.bool false,.ref d,.int 0 0,.int es.size 0,.int ep 0,.none,.none]}).get? b=some o->h.get? b=some o)->
   h.get? S=some {cls:=.type "list",data:=.seq #[] q}->VW (model prog w) A (.builtin "list.extend.loop" ⟨[.ref S,.ref s.heap.objs.size,res],[]⟩) R {s with heap:=h,toks:=tk}:=by
  intro h q tk hk Y;have hI:=hk s.heap.objs.size _ (US U) (T8 _ rfl);exact zH (es:=es) (ep:=ep) (s:=s) (h0:=s.heap) hh U J (T9 af) hn res (λh' aa B c as W ag hl hG N=>hR h' aa B c as (λb o G e=>W b o G (T9 (TQ e)) e) ag hl hG N)
   es.size 0 h tk q #[] [] (Nat.sub_zero _) (U4 _) (.inl ⟨rfl,.none,.none,hI⟩) (hm.at' λo e=>hk d o J (TV _ e)) (λb o G _ e=>hk b o G (TV _ e)) Y rfl rfl ⟨(λ_ ha=>nomatch ha),(λj a hj=>by simp at hj)⟩ (TQ hI)
 unfold zaq;refine S7 (Y4 (T := "dict_items") hv.typeIs ?_);simp only[show Builtin.List.listSameRef (.ref S) (.ref r)=false by simp[Builtin.List.listSameRef,ab],show(WQ "dict_items" == WQ "list")=false by decide,show(WQ "dict_items" == WQ "tuple")=false by decide,Bool.or_false,WN,if_false];refine S7 (yP hv hm ?_);have p1:=TV {cls:=.type "dict_itemiterator",data:=.fields #[.none,.bool false,.ref d,.int 0 0,.int es.size 0,.int ep 0,.none,.none]} hS;refine S7 (VL (kdx_hint (let ⟨o,ho,hc,_⟩:=hv;⟨o,TV _ ho,hc⟩) ?_));refine wpAny_ite_split (λ_=>?_) (λ_=>TB ⟨WU YJ _,M _ F _ (λb o _ e=>e) p1⟩);refine S7 (X3 (S7 ?_));show wpAny _ _ (YK S (·.push .none) >>= λ_=>YK S (·.pop)) _ _ _;refine S7 (XW p1 rfl ?_);have p2:=WS (VA (·.push UC)) p1 rfl;refine XW (hz:=by seq_fits) p2 rfl ?_;have p3:=WS (VA (·.pop)) p2 rfl;exact TB ⟨WU YJ _,M _ _ _ (λb o G e=>(WC _ _ (UB G)).trans ((WC _ _ (UB G)).trans e)) p3⟩
theorem pP(hh:A.handled=none)(hv:s.heap.IsItemsView r d)(hm:RawD s.heap d es ep)(hn:es.size<=TK)
  (h:∀(h':Heap) (tk:Nat) (as:List Addr),(∀b o,s.heap.get? b=some o->h'.get? b=some o)->as.length=es.size->Made es s.heap.objs.size h' as->R (as.map TN) {s with heap:=h',toks:=tk}) :
  wpAny (model prog w) A (collect (.ref r)) R E s:=by
 have hr:r<s.heap.objs.size:=let ⟨_,ho,_⟩:=hv;TQ ho;have hd:d<s.heap.objs.size:=let ⟨_,ho,_⟩:=hm;TQ ho;unfold collect;refine S7 (wpAny_runValue (XT entry_proto_collect' ?_));rw[XU PySem.F.plain_proto_collect _];show wpAny _ A.in1 (newList [] >>= λl=>again (.builtin "list.__iadd__" ⟨[l,.ref r],[]⟩)) _ _ s;refine S7 (U7 ?_);refine TB ⟨WU PySem.F.plain_list_iadd _,XT entry_list_iadd' ?_⟩;rw[XU PySem.F.plain_list_iadd _];have p1:(s.heap.push {cls:=.type "list",data:=.seq ([]:List Value).toArray}).get? s.heap.objs.size=some {cls:=.type "list",data:=.seq #[]}:=T8 _ rfl;show wpAny _ A.in1 (zaq (.ref s.heap.objs.size) (.ref r) (.ref s.heap.objs.size)) _ _ _;have Y:=rK (prog:=prog) (w:=w) (A:=A) (s:={s with heap:=s.heap.push {cls:=.type "list",data:=.seq ([]:List Value).toArray} }) (es:=es) (ep:=ep)
  (R:=λ(q:Result) (s':S8) => ∃(h':Heap) (tk:Nat) (B:Array Value) (N:Nat) (as:List Addr), q = .ok (.ret (.ref s.heap.objs.size)) /\ s' = {s with heap:=h', toks:=tk} /\
   (∀b o,s.heap.get? b=some o->h'.get? b=some o)/\h'.get? s.heap.objs.size=some {cls:=.type "list",dict:=none,data:=.seq B N,slots:=#[]}/\as.length=es.size/\Made es s.heap.objs.size h' as/\B.toList=as.map TN)
  hh (let ⟨o,ho,x⟩:=hv;⟨o,TV _ ho,x⟩) (hm.at' λo e=>TV _ e) s.heap.objs.size (US hr) (T9 hd) (.ref s.heap.objs.size) 0 p1
  (λh' tk B N as U J W M G=>⟨h',tk,B,N,as,rfl,rfl,λb o e=>U b o (T9 (TQ e)) (TV _ e),J,W,⟨λa ha=>YB (by show s.heap.objs.size<=(s.heap.push _).objs.size;rw[YI];exact Nat.le_succ _) (M.above a ha),M.pair⟩,G⟩) hn
 refine U3 Y (λfin s' x=>?_) λe s' x=>?_
 ·cases fin with
  | done f=>
   obtain⟨h',tk,B,N,as,e,rfl,U,J,W,M,G⟩:=x;cases e;show wpAny _ A (load s.heap.objs.size >>= _) _ _ _;refine S7 (wpAny_load J (TB ?_));rw[G];exact h h' tk as U W M
  | again c₁=>
   refine⟨x.1,YZ x.2 λq ab y=>?_⟩;obtain⟨h',tk,B,N,as,e,rfl,U,J,W,M,G⟩:=y;cases e;show wpAny _ A (load s.heap.objs.size >>= _) _ _ _;refine S7 (wpAny_load J (TB ?_));rw[G];exact h h' tk as U W M
 ·obtain⟨_,_,_,_,_,z,_⟩:=x
  cases z
end
section
variable {prog:TJ}{w:World}{A:TX}{E:Value->S8->Prop}{s:S8}{a L:Addr}{vs:List Value}{m:Str->Option Value}
theorem AW(O:Ord vs.length lt)(G:s.heap.Ns L m)(Y:s.heap.get? a=some (UQ "list" vs.toArray n))(F:a≠L)(af:vs.length<64)
  (ad:2 <= vs.length -> ∀h':Heap, (∀b o, b≠a -> b≠L -> s.heap.get? b = some o -> h'.get? b = some o) -> ∃κ, (∀Q':SortKind -> S8 -> Prop, Q' κ {s with heap:=h'} -> wpAny (model prog w) A (keyKind' vs.toArray) Q' (λ_ _ => False) {s with heap:=h'}) /\
   ∀i j C,i<vs.length->j<vs.length->i≠j->C (lt i j) {s with heap:=h'}->kas_ask prog w A κ vs i j C {s with heap:=h'})
  (hP:∀(p:Array Nat) (h':Heap) (c:Nat), PermR vs.length p -> dG lt p vs.length -> h'.get? a = some (UQ "list" (YE (p.toList.map λi => vs.getD i UC)) c) ->
   (∀b o,b≠a->b≠L->s.heap.get? b=some o->h'.get? b=some o)->h'.Ns L m->P (.done (.ret .none)) {s with heap:=h'}) :
  wpAny (model prog w) A (WK.«list.sort» ⟨[.ref a],[]⟩) P E s:=by
 by_cases h2:2<=vs.length
 ·have N:News (Att.qO s.heap) L s.heap (Att.ledger s.heap L a):=λ⟨b,o⟩ B=>⟨(Att.cC.mp B).2.2,(Att.cC.mp B).1,Att.fZ _ _⟩
  refine kat_list_sort (Att.KI G) N Y F (Att.fZ _ _) (λ⟨b,o⟩ B=>(Att.cC.mp B).2.1) h2 af λW h' F' N'=>?_
  have keep:∀b o,b≠a->b≠L->s.heap.get? b=some o->h'.get? b=some o:=λb o q hL e=>(N' (b,o) (UG _ (Att.cC.mpr ⟨hL,q,e⟩))).1
  obtain⟨κ,k1,k2⟩:=ad h2 h' keep;refine k1 _ (wH k2 _ (HD O (by lia) λp B hs=>?_));refine KasFin.intro F' N' (.head λ⟨b,o⟩ q=>(Att.cC.mp q).2.1) λae c ab M=>?_
  exact hP p ae c B hs (M _ (UL ..)).1 (λb o q hL e=>(M (b,o) (UG _ (Att.cC.mpr ⟨hL,q,e⟩))).1) ab.ns
 ·have J:vs.toArray.size<2:=by rw[T3];lia
  rw[list_sort_plain];obtain⟨W,U⟩:∃W,(s.heap.update a (VA λ_=>(#[]:Array Value))).get? a=some (UQ "list" #[] W):=⟨_,get?_update_seq Y λ_=>#[]⟩;refine S7 (listItems_at Y rfl (S7 (listUpdate_at Y rfl ?_ (by rw[T3,WH];lia) (U4 _))));refine S7 (seqEpoch_at U rfl (S7 (ZN ?_ (by show vs.length<=_;rw[WH];lia))));refine S7 (wpAny_newList ?_ (U4 _));refine VL ?_;show wpAny (model prog w) A _ P E {s with heap:=((s.heap.update a (VA λ_=>(#[]:Array Value))).push (UQ "tuple" vs.toArray 0)).push (UQ "list" #[] 0)};dsimp only;rw[if_pos J,if_pos J];have g1:(((s.heap.update a (VA λ_=>(#[]:Array Value))).push (UQ "tuple" vs.toArray 0)).push (UQ "list" #[] 0)).get? a=some (UQ "list" #[] W):=TV _ (TV _ U);refine S7 (TB ?_);rw[StateT.run_pure];refine S7 (TB ?_);dsimp only;refine S7 (seqEpoch_at g1 rfl (S7 (listUpdate_at g1 rfl ?_ (U4 _) ?_)))
  ·simp only[bne_self_eq_false,WN,if_false]
   have s1:=W3 s.heap a (VA λ_=>(#[]:Array Value));have s2:=W3 (((s.heap.update a (VA λ_=>(#[]:Array Value))).push (UQ "tuple" vs.toArray 0)).push (UQ "list" #[] 0)) a (VA λ_=>(arrOf (SortSt.mk' general' (vs.toArray.zip vs.toArray) #[] 7 none)).map (·.2));have keep:∀b o,b≠a->s.heap.get? b=some o->_:=λb o q e=>s2.extBut b o q (TV (UQ "list" #[] 0) (TV (UQ "tuple" vs.toArray 0) (s1.extBut b o q e)))
   have eo:(arrOf (SortSt.mk' general' (vs.toArray.zip vs.toArray) #[] 7 none)).map (·.2)=YE ((YE (T2 vs.length)).toList.map λi=>vs.getD i UC):=by
    show((vs.toArray.zip vs.toArray).map (·.2))=_;apply Array.toList_inj.mp;rw[Array.toList_map,Array.toList_zip];show(vs.zip vs).map (·.2)=(T2 vs.length).map λi=>vs.getD i UC
    apply YD
    ·simp
    ·intro i h5 h6
     have:i<vs.length:=by simpa using h6
     simp[this]
   obtain⟨c,hc⟩:∃c,((((s.heap.update a (VA λ_=>(#[]:Array Value))).push (UQ "tuple" vs.toArray 0)).push (UQ "list" #[] 0)).update a (VA λ_=>(arrOf (SortSt.mk' general' (vs.toArray.zip vs.toArray) #[] 7 none)).map (·.2))).get? a=some (UQ "list" ((arrOf (SortSt.mk' general' (vs.toArray.zip vs.toArray) #[] 7 none)).map (·.2)) c):=⟨_,get?_update_seq g1 _⟩;exact TB (hP (YE (T2 vs.length)) _ c (Array.Perm.refl _) (λi j h1 h3=>absurd h3 (by lia)) (by rw[<- eo];exact hc) (λb o q _ e=>keep b o q e) (G.at' λo e=>keep L o (UB F) e))
  ·rw[Array.size_map]
   show(vs.toArray.zip vs.toArray).size<=_;rw[WH];simp
   lia
end
end My
namespace My
open PySem PySem.Spec PyProof.Rows PySem.W PySem.SeqAt
theorem qH:∀ns:List Int,HT.lexLt ns ns=false
 | []=>rfl
 | x::xs=>by rw[HT.cU,if_pos rfl];exact qH xs
theorem qR:∀a b c:List Int,HT.lexLt a b=true->HT.lexLt b c=true->HT.lexLt a c=true
 | [],[],c,h,_=>by cases h
 | [],_::_,[],_,h=>by cases h
 | [],_::_,_::_,_,_=>rfl
 | _::_,[],_,h,_=>by cases h
 | _::_,_::_,[],_,h=>by cases h
 | x::xs,y::ys,z::zs,h1,h2=>by
  rw[HT.cU]at h1 h2 ⊢;by_cases F:x=y
  ·by_cases B:y=z
   ·rw[if_pos F]at h1;rw[if_pos B]at h2;rw[if_pos (F.trans B)];exact qR xs ys zs h1 h2
   ·rw[if_neg B]at h2;rw[if_neg (λq=>B (F.symm.trans q)),F];exact h2
  ·rw[if_neg F]at h1
   have h1:=of_decide_eq_true h1;by_cases B:y=z
   ·rw[if_neg (λq=>F (q.trans B.symm))];exact decide_eq_true (by lia)
   ·rw[if_neg B]at h2
    have h2:=of_decide_eq_true h2;rw[if_neg (by lia)];exact decide_eq_true (by lia)
theorem pT:∀a b:List Int,a≠b->HT.lexLt a b=true\/HT.lexLt b a=true
 | [],[],h=>absurd rfl h
 | [],_::_,_=>.inl rfl
 | _::_,[],_=>.inr rfl
 | x::xs,y::ys,h=>by
  rw[HT.cU,HT.cU];by_cases e:x=y
  ·rw[if_pos e,if_pos e.symm]
   exact pT xs ys λq=>h (by rw[e,q])
  ·rw[if_neg e,if_neg (λq=>e q.symm)]
   rcases Int.lt_or_gt_of_ne e with q|q
   ·exact .inl (decide_eq_true q)
   ·exact .inr (decide_eq_true q)
def NJ(ks:List (List Int))(i j:Nat):Bool:=HT.lexLt (ks.getD i []) (ks.getD j [])
theorem B3(J:ks.Nodup):Ord ks.length (NJ ks) where
 irr:=λi _=>qH _
 tr:=λi j k _ _ _ h1 h2=>qR _ _ _ h1 h2
 tot:=λi j hi B q=>pT _ _ λe=>q (by
  have F:ks.getD i []=ks[i]:=by simp[hi]
  have G:ks.getD j []=ks[j]:=by simp[B]
  rw[F,G]at e;exact(X1 J).mp e)
section
variable {prog:TJ}{w:World}{A:TX}{E:Value->S8->Prop}{s:S8}
def TupI(h:Heap)(a:Addr)(ns:List Int):Prop:=∃q:List Value,IsTup h a q.toArray/\UZ q ns
theorem TupI.at'(x:TupI h a ns)(k:∀o,h.get? a=some o->h'.get? a=some o):TupI h' a ns:=by
 obtain⟨q,⟨o,e,c⟩,i⟩:=x;exact⟨q,⟨o,k o e,c⟩,i⟩
theorem EL(hx:TupI s.heap x ns)(hy:TupI s.heap y ms)(B:ns≠ms)(hu:A.units<cLine):EqAt A s (.ref x) (.ref y) false:=by
 obtain⟨q,tx,G⟩:=hx;obtain⟨vs,ty,J⟩:=hy;have ne:x≠y:=λe=>by
  subst e;obtain⟨o,N,c1,n,d1⟩:=tx;obtain⟨o',F,c2,n',W⟩:=ty;rw[N]at F;cases F;rw[d1]at W;injection W with d3 _
  have:q=vs:=by simpa using congrArg Array.toList d3
  subst this;have:∀ {q:List Value} {a b:List Int},UZ q a->UZ q b->a=b:=by
   intro q a b h1;induction h1 generalizing b with
   | nil=>intro h2;cases h2;rfl
   | cons n t _ ih=>intro h2;cases h2 with|cons _ _ r=>rw[ih r]
  exact B (this G J)
 have he:∀j (h1:j<q.toArray.size) (h2:j<vs.toArray.size),EqAt A.in1 s q.toArray[j] vs.toArray[j] (decide (ns.getD j 0=ms.getD j 0)):=by
  intro j h1 h2;have g:∀ {q:List Value} {ns:List Int} {j:Nat} (_:UZ q ns) (h:j<q.length),∃t,q[j]=.int (ns.getD j 0) t:=by
   intro q ns j r;induction r generalizing j with
   | nil=>intro h;cases h
   | cons n t r ih=>
    intro h;cases j with
    | zero=>exact⟨t,rfl⟩
    | succ j=>
     obtain⟨t',e⟩:=ih (j:=j) (by simpa using h);exact⟨t',by simpa using e⟩
  obtain⟨t,N⟩:=g G (j:=j) (by simpa using h1);obtain⟨t',F⟩:=g J (j:=j) (by simpa using h2);have M:q.toArray[j]=q[j]'(by simpa using h1):=by simp
  have U:vs.toArray[j]=vs[j]'(by simpa using h2):=by simp
  rw[M,U,N,F];exact EqAt.to (EqAt.int_int _ _ _ _) (by simp[zam])
 refine EqAt.to (EqAt.of_refs ne (RcAt.tuples tx ty hu he)) ?_;have M:q.toArray.size=ns.length:=by rw[T3];exact G.length
 have U:vs.toArray.size=ms.length:=by rw[T3];exact J.length
 rw[M,U,zal];intro z;rw[UE]at z;obtain⟨Y,z2⟩:=z;have hl:ns.length=ms.length:=by simpa using z2
 rw[YC]at Y;refine B (YD hl λj h1 h2=>?_);have:=of_decide_eq_true (Y j (List.mem_range.mpr (by lia)));simpa[h1,h2]using this
def x8(h:Heap)(p a:Addr)(v:Value)(ns:List Int):Prop:=IsTup h p #[.ref a,v]/\TupI h a ns
theorem yO(G:x8 s.heap p a u ns)(Y:x8 s.heap q b v ms)(B:ns≠ms)(F:A.units<cLine)(h:Q (HT.lexLt ns ms) s) :
  wpAny (model prog w) A (keyLt' (tuples' false) (.ref p) (.ref q)) Q E s:=by
 obtain⟨⟨ox,M,x2,n,x3⟩,tx⟩:=G;obtain⟨⟨oy,y1,y2,m,N⟩,ty⟩:=Y;refine kat_lt M x3 y1 N ?_;refine kat_cons (EL tx ty B F prog w _ _ (kat_no ?_));obtain⟨us,t1,U⟩:=tx;obtain⟨ws,J,W⟩:=ty;exact kat_one _ _ (HT.kU t1 J U W F h)
end
end My
namespace My
open PySem PySem.Spec PyProof.Rows L2 PySem.SeqAt
theorem obj_some(x:ObjOk P w H h a o):∃q,h.get? a=some q:=by
 cases o with
 | lst xs=>obtain⟨_,_,_,_,e⟩:=x;exact⟨_,e⟩
 | tup xs=>obtain⟨_,_,_,q,e,_⟩:=x;exact⟨q,e⟩
 | dK kvs=>obtain⟨_,_,_,_,q,_,_,e,_⟩:=x;exact⟨q,e⟩
 | dT kvs=>obtain⟨_,_,_,_,q,_,_,e,_⟩:=x;exact⟨q,e⟩
 | set S n=>obtain⟨q,_,_,_,e,_⟩:=x;exact⟨q,e⟩
 | ins C dx fs=>obtain⟨_,_,_,e,_⟩:=x;exact⟨_,e⟩
 | own y=>exact x
 | xd fs=>obtain⟨_,⟨q,_,_,e,_⟩,_⟩:=x;exact⟨q,e⟩
 | rng lo hi=>obtain⟨_,_,_,e⟩:=x;exact⟨_,e⟩
 | frz q u=>obtain⟨e,_⟩:=x;exact⟨_,e⟩
 | tbl ps=>exact⟨_,(show h.get? a=some _ from x)⟩
 | met f y=>exact⟨_,(show h.get? a=some _ from x)⟩
 | ext φ=>exact x.2.1
theorem BN(I:Inv X pins σ H s)(keep:∀b o,b≠X.env.locals->s.heap.get? b=some o->h'.get? b=some o)(ns:∀m,s.heap.Ns X.env.locals m->h'.Ns X.env.locals m)
  (same:∀b o,s.heap.get? b=some o->H' b=H b) (new:∀b o,H b=none->H' b=some o->ObjOk X.prog X.w H' h' b o):Inv X pins σ H' {s with heap:=h',toks:=t'}:=by
 have nl:∀b o,H b=some o->b≠X.env.locals:=λb o e z=>by rw[z,I.free]at e;cases e
 have B:∀b o,H b=some o->H' b=some o:=λb o e=>by
  obtain⟨N,q⟩:=obj_some (I.hok b o e);rw[same b N q];exact e
 refine I.step (g':=s.gens) (d':=s.drawn) (ch:=[]) (λ_ z=>nomatch z) (λb o F _ _ e _=>keep b o F e) (λb o F _ _ e _=>⟨o.slots,keep b o F e⟩) (λb o _ e n=>by rw[same b o e];exact n) (λb o _ e=>?_)
  (λb xs e=>B b _ e) (λb o u e=>B b _ e) (λb ps e=>⟨#[],by rw[B b _ e];simp⟩) ns (λb u e=>?_) I.bare
 ·by_cases G:b=X.env.locals
  ·obtain⟨m,U,_⟩:=I.loc
   obtain⟨o',_,_,J,_⟩:=ns m U;exact⟨o',by rw[G];exact J⟩
  ·exact⟨o,keep b o G e⟩
 ·cases e0:H b with
  | some v=>
   have:v=u:=by
    have:=B b v e0;rw[e]at this;exact(UF this).symm
   subst this;refine(I.hok b v e0).stay (λc v M q=>keep c v ?_ q) (λc q=>B c _ q) λc xs q=>B c _ q
   rcases M with z|z
   ·rw[z];exact nl b _ e0
   ·exact nl c _ z
  | none=>exact new b u e0 e
def kI(p:List Int×V):List Key×V:=(p.1.map T1,p.2)
theorem E2(ns:List Int):(ns.map (T1:Int->Key)).map kV=ns.map V.int:=by
 rw[VQ];rfl
def qT(q:List (List Int×V)):Prop:=q.Pairwise λa b=>HT.lexLt a.1 b.1=true
theorem rH:∀ {ns:List Int} {us:List Value},Vals (ns.map V.int) us->UZ us ns:=λr=>L2.intsAre_of r
theorem CS{X:Cx}{pins:List (Addr×Obj)}{σ:L2.St}{H:Hp}{s:S8}{d:Addr}{ps:List (List Int×V)}(I:Inv X pins σ H s)(W:Rd H d (.dT (ps.map kI))) :
  ps.length<=TK/\(d == VB)=false/\(ps.map (·.1)).Nodup/\∃es ep,RawD s.heap d es ep/\es.size=ps.length/\∀(j:Nat) (p:List Int×V),ps[j]?=some p->∃(e:WM) (b:Addr),es[j]?=some e/\e.key=.ref b/\H b=some (.tup (p.1.map V.int))/\RelV p.2 e.val:=by
 obtain⟨z,y,xs,r,o,es,ep,h1,h2,N,J,F⟩:=(show ObjOk X.prog X.w H s.heap d (.dT (ps.map kI))from W.ok I.hok);have hl:xs.length=ps.length:=by rw[<- W4 r,TL]
 have G:es.size=ps.length:=by
  have:=congrArg V6 J;rw[VF,TL]at this
  lia
 have get:∀ {ps:List (List Int×V)} {xs:List (List Key×Addr×Value)},UR (λ(p:List Key×V) (q:List Key×Addr×Value)=>p.1=q.1/\H q.2.1=some (.tup (p.1.map kV))/\RelV p.2 q.2.2) (ps.map kI) xs->
   ∀(j:Nat) (p:List Int×V),ps[j]?=some p->∃q,xs[j]?=some q/\(kI p).1=q.1/\H q.2.1=some (.tup ((kI p).1.map kV))/\RelV p.2 q.2.2:=by
  intro ps;induction ps with
  | nil=>intro xs r j p e;simp at e
  | cons p0 ps ih=>
   intro xs r j p e;rw[TU]at r;cases r with
   | cons h t=>
    cases j with
    | zero=>simp at e;subst e;exact⟨_,rfl,h⟩
    | succ j=>exact ih t j p (by simpa using e)
 have B:∀ {ps:List (List Int×V)} {xs:List (List Key×Addr×Value)},UR (λ(p:List Key×V) (q:List Key×Addr×Value)=>p.1=q.1/\H q.2.1=some (.tup (p.1.map kV))/\RelV p.2 q.2.2) (ps.map kI) xs->
   xs.map (·.1)=ps.map λp=>p.1.map T1:=by
  intro ps;induction ps with
  | nil=>intro xs r;rw[WB]at r;cases r;rfl
  | cons p0 ps ih=>
   intro xs r;rw[TU]at r;cases r with
   | cons h t=>rw[TU,TU,ih t,<- h.1];rfl
 refine⟨by rw[TL]at z;exact z,y,?_,es,ep,⟨o,h1,h2,N⟩,G,λj p e=>?_⟩
 ·rw[B r]at F
  have:(ps.map λp=>p.1.map (T1:Int->Key))=(ps.map (·.1)).map λns=>ns.map T1:=by rw[VQ];rfl
  rw[this]at F;exact List.Pairwise.of_map _ (λa b h e=>h (by rw[e])) F
 ·obtain⟨q,U,e2,Y,M⟩:=get r j p e
  have e5:es[j]?=some (entryOfKey (VZ (aU X.prog X.w)) q):=by
   rw[<- YL,J,T6,U];rfl
  exact⟨_,q.2.1,e5,rfl,by rw[Y];show some (HO.tup (((p.1.map T1):List Key).map kV))=_;rw[E2],M⟩
theorem EV(I:Inv X pins σ H s)(h:H b=some (.tup (ns.map V.int))):TupI s.heap b ns:=by
 obtain⟨q,r,t,_⟩:=I.tuple (SqT.of h);exact⟨q,t,rH r⟩
theorem rV(J:PermR ps.length p)(hs:dG (NJ (ps.map (·.1))) p ps.length) :
  (p.toList.map λi=>ps.getD i ([],.non)).Perm ps/\qT (p.toList.map λi=>ps.getD i ([],.non)):=by
 have M:(T2 ps.length).map (λi=>ps.getD i ([],.non))=ps:=by
  apply YD
  ·simp
  ·intro i h1 h2
   simp[h2]
 constructor
 ·have:=(Array.perm_iff_toList_perm.mp J).map λi=>ps.getD i (([],.non):List Int×V)
  rw[M]at this;exact this
 ·unfold qT
  rw[List.pairwise_map];rw[List.pairwise_iff_getElem];intro i j hi F B;have hsz:=J.size;rw[VF]at hi F;have h1:=hs i j B (by lia);have g:∀k (q:k<p.size),p.getD k 0=p.toList[k]'(by rw[VF];exact q):=λk q=>by simp[XJ,q]
  rw[g i hi,g j F]at h1;have G:∀k,(ps.map (·.1)).getD k []=(ps.getD k ([],.non)).1:=λk=>by
   by_cases h:k<ps.length
   ·simp[h]
   ·simp[Nat.le_of_not_lt h]
  unfold NJ at h1;rw[G,G]at h1;exact h1
end My
namespace My
open PySem PySem.Spec PyProof.Rows L2 PySem.SeqAt PySem.W
theorem d5{q F B:Type}{R:F->B->Prop}{f:q->F}{g:q->B}:∀(l:List q),(∀i∈l,R (f i) (g i))->UR R (l.map f) (l.map g)
 | [],_=>.nil
 | i::l,h=>.cons (h i (UL ..)) (d5 l λj G=>h j (UG _ G))
theorem jL{F B:Type}{f:B->Value}{R:B->F->Prop}:∀(ps:List F) (vs:List Value),vs.length=ps.length->(∀(j:Nat) (p:F),ps[j]?=some p->∃b,vs[j]?=some (f b)/\R b p)->∃bs:List B,vs=bs.map f/\UR R bs ps
 | [],[],_,_=>⟨[],rfl,.nil⟩
 | [],_::_,h,_=>by cases h
 | _::_,[],h,_=>by cases h
 | p::ps,v::vs,hl,h=>by
  obtain⟨b,e,r⟩:=h 0 p rfl;obtain⟨bs,J,G⟩:=jL ps vs (by simpa using hl) λj q M=>h (j+1) q (by simpa using M)
  have:v=f b:=by simpa using e
  exact⟨b::bs,by rw[TU,<- J,this],.cons r G⟩
theorem lI{B q:Type}{R:B->q->Prop}:∀ {as:List B} {bs:List q},UR R as bs->∀(j:Nat) (b:q),bs[j]?=some b->∃a,as[j]?=some a/\R a b
 | _,_,.nil,j,b,e=>by simp at e
 | _,_,.cons h t,0,b,e=>by simp at e;subst e;exact⟨_,rfl,h⟩
 | _,_,.cons h t,j+1,b,e=>lI t j b (by simpa using e)
section
variable {X:Cx}
def wA(el:Hp->V->List Int×V->Prop)(H:Hp)(ps:List (List Int×V))(Q:VK):Prop:=
 ∀(l:Addr) (us:List V) (qs:List (List Int×V)) (H2:Hp),Same H H2->H l=none->H2 l=some (.lst us)->UR (el H2) us qs->qs.Perm ps->qT qs->Q (.ref l) H2
def SA:Hp->V->List Int×V->Prop:=λH u q=>∃a b,u=.ref a/\H a=some (.tup [.ref b,q.2])/\H b=some (.tup (q.1.map V.int))
theorem yX{pins:List (Addr×Obj)}{σ:L2.St}{H H1:Hp}{s:S8}{h1:Heap}{tk:Nat}{A:TX}{E:Value->S8->Prop}{Q:VK}{ps:List (List Int×V)}{as:List Addr}{el:Hp->V->List Int×V->Prop}{P:PySem.Fin->S8->Prop}
  (I:Inv X pins σ H s) (B:∀b o,s.heap.get? b=some o->h1.get? b=some o) (an:ps.length<64) (hn:(ps.map (·.1)).Nodup) (hl:as.length=ps.length)
  (J:∀b o,s.heap.get? b=some o->H1 b=H b) (M:∀b o,H1 b=some o->b<h1.objs.size)
  (aa:∀(b:Addr) (o:HO),H b=none->H1 b=some o->∀(h':Heap) (H':Hp),(∀c u,c≠h1.objs.size->c≠X.env.locals->h1.get? c=some u->h'.get? c=some u)->ObjOk X.prog X.w H' h' b o)
  (al:∀(j:Nat) (p:List Int×V) (a:Addr),ps[j]?=some p->as[j]?=some a->∀H',Same H1 H'->el H' (.ref a) p)
  (aj:2 <= ps.length -> ∀h':Heap, (∀b o, b≠h1.objs.size -> b≠X.env.locals -> h1.get? b = some o -> h'.get? b = some o) -> ∃κ, (∀Q':SortKind -> S8 -> Prop, Q' κ {s with heap:=h', toks:=tk} -> wpAny (model X.prog X.w) A (keyKind' (as.map TN).toArray) Q' (λ_ _ => False) {s with heap:=h', toks:=tk}) /\
   ∀i j C,i<ps.length->j<ps.length->i≠j->C (NJ (ps.map (·.1)) i j) {s with heap:=h',toks:=tk}->kas_ask X.prog X.w A κ (as.map TN) i j C {s with heap:=h',toks:=tk})
  (q:wA el H ps Q) (hP:∀s',EP X pins σ Q (.ref h1.objs.size) s'->P (.done (.ret .none)) s') :
  wpAny (model X.prog X.w) A (WK.«list.sort» ⟨[.ref h1.objs.size],[]⟩) P E {s with heap:=h1.push (UQ "list" (as.map TN).toArray 0),toks:=tk}:=by
 obtain⟨m,N,_⟩:=id I.loc;have F:(as.map TN).length=ps.length:=by rw[TL,hl]
 have ai:X.env.locals<h1.objs.size:=by
  obtain⟨o,_,_,e,_⟩:=id N;exact TQ (B _ o e)
 have ag:(h1.push (UQ "list" (as.map TN).toArray 0)).Ns X.env.locals m:=N.at' λo e=>TV _ (B _ o e)
 have O:Ord (as.map TN).length (NJ (ps.map (·.1))):=by
  rw[F,<- TL (f:=(·.1)) (as:=ps)];exact B3 hn
 have Y:H h1.objs.size=none:=by
  cases e:H h1.objs.size with
  | none=>rfl
  | some o=>
   obtain⟨ob,z⟩:=obj_some (I.hok _ o e);exact absurd (TQ (B _ ob z)) (VR _)
 have W:H1 h1.objs.size=none:=by
  cases e:H1 h1.objs.size with
  | none=>rfl
  | some o=>exact absurd (M _ o e) (VR _)
 refine AW (lt:=NJ (ps.map (·.1))) (n:=0) (L:=X.env.locals) (m:=m) (s:={s with heap:=h1.push (UQ "list" (as.map TN).toArray 0),toks:=tk}) O ag (T8 _ rfl) (US ai) (by rw[F];exact an) (λh2 h' k=>?_) λp h' c hp hs ak U ao=>?_
 ·rw[F]at h2
  obtain⟨κ,k1,k2⟩:=aj h2 h' λb o hb hL e=>k b o hb hL (TV _ e)
  exact⟨κ,k1,λi j C hi hj=>k2 i j C (by rw[F]at hi;exact hi) (by rw[F]at hj;exact hj)⟩
 ·rw[F]at hp hs
  obtain⟨g1,g2⟩:=rV hp hs;have G:∀c u,c≠h1.objs.size->c≠X.env.locals->h1.get? c=some u->h'.get? c=some u:=λc u am ad e=>U c u am ad (TV _ e)
  have lt:∀i∈p.toList,i<ps.length:=λi hi=>by
   have:=(Array.perm_iff_toList_perm.mp hp).mem_iff.mp hi;simpa using this
  have ga:∀i,i<ps.length->as[i]?=some (as.getD i 0)/\ps[i]?=some (ps.getD i ([],.non))/\(as.map TN).getD i UC=.ref (as.getD i 0):=λi hi=>by
   have h1:i<as.length:=by lia
   refine⟨by simp[h1],by simp[hi],by simp[h1]⟩
  have ap:Same H (upd H1 h1.objs.size (.lst (p.toList.map λi=>V.ref (as.getD i 0)))):=λb o e=>by
   obtain⟨ob,z⟩:=obj_some (I.hok b o e);rw[aC (aW e Y),J b ob z];exact e
  have ae:Same H1 (upd H1 h1.objs.size (.lst (p.toList.map λi=>V.ref (as.getD i 0)))):=sP W;have I2:Inv X pins σ (upd H1 h1.objs.size (.lst (p.toList.map λi=>V.ref (as.getD i 0)))) {s with heap:=h',toks:=tk}:=by
   refine BN I (λb o hL e=>G b o (λz=>absurd (TQ (B b o e)) (by rw[z];exact VR _)) hL (B b o e)) (λm' af=>?_) (λb o e=>?_) (λb o n e=>?_)
   ·obtain⟨o1,ba,bf,e1,d1,r1⟩:=N
    obtain⟨o2,bh,bb,e2,d2,r2⟩:=af;rw[e1]at e2;cases e2;rw[d1]at d2;injection d2 with d3 d4
    subst d3 d4;have:m=m':=funext λx=>by rw[<- r1.2 x,<- r2.2 x]
    rw[<- this];exact ao
   ·rw[aC (λz=>absurd (TQ (B b o e)) (by rw[z];exact VR _))]
    exact J b o e
   ·by_cases hb:b=h1.objs.size
    ·subst hb
     rw[aF]at e;cases e;refine⟨?_,_,c,?_,ak⟩
     ·rw[TL,VF,hp.size,WH]
      lia
     ·show Vals _ (p.toList.map λi=>(as.map TN).getD i UC)
      exact d5 p.toList λi hi=>by
       show(as.map TN).getD i UC=TN (as.getD i 0);exact(ga i (lt i hi)).2.2
    ·rw[aC hb]at e
     exact aa b o n e h' _ G
  refine hP _ ⟨.ref h1.objs.size,_,I2,rfl,q _ _ _ _ ap Y aF (d5 p.toList λi hi=>?_) g1 g2⟩;obtain⟨a1,a2,_⟩:=ga i (lt i hi);exact al i _ _ a2 a1 _ ae
theorem KF{A:TX}{κ:SortKind}{as:List Addr}{i j:Nat}{C:Bool->S8->Prop}{s:S8}(hi:i<as.length)(F:j<as.length)(h:wpAny (model X.prog X.w) A (keyLt' κ (.ref (as.getD i 0)) (.ref (as.getD j 0))) C (λ_ _=>False) s):kas_ask X.prog X.w A κ (as.map TN) i j C s:=by
 unfold kas_ask;have q:(as.map TN).getD i UC=.ref (as.getD i 0):=by simp[hi]
 have B:(as.map TN).getD j UC=.ref (as.getD j 0):=by simp[F]
 rw[q,B];exact h
theorem kT:∀ {as:List Addr} {fs:List Value},UR (λa f=>∃q:List Value,IsTup h a q.toArray/\q[0]?=some f) as fs->KatTups h (as.map TN) fs
 | _,_,.nil=>.nil
 | _,_,.cons ⟨q,⟨o,e,c,n,d⟩,z⟩ t=>KatTups.cons e c d (by simpa using z) (kT t)
def CZ:V->List V->Hp->VK->Prop:=λx vs H Q=>∃d kvs,x=.ref d/\vs=[]/\Rd H d (.dT kvs)/\∀r,H r=none->Q (.ref r) (upd H r (.ext λh=>h.IsItemsView r d))
theorem B9:SD X "dict.items" CZ:=by
 intro pins s σ H x vs v us Q I J W h;obtain⟨d,kvs,rfl,rfl,N,q⟩:=h;cases J;have B:=W.zero;subst B;obtain⟨z,y,xs,r,o,es,ep,h1,h2,h3,_⟩:=(show ObjOk X.prog X.w H s.heap d (.dT kvs)from N.ok I.hok);have G:s.TypeIs (.ref d) "dict" := ⟨o,h1,h2.1⟩;refine VI PySem.F.slot_dict_items G PySem.F.entry_dict_items ?_ (PySem.F.args_dict_items_1 _);unfold WK.«dict.items»;refine S7 ?_;unfold Builtin.Dict.noArgs;refine S7 (wpAny_notOrdered_dict G ?_);show wpAny _ _ (pure d) _ _ s;refine TB ?_;show wpAny _ _ (ZC d >>= _) _ _ s;unfold ZC;rw[if_neg (by rw[y];exact TZ)];refine S7 (TB (S7 (U7 (TB ⟨_,rfl,?_⟩))));have Y:H s.heap.objs.size=none:=I.fresh;refine⟨.ref s.heap.objs.size,_,I.laid (t':=s.toks) (o:=.ext λh=>h.IsItemsView s.heap.objs.size d) (λ_ _ q=>TV _ q) (TR _) ⟨⟨_,T8 _ rfl,rfl,rfl⟩,⟨_,T8 _ rfl⟩,λa b ⟨o,M,U⟩ k=>⟨o,k o M,U⟩⟩,rfl,q _ Y⟩
def AB(H:Hp)(as:List Addr)(ds:List (List V)):Hp:=λb=>match as.findIdx? (λa=>decide (a=b))with
 | some j=>some (.tup (ds.getD j []))
 | none=>H b
theorem g6(h:¬ b∈as):AB H as ds b=H b:=by
 unfold AB;have:as.findIdx? (λa=>decide (a=b))=none:=by
  rw[List.findIdx?_eq_none_iff];intro a q;exact decide_eq_false λe=>h (e ▸ q)
 rw[this]
theorem xK(h:b∈as):∃j,as[j]?=some b/\AB H as ds b=some (.tup (ds.getD j [])):=by
 unfold AB;cases e:as.findIdx? (λa=>decide (a=b))with
 | none=>
  rw[List.findIdx?_eq_none_iff]at e;have:=e b h;simp at this
 | some j=>
  rw[List.findIdx?_eq_some_iff_getElem]at e;obtain⟨h1,h2,_⟩:=e;exact⟨j,by rw[UU h1,of_decide_eq_true h2],rfl⟩
theorem pG(hc:X.calm=true)(hu:X.A.units+64<cLine):CallR X (.builtin "sorted") (λxs H Q=>∃r d ps,xs=[.ref r]/\H r=some (.ext λh=>h.IsItemsView r d)/\Rd H d (.dT (ps.map kI))/\ps.length<64/\wA SA H ps Q):=by
 intro pins s σ H xs us Q I rr h;obtain⟨r,d,ps,rfl,hr,hd,bb,q⟩:=h;obtain⟨u,rfl,ru⟩:=vals1 rr;cases ru;obtain⟨hz,cm,al,es,ep,a5,an,ak⟩:=CS I hd;have hv:s.heap.IsItemsView r d:=(I.hok r _ hr).1;have nL:∀ {b:Addr} {o:HO},H b=some o->b≠X.env.locals:=λe z=>by rw[z,I.free]at e;cases e
 refine Calls.call_function_entry kind_sorted plain_sorted entry_sorted (args_sorted1 _) ?_;unfold WK.«sorted»;refine S7 (m:=checkCount "sorted" 1 1 _) (TB (S7 (pP (I.ok.hd hc) hv a5 (by rw[an];exact hz) λh1 tk as G bh ab=>?_)));have B:as.length=ps.length:=by rw[bh,an]
 obtain⟨bs,a3,aw⟩:=jL (f:=TN) (R:=λb (p:List Int×V)=>H b=some (.tup (p.1.map V.int))) ps (es.toList.map (·.key)) (by rw[TL,VF,an]) λj p hp=>by
  obtain⟨e,b,Y,W,e3,_⟩:=ak j p hp;exact⟨b,by rw[T6,YL,Y];exact congrArg some W,e3⟩
 have am:bs.length=ps.length:=W4 aw
 -- the j-th pair
 have F:∀(j:Nat) (p:List Int×V),ps[j]?=some p->∃a b v,as[j]?=some a/\bs[j]?=some b/\H b=some (.tup (p.1.map V.int))/\RelV p.2 v/\s.heap.objs.size<a/\h1.get? a=some {cls:=.type "tuple",data:=.seq #[.ref b,v]}:=λj p hp=>by
  obtain⟨e,b,Y,W,e3,e4⟩:=ak j p hp;have J:j<ps.length:=(List.getElem?_eq_some_iff.mp hp).1;obtain⟨b',f1,f2⟩:=lI aw j p hp;have ar:as[j]?=some (as[j]'(by lia)):=UU (by lia);obtain⟨e',g1,g2⟩:=ab.pair j _ ar;rw[Y]at g1;cases g1;have hb:b=b':=by
   have z:(es.toList.map (·.key))[j]?=some (.ref b):=by rw[T6,YL,Y];exact congrArg some W
   rw[a3,T6,f1]at z;have:=UF z;injection this with this
   exact this.symm
  subst hb;exact⟨_,b,e.val,ar,f1,e3,e4,ab.above _ (XX _),by rw[g2,W]⟩
 have ad:∀(i j:Nat) (a:Addr),as[i]?=some a->as[j]?=some a->i=j:=λi j a hi J=>by
  have li:i<ps.length:=by rw[<- B];exact(List.getElem?_eq_some_iff.mp hi).1
  have lj:j<ps.length:=by rw[<- B];exact(List.getElem?_eq_some_iff.mp J).1
  obtain⟨a1,b1,v1,M,_,x2,_,_,x3⟩:=F i _ (UU li);obtain⟨a2,b2,v2,y1,_,N,_,_,y3⟩:=F j _ (UU lj);rw[hi]at M;cases M;rw[J]at y1;cases y1;rw[x3]at y3;injection y3 with y3
  injection y3 with _ _ y3 _
  injection y3 with y3 _
  have hb:b1=b2:=by
   have:=congrArg (λz:Array Value=>z[0]?) y3;simpa using this
  subst hb;rw[x2]at N;injection N with N
  injection N with N
  have:ps[i].1=ps[j].1:=by
   have inj:∀ {a b:List Int},a.map V.int=b.map V.int->a=b:=by
    intro a;induction a with
    | nil=>intro b h;cases b with
     | nil=>rfl
     | cons _ _=>cases h
    | cons x xs ih=>intro b h;cases b with
     | nil=>cases h
     | cons y ys=>
      rw[TU,TU]at h;injection h with h1 h2
      injection h1 with h1
      rw[h1,ih h2]
   exact inj N
  have Y:(ps.map (·.1))[i]'(by rw[TL];exact li)=(ps.map (·.1))[j]'(by rw[TL];exact lj):=by simpa using this
  exact(X1 al).mp Y
 have au:∀(j:Nat) (p:List Int×V) (b:Addr),ps[j]?=some p->bs[j]?=some b->((bs.zip ps).map λx=>[V.ref x.1,x.2.2]).getD j []=[V.ref b,p.2]:=λj p b h1 h2=>by
  have:((bs.zip ps).map λx=>[V.ref x.1,x.2.2])[j]?=some [V.ref b,p.2]:=by
   rw[T6,(List.getElem?_zip_eq_some (z:=(b,p))).mpr ⟨h2,h1⟩];rfl
  simp[XG,this]
 have aj:∀b o,s.heap.get? b=some o->¬ b∈as:=λb o e hb=>absurd (TQ e) (Nat.not_lt.mpr (YR (ab.above b hb)))
 have ap:Same H (AB H as ((bs.zip ps).map λx=>[V.ref x.1,x.2.2])):=λb o e=>by
  obtain⟨ob,z⟩:=obj_some (I.hok b o e);rw[g6 (aj b ob z)];exact e
 refine S7 (wpAny_newList ?_ (by rw[TL,B];exact hz));have a0:(h1.push (UQ "list" (as.map TN).toArray 0)).get? h1.objs.size=some (UQ "list" (as.map TN).toArray 0):=T8 _ rfl;show wpAny _ _ _ _ _ {s with heap:=h1.push (UQ "list" (as.map TN).toArray 0),toks:=tk};refine S7 (VL (VI slot_list_sort ⟨_,a0,rfl⟩ entry_list_sort ?body (args_list_sort _)))
 case body=>
  refine yX (H1:=AB H as ((bs.zip ps).map λx=>[V.ref x.1,x.2.2])) (el:=SA) (Q:=Q) I G bb al B (λb o e=>g6 (aj b o e)) (λb o e=>?_) (λb o n e h' H' k=>?_) (λj p a hp ha H' sm=>?_) (λh2 h' k=>?_) q λs' hE=>⟨_,rfl,TB ⟨_,rfl,hE⟩⟩
  ·by_cases hb:b∈as
   ·obtain⟨j,J⟩:=List.mem_iff_getElem?.mp hb
    have lj:j<ps.length:=by rw[<- B];exact(List.getElem?_eq_some_iff.mp J).1
    obtain⟨a,b',v,M,_,_,_,_,x3⟩:=F j _ (UU lj);rw[J]at M;cases M;exact TQ x3
   ·rw[g6 hb]at e
    obtain⟨ob,z⟩:=obj_some (I.hok b o e);exact TQ (G b ob z)
  ·have hb:b∈as:=Classical.byContradiction λz=>by rw[g6 z,n]at e;cases e
   obtain⟨j,J,W⟩:=xK (H:=H) (ds:=(bs.zip ps).map λx=>[V.ref x.1,x.2.2]) hb;rw[W]at e;cases e;have lj:j<ps.length:=by rw[<- B];exact(List.getElem?_eq_some_iff.mp J).1
   obtain⟨a,b',v,M,x2,_,x4,x5,x3⟩:=F j _ (UU lj);rw[J]at M;cases M;rw[au j _ b' (UU lj) x2];have aq:b≠X.env.locals:=US (XD I.lt x5);exact⟨by show 2<=TK;decide,[.ref b',v],.cons rfl (.cons x4 .nil),_,k b _ (T9 (TQ x3)) aq x3,rfl,0,rfl,rfl⟩
  ·obtain⟨a',b,v,M,x2,x3,x4,_,_⟩:=F j p hp
   rw[ha]at M;cases M;obtain⟨j',bf,W⟩:=xK (H:=H) (as:=as) (ds:=(bs.zip ps).map λx=>[V.ref x.1,x.2.2]) (U9 ha);have:=ad j' j a bf ha;subst this;rw[au j' p b hp x2]at W;exact⟨a,b,rfl,sm _ _ W,sm _ _ (ap _ _ x3)⟩
  ·have pI:∀(j:Nat) (p:List Int×V),ps[j]?=some p->∃a b v,as[j]?=some a/\bs[j]?=some b/\x8 h' a b v p.1:=λj p hp=>by
    obtain⟨a,b,v,M,x2,x3,x4,x5,x6⟩:=F j p hp;refine⟨a,b,v,M,x2,⟨_,k a _ (T9 (TQ x6)) (US (XD I.lt x5)) x6,rfl,0,rfl⟩,(EV I x3).at' λo e=>k b o ?_ (nL x3) (G b o e)⟩;exact λz=>absurd (TQ (G b o e)) (by rw[z];exact VR _)
   refine⟨tuples' (WQ "tuple" != WQ "tuple"),λQ' q'=>?_,λi j C hi J ay hC=>?_⟩
   ·have pr:UR (λa (f:Value)=>∃U:List Value,IsTup h' a U.toArray/\U[0]?=some f) as (bs.map TN):=by
     have:∀ {as bs:List Addr} {ps:List (List Int×V)},as.length=ps.length->bs.length=ps.length->(∀(j:Nat) (p:List Int×V),ps[j]?=some p->∃a b v,as[j]?=some a/\bs[j]?=some b/\x8 h' a b v p.1)->UR (λa (f:Value)=>∃U:List Value,IsTup h' a U.toArray/\U[0]?=some f) as (bs.map TN):=by
      intro as;induction as with
      | nil=>intro bs ps h1 h2 _;cases ps with
       | nil=>cases bs with
        | nil=>exact .nil
        | cons _ _=>cases h2
       | cons _ _=>cases h1
      | cons a as ih=>intro bs ps h1 h2 h3;cases ps with
       | nil=>cases h1
       | cons p ps=>cases bs with
        | nil=>cases h2
        | cons b bs=>
         obtain⟨a',b',v,y1,N,y3,_⟩:=h3 0 p rfl;have Y:a'=a:=by simpa using y1.symm
         have W:b'=b:=by simpa using N.symm
         subst Y W;exact .cons ⟨[.ref b',v],y3,rfl⟩ (ih (by simpa using h1) (by simpa using h2) λj q hq=>h3 (j+1) q (by simpa using hq))
     exact this B am pI
    refine kat_kind (s:={s with heap:=h',toks:=tk}) (kT pr) (by rw[TL,am];lia) (λv hv=>?_) (by decide) q';obtain⟨b,hb,rfl⟩:=List.mem_map.mp hv;obtain⟨j,J⟩:=List.mem_iff_getElem?.mp hb;have lj:j<ps.length:=by rw[<- am];exact(List.getElem?_eq_some_iff.mp J).1
    obtain⟨a,b',v,_,N,_,U,⟨o,Y,W,_⟩,_⟩:=pI j _ (UU lj);rw[J]at N;cases N;rw[<- W];exact(show Looks _ h' (typeOf (.ref b)) o.cls from(Looks.ld Y).andThen .now)
   ·refine KF (by lia) (by lia) ?_
    obtain⟨x,b1,v1,M,_,x2⟩:=pI i _ (UU hi);obtain⟨y,b2,v2,y1,_,N⟩:=pI j _ (UU J);have ex:as.getD i 0=x:=by simp[XG,M]
    have ey:as.getD j 0=y:=by simp[XG,y1]
    rw[ex,ey];have a4:ps[i].1≠ps[j].1:=λz=>ay (by
     have Y:(ps.map (·.1))[i]'(by rw[TL];exact hi)=(ps.map (·.1))[j]'(by rw[TL];exact J):=by simpa using z
     exact(X1 al).mp Y)
    refine yO (s:={s with heap:=h',toks:=tk}) x2 N a4 (by show X.A.units+1+1<cLine;lia) ?_;unfold NJ at hC;have k1:(ps.map (·.1)).getD i []=ps[i].1:=by simp[hi]
    have k2:(ps.map (·.1)).getD j []=ps[j].1:=by simp[J]
    rw[k1,k2]at hC;exact hC
end
theorem yM{prog:TJ}{w:World}{A:TX}{E:Value->S8->Prop}{s:S8}{t J:Addr}{items:Array Value}{M N:Value}{lo hi:Option Int}{Q:Value->S8->Prop}(q:IsTup s.heap t items)(hs:s.heap.IsSliceOf J M N .none)(Y:V7 M lo)(U:V7 N hi)
  (hw:HT.sIx items.size 0 lo=0/\HT.sIx items.size items.size hi=items.size) (h:Q (.ref t) s):wpAny (model prog w) A (V8 (.ref t) (.ref J)) Q E s:=by
 obtain⟨os,F,G,W⟩:=id hs;have tt:s.TypeIs (.ref J) "slice" := ⟨os,F,G⟩;unfold V8;try with_reducible refine VL ?_
 first|refine S7 (TB ?_)|skip
 refine S7 (wpAny_sequenceKey q.typeIs (by decide) ?_);refine S7 (V9 (name:=WA "__getitem__") q.typeIs Y3 (VI Y3 q.typeIs entry_tuple_getitem ?_ (args_tuple_getitem _ _)));show wpAny _ _ (Builtin.Tuple.tupleItemsOf (.ref t) >>= _) _ _ s;refine S7 (tupleItemsOf_ q (S7 (Y4 tt ?_)));rw[if_pos (by decide)];refine S7 (HT.dN hs Y U ?_);have B:(((HT.sIx items.size 0 lo:Nat):Int) == 0 && (1:Int) == 1 && (HT.sIx items.size items.size hi-HT.sIx items.size 0 lo) == items.size)=true:=by
  rw[hw.1,hw.2];simp
 show wpAny _ _ (if(((HT.sIx items.size 0 lo:Nat):Int) == 0 && (1:Int) == 1 && (HT.sIx items.size items.size hi-HT.sIx items.size 0 lo) == items.size)=true then _ else _) _ _ s;rw[if_pos B];refine S7 (m:=Builtin.Tuple.tupleIsExact _) ?_;unfold Builtin.Tuple.tupleIsExact;refine S7 (Y4 q.typeIs (TB ?_));rw[if_pos (by decide)];exact S7 (X3 (TB ⟨_,rfl,TB h⟩))
section
variable {X:Cx}
def PY(K:S9):V->Option Int->Option Int->Hp->VK->Prop:=λx lo hi H Q=>∃a xs,x=.ref a/\SqT K H a xs/\(HT.sIx xs.length 0 lo=0/\HT.sIx xs.length xs.length hi=xs.length)/\Q (.ref a) H
theorem F1:SlR X (PY X.K):=by
 intro pins s σ H x v W vu lo hi Y Q I N hs U J h;obtain⟨a,xs,rfl,M,hw,q⟩:=h;cases N;obtain⟨F,r,G,hz⟩:=I.tuple M;have B:F.toArray.size=xs.length:=by rw[T3];exact r.length.symm
 exact⟨"tuple",_,PyProof.Rows.slot_tuple_getitem.lookup,G.typeIs,yM G hs U J (by rw[B];exact hw) ⟨.ref a,H,I,rfl,q⟩⟩
theorem GY:SlR X (λx lo hi H Q=>PU X.K x lo hi H Q\/PY X.K x lo hi H Q):=MT.or F1
end
theorem mE(x:ObjOk P w H h d (.dT kvs)):(d == VB)=false/\kvs.length<=TK/\∃es ep,RawD h d es ep/\es.size=kvs.length /\
  ∀(j:Nat) (p:List Key×V),kvs[j]?=some p->∃(e:WM) (b:Addr),es[j]?=some e/\e.key=.ref b/\H b=some (.tup (p.1.map kV))/\RelV p.2 e.val/\e.hash=(VZ (aU P w)).hash p.1:=by
 obtain⟨z,y,xs,r,o,es,ep,h1,h2,G,F,Y⟩:=x;have hl:xs.length=kvs.length:=(W4 r).symm;have B:es.size=kvs.length:=by
  have:=congrArg V6 F;rw[VF,TL]at this
  lia
 have get:∀ {kvs:List (List Key×V)} {xs:List (List Key×Addr×Value)},UR (λ(p:List Key×V) (q:List Key×Addr×Value)=>p.1=q.1/\H q.2.1=some (.tup (p.1.map kV))/\RelV p.2 q.2.2) kvs xs->
   ∀(j:Nat) (p:List Key×V),kvs[j]?=some p->∃q,xs[j]?=some q/\p.1=q.1/\H q.2.1=some (.tup (p.1.map kV))/\RelV p.2 q.2.2:=by
  intro kvs xs r;induction r with
  | nil=>intro j p e;simp at e
  | cons h t ih=>
   intro j p e;cases j with
   | zero=>simp at e;subst e;exact⟨_,rfl,h⟩
   | succ j=>exact ih j p (by simpa using e)
 refine⟨y,z,es,ep,⟨o,h1,h2,G⟩,B,λj p e=>?_⟩;obtain⟨q,M,N,U,J⟩:=get r j p e;have W:es[j]?=some (entryOfKey (VZ (aU P w)) q):=by
  rw[<- YL,F,T6,M];rfl
 exact⟨_,q.2.1,W,rfl,U,J,by show(VZ (aU P w)).hash q.1=_;rw[N]⟩
def QD(d:Addr)(o:Obj)(kvs:List (List Key×V)):It:=
 ⟨λi H=>H d=some (.frz o (.dT kvs))/\i<kvs.length,λi H x H'=>H'=H/\∃k v b,kvs[i]?=some (k,v)/\x=.ref b/\H b=some (.tup (k.map kV)),λi H=>H d=some (.frz o (.dT kvs))/\kvs.length<=i⟩
theorem y9{P:TJ}{w:World}{K:S9}{tg:Expr}(d it:Addr)(o:Obj)(kvs:List (List Key×V))(es:Array WM)(ep:Nat)(hd:o.data=.dict es ep)(ap:es.size=kvs.length):Turn P w K tg (QD d o kvs) [it] it (λi h=>h.IsKeyIter it d i es.size ep) where
 mem:=by simp
 obj:=λi h st b B=>by
  have e:b=it:=by simpa using B
  subst e;obtain⟨o,N,e2,e3⟩:=st;exact⟨o,N,λv z=>by rw[e3]at z;cases z⟩
 keep:=λi h h' st k=>st.at λo e=>k it (by simp) o e
 item:=by
  intro X hP hw hK hc i pins s σ H E I U st hg;subst hP hw hK;obtain⟨h1,h2⟩:=hg;obtain⟨F,g2⟩:=(show ObjOk X.prog X.w H s.heap d (.frz o (.dT kvs))from I.hok d _ h1);obtain⟨_,_,ae,W,⟨o',G,r2,r3⟩,J,q⟩:=mE g2;rw[F]at G;cases G;rw[hd]at r3;injection r3 with r4 r5
  subst r4 r5;obtain⟨f0,f1,f2,f3,f4,Y⟩:=U it (by simp);have hi:i<es.size:=by lia
  refine AX st ⟨o,F,r2,hd⟩ hi λh' M sb=>?_
  have I1:Inv X pins σ H {s with heap:=h'}:=I.turned (t':=s.toks) (λb o B e=>(sb.2 b B).trans e) f0 f1 f3 f4 Y;obtain⟨e,b,N,e2,e3,_⟩:=q i _ (UU h2);have ee:es[i]=e:=by
   rw[zan hi]at N;exact UF N
  obtain⟨o2,q1,q2,q3⟩:=id M;refine⟨_,rfl,mN (s:={s with heap:=h'}) (n := "dict_keyiterator") q1 q2 q3 (by decide) ⟨.ref b,H,I1,?_,⟨rfl,kvs[i].1,kvs[i].2,b,UU h2,rfl,e3⟩,M,λc B=>(U c B).1⟩⟩;rw[ee,e2];rfl
 done:=by
  intro X hP hw hK hc i pins s σ H E I U st hg;subst hP hw hK;obtain⟨h1,h2⟩:=hg;obtain⟨F,g2⟩:=(show ObjOk X.prog X.w H s.heap d (.frz o (.dT kvs))from I.hok d _ h1);obtain⟨_,_,ae,W,⟨o',G,r2,r3⟩,J,q⟩:=mE g2;rw[F]at G;cases G;obtain⟨f0,f1,f2,f3,f4,Y⟩:=U it (by simp);exact HI (I.ok.hd hc) st ⟨o,F,r2,hd⟩ (by lia) λh' eb=>⟨rfl,I.turned (t':=s.toks) (λb o B e=>eb b o B e) f0 f1 f3 f4 Y⟩
 self:=λ_ _ _ _ _ st h=>wpAny_pyIter_keyiter st h
theorem uZ(I:Inv X pins σ H s)(B:H d=some (.dT kvs))(G:s.heap.get? d=some o):Inv X pins σ (upd H d (.frz o (.dT kvs))) s:=by
 have ne:∀b u,H b=some u->(∀z,u≠.dT z)->b≠d:=λb u e n z=>by
  subst z;rw[B]at e;exact n kvs (UF e).symm
 have J:=I.un (h':=s.heap) (t':=s.toks) (H':=upd H d (.frz o (.dT kvs))) ⟨λb u q _ _ _=>q,λb u q _ _ _=>⟨u.slots,q⟩,λb u q n _=>by rw[aC (λz=>by rw[z,B]at n;cases n)];exact n,λb u q _=>⟨u,q⟩,
  λb xs q=>by rw[aC (ne b _ q (λz h=>by cases h))];exact q,λb u xs q=>by rw[aC (ne b _ q (λz h=>by cases h))];exact q,λb ps q=>⟨#[],by rw[aC (ne b _ q (λz h=>by cases h)),q];simp⟩⟩ (λb u e=>?_)
 ·exact J
 ·have st:∀ {b:Addr} {u:HO},ObjOk X.prog X.w H s.heap b u->ObjOk X.prog X.w (upd H d (.frz o (.dT kvs))) s.heap b u:=λx=>x.stay (λ_ _ _ q=>q) (λc q=>by rw[aC (ne c _ q (λz h=>by cases h))];exact q) λc xs q=>by rw[aC (ne c _ q (λz h=>by cases h))];exact q
  by_cases F:b=d
  ·subst F
   rw[aF]at e;cases e;exact⟨G,st (I.hok b _ B)⟩
  ·rw[aC F]at e
   exact st (I.hok b u e)
section
variable {X:Cx}{tg:Expr}
end
section
variable {X:Cx}
end
end My
namespace My
open PySem PySem.Spec PyProof.Rows L2 PySem.SeqAt
abbrev Tm:=List Int×Int
def look(cs:List Tm)(k:List Int):Option Int:=(cs.find? λt=>decide (t.1=k)).map (·.2)
def put(cs:List Tm)(k:List Int)(c:Int):List Tm:=if(cs.any λt=>decide (t.1=k))=true then cs.map (λt=>if t.1=k then(t.1,c)else t)else cs++[(k,c)]
theorem iB{a b:List Int}:(a.map (T1:Int->Key)=b.map T1)↔a=b:=by
 constructor
 ·intro h
  induction a generalizing b with
  | nil=>cases b with
   | nil=>rfl
   | cons _ _=>cases h
  | cons x xs ih=>cases b with
   | nil=>cases h
   | cons y ys=>
    rw[TU,TU]at h;injection h with h1 h2
    injection h1 with h1
    rw[h1,ih h2]
 ·intro h;rw[h]
theorem p7(cs:List Tm)(k:List Int)(c:Int):(put cs k c).length<=cs.length+1:=by
 unfold put;split
 ·rw[TL];lia
 ·rw[VN];simp
theorem B2:∀t∈put cs k c,t.1=k\/∃u∈cs,u.1=t.1:=by
 intro t q;unfold put at q;split at q
 ·obtain⟨u,B,e⟩:=List.mem_map.mp q
  split at e
  ·rename_i z;subst e;exact .inl z
  ·subst e;exact .inr ⟨u,B,rfl⟩
 ·rcases List.mem_append.mp q with h|h
  ·exact .inr ⟨t,h,rfl⟩
  ·rw[List.mem_singleton.mp h];exact .inl rfl
theorem yZ(h:(cs.map (·.1)).Nodup):((put cs k c).map (·.1)).Nodup:=by
 unfold put;split
 ·rw[VQ]
  have:((·.1) ∘ λt:Tm=>if t.1=k then(t.1,c)else t)=(·.1):=by
   funext t;show(if t.1=k then(t.1,c)else t).1=t.1;split <;> rfl
  rw[this];exact h
 ·rename_i z
  rw[VE];refine L2.wQ h λB=>z ?_
  obtain⟨t,q,e⟩:=List.mem_map.mp B;exact List.any_eq_true.mpr ⟨t,q,decide_eq_true e⟩
def mR(cs:List Tm)(t:Tm):List Tm:=put cs t.1 ((look cs t.1).getD 0+t.2)
def bM(ts:List Tm):List Tm:=ts.foldl mR []
theorem zG(ts:List Tm)(t:Tm):bM (ts++[t])=mR (bM ts) t:=by
 unfold bM;rw[List.foldl_append];rfl
theorem lJ:∀(ts:List Tm),(bM ts).length<=ts.length/\((bM ts).map (·.1)).Nodup/\∀t∈bM ts,∃u∈ts,u.1=t.1:=by
 intro ts;have F:∀(ts:List Tm) (cs:List Tm),(cs.map (·.1)).Nodup->(ts.foldl mR cs).length<=cs.length+ts.length/\((ts.foldl mR cs).map (·.1)).Nodup/\∀t∈ts.foldl mR cs,(∃u∈ts,u.1=t.1)\/∃u∈cs,u.1=t.1:=by
  intro ts;induction ts with
  | nil=>intro cs h;exact⟨by simp,h,λt q=>.inr ⟨t,q,rfl⟩⟩
  | cons x ts ih=>
   intro cs h;obtain⟨a,b,c⟩:=ih (mR cs x) (yZ h);refine⟨?_,b,λt q=>?_⟩
   ·have:=p7 cs x.1 ((look cs x.1).getD 0+x.2)
    rw[Y8,UK];unfold mR at *
    lia
   ·rcases c t q with⟨u,B,e⟩|⟨u,B,e⟩
    ·exact .inl ⟨u,UG _ B,e⟩
    ·rcases B2 u B with z|⟨v,G,z⟩
     ·exact .inl ⟨x,UL ..,z.symm.trans e⟩
     ·exact .inr ⟨v,G,z.trans e⟩
 obtain⟨a,b,c⟩:=F ts [] List.nodup_nil;refine⟨by have:=a;simpa[bM]using this,b,λt q=>?_⟩;rcases c t q with h|⟨u,B,_⟩
 ·exact h
 ·cases B
def mQ(M:Int)(q:List Tm):List Tm:=(q.filter λt=>decide (t.2%M≠0)).map λt=>(t.1,t.2%M)
def TS(H H':Hp):Prop:=∀b xs,H b=some (.tup xs)->H' b=some (.tup xs)
theorem Same.ts(e:Same H H'):TS H H':=λb xs h=>e b _ h
theorem TS.trans(a:TS H H1)(b:TS H1 H2):TS H H2:=λc xs h=>b c xs (a c xs h)
theorem TS.put(h:H l=some u)(n:∀xs,u≠.tup xs):TS H (upd H l o):=λb xs q=>by
 rw[aC (λz=>by subst z;rw[h]at q;exact n xs (UF q))];exact q
noncomputable def hT(ns:List Int):Int:=reduceHash (Builtin.Tuple.tupleHashOf (ns.map hashInt))
end My
namespace My
open PySem PySem.Spec PyProof.Rows L2
noncomputable def SE(t:Bool):String:=if t=true then "tuple_iterator" else "list_iterator"
noncomputable def SH(t:Bool):String:=if t=true then "tuple" else "list"
def SIt(t:Bool)(h:Heap)(i l:Addr)(k:Nat):Prop:=∃o,h.get? i=some o/\o.cls=.type (SE t)/\o.data=.fields #[.ref l,.int k 0]
def SSq(t:Bool)(h:Heap)(l:Addr)(xs:Array Value):Prop:=∃o,h.get? l=some o/\o.cls=.type (SH t)/\∃n,o.data=.seq xs n
theorem SIt.to(x:SIt t h i l k)(e:∀o,h.get? i=some o->h'.get? i=some o):SIt t h' i l k:=let ⟨o,ho,r⟩:=x;⟨o,e o ho,r⟩
theorem SSq.to(x:SSq t h l xs)(e:∀o,h.get? l=some o->h'.get? l=some o):SSq t h' l xs:=let ⟨o,ho,r⟩:=x;⟨o,e o ho,r⟩
section
variable {prog:TJ}{w:World}{A:TX}{E:Value->S8->Prop}{s:S8}
theorem next_item(B:SIt t s.heap it l i)(W:SSq t s.heap l xs)(N:xs[i]?=some x)
  (U:∀h',SIt t h' it l (i+1)->UM it s.heap h'->Q x {s with heap:=h'}):wpAny (model prog w) A (ZP (.ref it)) Q E s:=by
 cases t with
 | false=>exact wpAny_nextOf_list_item (it:=it) (l:=l) (items:=xs) B W N U
 | true=>
  have q:s.heap.IsTupleIter it l i:=B;obtain⟨o,G,Y,F⟩:=B;obtain⟨ol,M,_,nl,J⟩:=W;unfold ZP;refine S7 (V9 (name:=WA "__next__") q.typeIs ZQ (VI ZQ q.typeIs zaH ?_ (zaI _)));show wpAny _ _ (field (.ref it) 0 >>= _) _ _ _;refine S7 (U0 G F (x:=.ref l) rfl ?_);show wpAny _ _ (if(TN l == UC)=true then _ else _) _ _ _;rw[if_neg (show ¬ ((TN l == UC)=true)from TZ)];show wpAny _ _ (field (.ref it) 1 >>= _) _ _ _;refine S7 (U0 G F (x:=.int i 0) rfl ?_);show wpAny _ _ (seqItems? (.ref l) >>= _) _ _ _;refine S7 (ZR M J ?_);simp only[U5,N];refine S7 (YG G F (by simp) (TB ⟨x,rfl,TB (U _ ⟨_,WS _ G (Obj.isFreed_of_fields (ZH F _)),(Obj.cls_mapFields ..).trans Y,by rw[ZH F];simp[UT]⟩ (W3 ..))⟩))
theorem next_end(M:A.handled=none)(B:SIt t s.heap it l i)(Y:SSq t s.heap l xs)(U:xs[i]?=none)
  (W:∀h' e,YH it s.heap h'->(∃o,h'.get? e=some o/\o.cls=.type "StopIteration")->E (.ref e) {s with heap:=h'}):wpAny (model prog w) A (ZP (.ref it)) Q E s:=by
 cases t with
 | false=>exact wpAny_nextOf_list_end (it:=it) (l:=l) (items:=xs) M B Y U W
 | true=>
  have q:s.heap.IsTupleIter it l i:=B;obtain⟨o,G,hc,J⟩:=B;obtain⟨ol,N,_,nl,F⟩:=Y;unfold ZP;refine S7 (V9 (name:=WA "__next__") q.typeIs ZQ (VI ZQ q.typeIs zaH ?_ (zaI _)));show wpAny _ _ (field (.ref it) 0 >>= _) _ _ _;refine S7 (U0 G J (x:=.ref l) rfl ?_);show wpAny _ _ (if(TN l == UC)=true then _ else _) _ _ _;rw[if_neg (show ¬ ((TN l == UC)=true)from TZ)];show wpAny _ _ (field (.ref it) 1 >>= _) _ _ _;refine S7 (U0 G J (x:=.int i 0) rfl ?_);show wpAny _ _ (seqItems? (.ref l) >>= _) _ _ _;refine S7 (ZR N F ?_);simp only[U5,U];refine S7 (X3 (S7 (YG G J (by simp) ?_)));show wpAny _ _ (newExc (.type "StopIteration") [] >>= _) _ _ _;refine S7 ?_;simp only[newExc,newTuple];refine S7 (U7 ?_ (by size_fits));refine S7 (m:=XR _ _) (ZI (a:=UC) (by first|rfl|(simp only[XR];rfl)) ?_);refine U7 ?_ (by size_fits);simp only[raiseNew]
  refine S7 (wpAny_handled ?_);first|rw[show A.in1.handled=none from M]|rw[M]
  refine S7 (TB (wpAny_throw ?_));exact W _ _ (((W3 ..).extBut.push _).push _) ⟨_,T8 _ rfl,rfl⟩
abbrev R5(t:Bool)(l:Addr):Obj:={cls:=.type (SE t),data:=.fields #[.ref l,.int 0 0]}
end
def II(K:S9)(t:Bool)(H:Hp)(a:Addr)(xs:List V):Prop:=if t=true then SqT K H a xs else SqL K H a xs
theorem vS(I:Inv X pins σ H s)(h:II X.K t H a xs):∃q:List Value,Vals xs q/\SSq t s.heap a q.toArray:=by
 cases t with
 | true=>
  obtain⟨q,r,p,_⟩:=I.tuple (show SqT X.K H a xs from h);exact⟨q,r,p⟩
 | false=>
  obtain⟨q,r,p,_⟩:=I.list (show SqL X.K H a xs from h);exact⟨q,r,PlainL.isList p⟩
theorem GA(I:Inv X pins σ H s)(h:II X.K t H a xs)(h':II X.K t H a ys):xs=ys:=by
 cases t with
 | true=>exact I.tuple_inj (show SqT X.K H a xs from h) h'
 | false=>exact I.list_inj (show SqL X.K H a xs from h) h'
theorem lD{pins:List (Addr×Obj)}{t':Nat}{fp:List Addr}(I:Inv X pins σ H s)(G:∀b∈fp,fH X pins H b)(k:∀b o,b∉fp->s.heap.get? b=some o->h'.get? b=some o):Inv X pins σ H {s with heap:=h',toks:=t'}:=by
 have F:∀b u,H b=some u->b∉fp:=λb u e z=>by rw[(G b z).1]at e;cases e
 refine I.call' (s':={s with heap:=h',toks:=t'}) (ch:=fp) rfl ⟨λb o e _ _ B=>k b o B e,λb o e _ _ B=>⟨o.slots,k b o B e⟩,λ_ _ _ n _=>n,λb o e B=>⟨o,k b o B e⟩,λ_ _ q=>q,λ_ _ _ q=>q,λb ps q=>⟨#[],by rw[q];simp⟩⟩ (λb u e=>?_) I.bare λb M=>?_
 ·refine(I.hok b u e).stay (λc v W q=>k c v ?_ q) (λ_ q=>q) λ_ _ q=>q
  rcases W with z|z
  ·rw[z];exact F b u e
  ·exact F c _ z
 ·obtain⟨_,N,_,Y,U,J⟩:=G b M
  exact⟨Y,N,U,J⟩
end My
namespace P
open PySem PySem.Spec PyProof.Rows L2
inductive D where
 | non|bl (b:Bool)|int (i:Int)|str (x:Str)|tup (l:List D)|lst (l:List D)
 | dK (l:List (Key×D))|dT (l:List (List Key×D))
abbrev Av:=Addr->Prop
section
variable (A:Av)(H:Hp)
mutual
/-- a heap bears a value that stays (the things that may still be written are in A) -/
inductive Rep:D->V->Prop where
 | non:Rep .non .non
 | bl (b:Bool):Rep (.bl b) (.bl b)
 | int (i:Int):Rep (.int i) (.int i)
 | str (x:Str):Rep (.str x) (.str x)
 | tup {l:List D} {a:Addr} {xs:List V} (h:H a=some (.tup xs)) (r:RepL l xs):Rep (.tup l) (.ref a)
 | lst {l:List D} {a:Addr} {xs:List V} (n:¬ A a) (h:Rd H a (.lst xs)) (r:RepL l xs):Rep (.lst l) (.ref a)
 | dK {l:List (Key×D)} {a:Addr} {xs:List (Key×V)} (n:¬ A a) (h:Rd H a (.dK xs)) (e:xs.map (·.1)=l.map (·.1)) (r:RepL (l.map (·.2)) (xs.map (·.2))):Rep (.dK l) (.ref a)
 | dT {l:List (List Key×D)} {a:Addr} {xs:List (List Key×V)} (n:¬ A a) (h:Rd H a (.dT xs)) (e:xs.map (·.1)=l.map (·.1)) (r:RepL (l.map (·.2)) (xs.map (·.2))):Rep (.dT l) (.ref a)
inductive RepL:List D->List V->Prop where
 | nil:RepL [] []
 | cons {d:D} {v:V} {ds:List D} {vs:List V} (h:Rep d v) (t:RepL ds vs):RepL (d::ds) (v::vs)
end
inductive RepB:D->V->Prop where
 | of {d:D} {v:V} (h:Rep A H d v):RepB d v
 | lst {l:List D} {a:Addr} {xs:List V} (h:Rd H a (.lst xs)) (r:RepL A H l xs):RepB (.lst l) (.ref a)
 | dK {l:List (Key×D)} {a:Addr} {xs:List (Key×V)} (h:Rd H a (.dK xs)) (e:xs.map (·.1)=l.map (·.1)) (r:RepL A H (l.map (·.2)) (xs.map (·.2))):RepB (.dK l) (.ref a)
 | dT {l:List (List Key×D)} {a:Addr} {xs:List (List Key×V)} (h:Rd H a (.dT xs)) (e:xs.map (·.1)=l.map (·.1)) (r:RepL A H (l.map (·.2)) (xs.map (·.2))):RepB (.dT l) (.ref a)
inductive Own:D->Addr->Prop where
 | lst {l:List D} {a:Addr} {xs:List V} (h:H a=some (.lst xs)) (r:RepL A H l xs):Own (.lst l) a
 | dK {l:List (Key×D)} {a:Addr} {xs:List (Key×V)} (h:H a=some (.dK xs)) (e:xs.map (·.1)=l.map (·.1)) (r:RepL A H (l.map (·.2)) (xs.map (·.2))):Own (.dK l) a
 | dT {l:List (List Key×D)} {a:Addr} {xs:List (List Key×V)} (h:H a=some (.dT xs)) (e:xs.map (·.1)=l.map (·.1)) (r:RepL A H (l.map (·.2)) (xs.map (·.2))):Own (.dT l) a
end
noncomputable def Kp:HO->Prop
 | .tup _=>True | .lst _=>True|_=>False
structure Ext(A:Av)(H H':Hp):Prop where
 rd:∀b u,Rd H b u->Rd H' b u
 kp:∀b u,Kp u->H b=some u->H' b=some u
 ow:∀b u,A b->H b=some u->H' b=some u
 fz:∀b o u,H b=some (.frz o u)->H' b=some (.frz o u)
theorem Ext.refl(A:Av)(H:Hp):Ext A H H:=⟨λ_ _ h=>h,λ_ _ _ h=>h,λ_ _ _ h=>h,λ_ _ _ h=>h⟩
theorem Ext.trans(a:Ext A H H1)(b:Ext A H1 H2):Ext A H H2:=
 ⟨λc u h=>b.rd c u (a.rd c u h),λc u k h=>b.kp c u k (a.kp c u k h),λc u n h=>b.ow c u n (a.ow c u n h),λc o u h=>b.fz c o u (a.fz c o u h)⟩
theorem Ext.mono(h:Ext A H H')(s:∀a,A' a->A a):Ext A' H H':=⟨h.rd,h.kp,λb u n e=>h.ow b u (s b n) e,h.fz⟩
theorem Ext.same(h:Same H H'):Ext A H H':=
 ⟨λb u r=>by rcases r with r|⟨o,r⟩;exact .inl (h _ _ r);exact .inr ⟨o,h _ _ r⟩,λb u _ r=>h _ _ r,λb u _ r=>h _ _ r,λb o u r=>h _ _ r⟩
theorem Ext.tp(x:Ext A H H')(b:Addr)(xs:List V)(h:H b=some (.tup xs)):H' b=some (.tup xs):=x.kp b _ trivial h
theorem Ext.new(h:H p=none):Ext A H (upd H p o):=Ext.same (My.sP h)
mutual
theorem Rep.ext(x:Ext A H H'):Rep A H d v->Rep A H' d v
 | .non=>.non
 | .bl b=>.bl b
 | .int i=>.int i
 | .str s=>.str s
 | .tup h r=>.tup (x.tp _ _ h) (RepL.ext x r)
 | .lst n h r=>.lst n (x.rd _ _ h) (RepL.ext x r)
 | .dK n h e r=>.dK n (x.rd _ _ h) e (RepL.ext x r)
 | .dT n h e r=>.dT n (x.rd _ _ h) e (RepL.ext x r)
theorem RepL.ext(x:Ext A H H'):RepL A H ds vs->RepL A H' ds vs
 | .nil=>.nil
 | .cons h t=>.cons (Rep.ext x h) (RepL.ext x t)
end
theorem RepB.ext(x:Ext A H H'):RepB A H d v->RepB A H' d v
 | .of h=>.of (h.ext x)
 | .lst h r=>.lst (x.rd _ _ h) (r.ext x)
 | .dK h e r=>.dK (x.rd _ _ h) e (r.ext x)
 | .dT h e r=>.dT (x.rd _ _ h) e (r.ext x)
theorem Own.ext(x:Ext A H H')(q:A a):Own A H d a->Own A H' d a
 | .lst h r=>.lst (x.ow _ _ q h) (r.ext x)
 | .dK h e r=>.dK (x.ow _ _ q h) e (r.ext x)
 | .dT h e r=>.dT (x.ow _ _ q h) e (r.ext x)
theorem Own.b:Own A H d a->RepB A H d (.ref a)
 | .lst h r=>.lst (.inl h) r
 | .dK h e r=>.dK (.inl h) e r
 | .dT h e r=>.dT (.inl h) e r
mutual
/-- avoid other things: those that were not there, or fewer -/
theorem Rep.av(x:∀a,A' a->A a\/H a=none):Rep A H d v->Rep A' H d v
 | .non=>.non
 | .bl b=>.bl b
 | .int i=>.int i
 | .str s=>.str s
 | .tup h r=>.tup h (RepL.av x r)
 | .lst n h r=>.lst (λz=>(x _ z).elim n λz=>by rcases h with h|⟨o,h⟩ <;> (rw[z]at h;cases h)) h (RepL.av x r)
 | .dK n h e r=>.dK (λz=>(x _ z).elim n λz=>by rcases h with h|⟨o,h⟩ <;> (rw[z]at h;cases h)) h e (RepL.av x r)
 | .dT n h e r=>.dT (λz=>(x _ z).elim n λz=>by rcases h with h|⟨o,h⟩ <;> (rw[z]at h;cases h)) h e (RepL.av x r)
theorem RepL.av(x:∀a,A' a->A a\/H a=none):RepL A H ds vs->RepL A' H ds vs
 | .nil=>.nil
 | .cons h t=>.cons (Rep.av x h) (RepL.av x t)
end
noncomputable def NM:HO->Prop
 | .lst _=>True | .dK _=>True | .dT _=>True|_=>False
theorem c7(n:b≠a)(h:Rd H b u):Rd (upd H a o) b u:=by
 rcases h with h|⟨x,h⟩
 ·exact .inl (by rw[aC n];exact h)
 ·exact .inr ⟨x,by rw[aC n];exact h⟩
mutual
theorem Rep.put(q:A a)(B:H a=some u)(F:NM u):Rep A H d v->Rep A (upd H a o) d v
 | .non=>.non
 | .bl b=>.bl b
 | .int i=>.int i
 | .str s=>.str s
 | .tup (a:=b) h r=>.tup (by rw[aC (λz=>by subst z;rw[B]at h;cases h;exact F)];exact h) (RepL.put q B F r)
 | .lst (a:=b) n h r=>.lst n (c7 (λz=>n (by rw[z];exact q)) h) (RepL.put q B F r)
 | .dK (a:=b) n h e r=>.dK n (c7 (λz=>n (by rw[z];exact q)) h) e (RepL.put q B F r)
 | .dT (a:=b) n h e r=>.dT n (c7 (λz=>n (by rw[z];exact q)) h) e (RepL.put q B F r)
theorem RepL.put(F:A a)(q:H a=some u)(B:NM u):RepL A H ds vs->RepL A (upd H a o) ds vs
 | .nil=>.nil
 | .cons h t=>.cons (Rep.put F q B h) (RepL.put F q B t)
end
theorem Own.put{A:Av}{H:Hp}{a b:Addr}{o u:HO}(G:A a)(q:H a=some u)(B:NM u)(F:b≠a){d:D}:Own A H d b->Own A (upd H a o) d b
 | .lst h r=>.lst (by rw[aC F];exact h) (r.put G q B)
 | .dK h e r=>.dK (by rw[aC F];exact h) e (r.put G q B)
 | .dT h e r=>.dT (by rw[aC F];exact h) e (r.put G q B)
theorem Own.av(x:∀a,A' a->A a\/H a=none):Own A H d a->Own A' H d a
 | .lst h r=>.lst h (r.av x)
 | .dK h e r=>.dK h e (r.av x)
 | .dT h e r=>.dT h e (r.av x)
theorem Own.rep(n:¬ A a):Own A H d a->Rep A H d (.ref a)
 | .lst h r=>.lst n (.inl h) r
 | .dK h e r=>.dK n (.inl h) e r
 | .dT h e r=>.dT n (.inl h) e r
section
variable {A:Av}{H:Hp}
theorem RepL.length:∀ {ds:List D} {vs:List V},RepL A H ds vs->vs.length=ds.length
 | _,_,.nil=>rfl
 | _,_,.cons _ t=>by rw[UK,UK,RepL.length t]
theorem RepL.get:∀ {ds:List D} {vs:List V} {i:Nat} {v:V},RepL A H ds vs->vs[i]?=some v->∃d,ds[i]?=some d/\Rep A H d v
 | _,_,i,v,.nil,e=>by simp at e
 | _,_,0,v,.cons h t,e=>by simp at e;subst e;exact⟨_,rfl,h⟩
 | _,_,i+1,v,.cons h t,e=>RepL.get (i:=i) t (by simpa using e)
theorem RepL.get':∀ {ds:List D} {vs:List V} {i:Nat} {d:D},RepL A H ds vs->ds[i]?=some d->∃v,vs[i]?=some v/\Rep A H d v
 | _,_,i,v,.nil,e=>by simp at e
 | _,_,0,v,.cons h t,e=>by simp at e;subst e;exact⟨_,rfl,h⟩
 | _,_,i+1,v,.cons h t,e=>RepL.get' (i:=i) t (by simpa using e)
theorem RepL.append:∀ {ds es:List D} {vs us:List V},RepL A H ds vs->RepL A H es us->RepL A H (ds++es) (vs++us)
 | _,_,_,_,.nil,s=>s
 | _,_,_,_,.cons h t,s=>.cons h (RepL.append t s)
theorem RepL.take:∀ {ds:List D} {vs:List V} (n:Nat),RepL A H ds vs->RepL A H (ds.take n) (vs.take n)
 | _,_,0,_=>by simp;exact .nil
 | _,_,n+1,.nil=>.nil
 | _,_,n+1,.cons h t=>.cons h (RepL.take n t)
theorem RepL.drop:∀ {ds:List D} {vs:List V} (n:Nat),RepL A H ds vs->RepL A H (ds.drop n) (vs.drop n)
 | _,_,0,r=>r
 | _,_,n+1,.nil=>.nil
 | _,_,n+1,.cons h t=>RepL.drop n t
theorem RepL.set:∀ {ds:List D} {vs:List V} {d:D} {v:V} (n:Nat),Rep A H d v->RepL A H ds vs->RepL A H (ds.set n d) (vs.set n v)
 | _,_,_,_,_,_,.nil=>.nil
 | _,_,_,_,0,r,.cons h t=>.cons r t
 | _,_,_,_,n+1,r,.cons h t=>.cons h (RepL.set n r t)
theorem Rep.b(h:Rep A H d v):RepB A H d v:=.of h
theorem RepB.int_inv(h:RepB A H (.int i) v):v=.int i:=by cases h with|of h=>cases h;rfl
theorem RepB.bl_inv(h:RepB A H (.bl i) v):v=.bl i:=by cases h with|of h=>cases h;rfl
theorem RepB.str_inv(h:RepB A H (.str i) v):v=.str i:=by cases h with|of h=>cases h;rfl
theorem RepB.non_inv(h:RepB A H .non v):v=.non:=by cases h with|of h=>cases h;rfl
theorem RepB.tup_inv(h:RepB A H (.tup l) v):∃a xs,v=.ref a/\H a=some (.tup xs)/\RepL A H l xs:=by
 cases h with|of h=>cases h with|tup h r=>exact⟨_,_,rfl,h,r⟩
theorem RepB.lst_inv(h:RepB A H (.lst l) v):∃a xs,v=.ref a/\Rd H a (.lst xs)/\RepL A H l xs:=by
 cases h with
 | of h=>cases h with|lst n h r=>exact⟨_,_,rfl,h,r⟩
 | lst h r=>exact⟨_,_,rfl,h,r⟩
theorem RepB.dK_inv(h:RepB A H (.dK l) v):∃a xs,v=.ref a/\Rd H a (.dK xs)/\xs.map (·.1)=l.map (·.1)/\RepL A H (l.map (·.2)) (xs.map (·.2)):=by
 cases h with
 | of h=>cases h with|dK n h e r=>exact⟨_,_,rfl,h,e,r⟩
 | dK h e r=>exact⟨_,_,rfl,h,e,r⟩
theorem RepB.dT_inv(h:RepB A H (.dT l) v):∃a xs,v=.ref a/\Rd H a (.dT xs)/\xs.map (·.1)=l.map (·.1)/\RepL A H (l.map (·.2)) (xs.map (·.2)):=by
 cases h with
 | of h=>cases h with|dT n h e r=>exact⟨_,_,rfl,h,e,r⟩
 | dT h e r=>exact⟨_,_,rfl,h,e,r⟩
end
abbrev bJ:=List (Option D)
inductive Fact where
 | rep (d:D) (v:V)|fz (a:Addr) (o:Obj) (u:HO)
def Fact.Holds(A:Av)(H:Hp):Fact->Prop
 | .rep d v=>Rep A H d v
 | .fz a o u=>H a=some (.frz o u)
theorem Fact.ext(x:Ext A H H'):∀ {p:Fact},p.Holds A H->p.Holds A H'
 | .rep _ _,h=>Rep.ext x h
 | .fz _ _ _,h=>x.fz _ _ _ h
theorem Fact.av(x:∀a,A' a->A a\/H a=none):∀ {p:Fact},p.Holds A H->p.Holds A' H
 | .rep _ _,h=>Rep.av x h
 | .fz _ _ _,h=>h
theorem Fact.put(G:A a)(B:H a=some u)(F:NM u):∀ {p:Fact},p.Holds A H->p.Holds A (upd H a o)
 | .rep _ _,h=>Rep.put G B F h
 | .fz b q w,h=>by
  have h:H b=some (.frz q w):=h;show upd H a o b=some (.frz q w);rw[aC (λz=>by subst z;rw[B]at h;cases h;exact F)];exact h
structure ST(H0:Hp)(A0 A:Av)(E:List Fact)(O:List Nat)(σ:L2.St)(H:Hp)(ρ:bJ):Prop where
 ex:Ext A0 H0 H
 sub:∀a,A0 a->A a
 l0:∀a,A0 a->H0 a≠none
 live:∀a,A a->H a≠none
 len:σ.length=ρ.length
 val:∀i d,ρ[i]?=some (some d)->i∉O->∃v,σ[i]?=some (some v)/\Rep A H d v
 own:∀i d,ρ[i]?=some (some d)->i∈O->∃a,σ[i]?=some (some (.ref a))/\A a/\H0 a=none/\Own A H d a
 inj:∀i j d d' a,i∈O->j∈O->ρ[i]?=some (some d)->ρ[j]?=some (some d')->σ[i]?=some (some (.ref a))->σ[j]?=some (some (.ref a))->i=j
 ext:∀p∈E,p.Holds A H
section
variable {H0:Hp}{A0 A:Av}{E:List Fact}{O:List Nat}{σ:L2.St}{H H':Hp}{ρ:bJ}
theorem ST.mono(s:ST H0 A0 A E O σ H ρ)(x:Ext A H H'):ST H0 A0 A E O σ H' ρ where
 ex:=s.ex.trans (x.mono s.sub)
 sub:=s.sub
 l0:=s.l0
 live:=λa q=>by
  have:=s.live a q;cases e:H a with
  | none=>exact absurd e this
  | some u=>rw[x.ow a u q e];exact λz=>nomatch z
 len:=s.len
 val:=λi d h n=>by obtain⟨v,h1,h2⟩:=s.val i d h n;exact⟨v,h1,h2.ext x⟩
 own:=λi d h n=>by obtain⟨a,h1,h2,F,B⟩:=s.own i d h n;exact⟨a,h1,h2,F,B.ext x h2⟩
 inj:=s.inj
 ext:=λp G=>Fact.ext x (s.ext p G)
theorem ST.more(s:ST H0 A0 A E O σ H ρ)(h:Rep A H d v):ST H0 A0 A (.rep d v::E) O σ H ρ:=
 {s with ext:=λp q=>by rcases List.mem_cons.mp q with e|e;rw[e];exact h;exact s.ext p e}
theorem ST.less(s:ST H0 A0 A E O σ H ρ)(h:∀p∈E',p∈E):ST H0 A0 A E' O σ H ρ:=
 {s with ext:=λp q=>s.ext p (h p q)}
theorem bV(h:(ρ.set i o)[j]?=some (some d)):(j=i/\o=some d/\i<ρ.length)\/(j≠i/\ρ[j]?=some (some d)):=by
 rw[List.getElem?_set]at h;by_cases e:i=j
 ·rw[if_pos e]at h
  by_cases l:i<ρ.length
  ·rw[if_pos l]at h
   exact .inl ⟨e.symm,UF h,l⟩
  ·rw[if_neg l]at h;cases h
 ·rw[if_neg e]at h
  exact .inr ⟨λz=>e z.symm,h⟩
theorem sig_set(h:i<σ.length):(σ.set i (some v))[i]?=some (some v):=by simp[h]
theorem c4(h:j≠i):(σ.set i (some v))[j]?=σ[j]?:=by rw[YS (UB h)]
theorem ST.put(s:ST H0 A0 A E O σ H ρ)(h:Rep A H d v)(n:i∉O):ST H0 A0 A E O (σ.set i (some v)) H (ρ.set i (some d)) where
 ex:=s.ex
 sub:=s.sub
 l0:=s.l0
 live:=s.live
 len:=by simp[s.len]
 val:=λj d' h' B=>by
  rcases bV h' with⟨e,q,l⟩|⟨e,q⟩
  ·subst e;cases q;exact⟨v,sig_set (by rw[s.len];exact l),h⟩
  ·obtain⟨w,h1,h2⟩:=s.val j d' q B;exact⟨w,by rw[c4 e];exact h1,h2⟩
 own:=λj d' h' B=>by
  rcases bV h' with⟨e,q,l⟩|⟨e,q⟩
  ·subst e;exact absurd B n
  ·obtain⟨w,h1,h2⟩:=s.own j d' q B;exact⟨w,by rw[c4 e];exact h1,h2⟩
 inj:=λj k Y W a M U h1 h2 J F=>by
  have N:j≠i:=λz=>n (z ▸ M)
  have G:k≠i:=λz=>n (z ▸ U)
  rcases bV h1 with⟨e,_⟩|⟨_,h1⟩
  ·exact absurd e N
  rcases bV h2 with⟨e,_⟩|⟨_,h2⟩
  ·exact absurd e G
  exact s.inj j k Y W a M U h1 h2 (by rw[c4 N]at J;exact J) (by rw[c4 G]at F;exact F)
 ext:=s.ext
theorem ST.shut(s:ST H0 A0 A E O σ H ρ)(h:∀i,i∈O'->i∈O):∃A',ST H0 A0 A' E O' σ H ρ:=by
 let F:Av:=λa=>∃i d,i∈O/\i∉O'/\ρ[i]?=some (some d)/\σ[i]?=some (some (.ref a))
 have cut:∀a,(A a/\¬ F a)->A a\/H a=none:=λa z=>.inl z.1
 refine⟨λa=>A a/\¬ F a,s.ex,λa M=>⟨s.sub a M,?_⟩,s.l0,λa M=>s.live a M.1,s.len,λi d hi n=>?_,λi d hi n=>?_,λi j d d' a hi Y=>s.inj i j d d' a (h i hi) (h j Y),λp hp=>Fact.av cut (s.ext p hp)⟩
 ·rintro⟨i,d,h1,h2,U,N⟩
  obtain⟨b,q,B,J,G⟩:=s.own i d U h1;rw[N]at q;cases q;exact s.l0 a M J
 ·by_cases W:i∈O
  ·obtain⟨a,q,B,J,G⟩:=s.own i d hi W
   exact⟨.ref a,q,(G.av cut).rep λz=>z.2 ⟨i,d,W,n,hi,q⟩⟩
  ·obtain⟨v,q,B⟩:=s.val i d hi W
   exact⟨v,q,B.av cut⟩
 ·obtain⟨a,q,B,J,G⟩:=s.own i d hi (h i n)
  refine⟨a,q,⟨B,?_⟩,J,G.av cut⟩;rintro⟨j,d',h1,h2,U,N⟩;have:=s.inj i j d d' a (h i n) h1 hi U q N;subst this;exact h2 n
end
abbrev Ev:=bJ->Option D
abbrev Bv:=bJ->Option Bool
abbrev Lv:=bJ->Option (List D)
abbrev RR:=Av->Hp->D->V->Prop
inductive tD(R:RR)(O:List Nat)(f:Ev)(σ:L2.St)(H:Hp)(Q:VK):Prop
 | mk (H0:Hp) (A0 A:Av) (E:List Fact) (ρ:bJ) (d:D) (st:ST H0 A0 A E O σ H ρ) (e:f ρ=some d) (q:∀v H',Ext A H H'->R A H' d v->Q v H'):tD R O f σ H Q
inductive tDT(O:List Nat)(g:Bv)(σ:L2.St)(H:Hp)(Q:Bool->Hp->Prop):Prop
 | mk (H0:Hp) (A0 A:Av) (E:List Fact) (ρ:bJ) (b:Bool) (st:ST H0 A0 A E O σ H ρ) (e:g ρ=some b) (q:∀H',Ext A H H'->Q b H'):tDT O g σ H Q
def PD(X:Cx)(O:List Nat)(e:Expr)(f:Ev):Prop:=PE X e (tD Rep O f)
def PB(X:Cx)(O:List Nat)(e:Expr)(f:Ev):Prop:=PE X e (tD RepB O f)
def i6(X:Cx)(O:List Nat)(e:Expr)(g:Bv):Prop:=PT X e (tDT O g)
def PDW(X:Cx)(O:List Nat)(e:Expr)(g:Bv):Prop:=PW X e (tDT O g)
theorem PDW.pt(h:PDW X O e g):i6 X O e g:=PW.pt h
inductive RL(R:RR)(A:Av)(H:Hp):List D->List V->Prop where
 | nil:RL R A H [] []
 | cons {d v ds vs} (h:R A H d v) (t:RL R A H ds vs):RL R A H (d::ds) (v::vs)
inductive tDA(R:RR)(O:List Nat)(f:Lv)(σ:L2.St)(H:Hp)(Q:List V->Hp->Prop):Prop
 | mk (H0:Hp) (A0 A:Av) (E:List Fact) (ρ:bJ) (ds:List D) (st:ST H0 A0 A E O σ H ρ) (e:f ρ=some ds) (q:∀vs H',Ext A H H'->RL R A H' ds vs->Q vs H'):tDA R O f σ H Q
def pE(X:Cx)(O:List Nat)(es:List Expr)(f:Lv):Prop:=PA X es (tDA Rep O f)
def mU(X:Cx)(O:List Nat)(es:List Expr)(f:Lv):Prop:=PA X es (tDA RepB O f)
section
variable {X:Cx}{O:List Nat}
theorem PE.mono(h:PE X e t)(x:∀σ H Q,t' σ H Q->t σ H Q):PE X e t':=λpins s σ H Q I w=>h pins s σ H Q I (x σ H Q w)
theorem PT.mono(h:PT X e t)(x:∀σ H Q,t' σ H Q->t σ H Q):PT X e t':=λpins s σ H Q I w=>h pins s σ H Q I (x σ H Q w)
theorem PW.mono(h:PW X e t)(x:∀σ H Q,t' σ H Q->t σ H Q):PW X e t':=λq pins s σ H Q I w=>h q pins s σ H Q I (x σ H Q w)
theorem PA.mono(h:PA X es t)(x:∀σ H Q,t' σ H Q->t σ H Q):PA X es t':=λpos pins s σ H Q I w=>h pos pins s σ H Q I (x σ H Q w)
theorem PD.b{e:Expr}{f:Ev}(h:PD X O e f):PB X O e f:=PE.mono h λσ H Q ⟨H0,A0,A,E,ρ,d,st,e,q⟩=>⟨H0,A0,A,E,ρ,d,st,e,λv H' x r=>q v H' x (.of r)⟩
theorem RL.toL:∀ {ds:List D} {vs:List V},RL Rep A H ds vs->RepL A H ds vs
 | _,_,.nil=>.nil
 | _,_,.cons h t=>.cons h (RL.toL t)
def aD(i:Nat):Ev:=λρ=>(ρ[i]?).join
def eC(d:D):Ev:=λ_=>some d
theorem aV{ρ:bJ}{i:Nat}{d:D}(h:(ρ[i]?).join=some d):ρ[i]?=some (some d):=by
 cases e:ρ[i]? with
 | none=>rw[e]at h;cases h
 | some o=>rw[e]at h;cases o with
  | none=>cases h
  | some x=>cases h;rfl
theorem KM{e:Expr}(i:Nat)(h:PE X e (i4 i))(n:i∉O):PD X O e (aD i):=PE.mono h <| by
 rintro σ H Q ⟨H0,A0,A,E,ρ,d,st,e,q⟩;obtain⟨v,B,r⟩:=st.val i d (aV e) n;exact⟨v,B,q v H (Ext.refl _ _) r⟩
theorem JN{e:Expr}(i:Nat)(h:PE X e (i4 i)):PB X O e (aD i):=PE.mono h <| by
 rintro σ H Q ⟨H0,A0,A,E,ρ,d,st,e,q⟩;by_cases n:i∈O
 ·obtain⟨a,B,_,_,r⟩:=st.own i d (aV e) n
  exact⟨_,B,q _ H (Ext.refl _ _) r.b⟩
 ·obtain⟨v,B,r⟩:=st.val i d (aV e) n
  exact⟨v,B,q v H (Ext.refl _ _) (.of r)⟩
theorem CW{i j pos}:PD X O (.Constant (.int i) j pos) (eC (.int i)):=PE.mono JU λσ H Q ⟨H0,A0,A,E,ρ,d,st,e,q⟩=>by cases e;exact q _ H (Ext.refl _ _) (.int _)
theorem OX{i j pos}:PD X O (.Constant (.bool i) j pos) (eC (.bl i)):=PE.mono OW λσ H Q ⟨H0,A0,A,E,ρ,d,st,e,q⟩=>by cases e;exact q _ H (Ext.refl _ _) (.bl _)
theorem LI{i j pos}:PD X O (.Constant (.str i) j pos) (eC (.str i)):=PE.mono KU λσ H Q ⟨H0,A0,A,E,ρ,d,st,e,q⟩=>by cases e;exact q _ H (Ext.refl _ _) (.str _)
def Live(A:Av)(H:Hp):Prop:=∀a,A a->H a≠none
theorem Live.ext(l:Live A H)(x:Ext A H H'):Live A H':=λa q=>by
 cases e:H a with
 | none=>exact absurd e (l a q)
 | some u=>rw[x.ow a u q e];exact λz=>nomatch z
inductive rD(g:D->D->Option D)(x y:V)(H:Hp)(Q:VK):Prop
 | mk (A:Av) (dx dy d:D) (lv:Live A H) (rx:RepB A H dx x) (ry:RepB A H dy y) (e:g dx dy=some d) (q:∀v H',Ext A H H'->Rep A H' d v->Q v H'):rD g x y H Q
def eI(X:Cx)(f:Value->Value->Sem Value)(g:D->D->Option D):Prop:=OpR X f (rD g)
theorem OpR.mono(h:OpR X f r)(x:∀a b H Q,r' a b H Q->r a b H Q):OpR X f r':=λpins s σ H a b v u Q I B q w=>h pins s σ H a b v u Q I B q (x a b H Q w)
def a8(g:D->D->Option D)(q B:Ev):Ev:=λρ=>(q ρ).bind λx=>(B ρ).bind λy=>g x y
theorem bind_some{q B:Type}{o:Option q}{f:q->Option B}{b:B}(h:o.bind f=some b):∃a,o=some a/\f a=some b:=by
 cases o with
 | none=>cases h
 | some a=>exact⟨a,rfl,h⟩
theorem qM{g:D->D->Option D}{G J:Ev}{σ:L2.St}{H:Hp}{Q:VK}(h:tD Rep O (a8 g G J) σ H Q):NS (rD g) (tD RepB O G) (tD RepB O J) σ H Q:=by
 obtain⟨H0,A0,A,E,ρ,d,st,e,q⟩:=h;obtain⟨x,ex,e⟩:=bind_some e;obtain⟨y,U,e⟩:=bind_some e;exact⟨H0,A0,A,E,ρ,x,st,ex,λv H1 B Y=>⟨H0,A0,A,E,ρ,y,st.mono B,U,λw H2 F W=>⟨A,x,y,d,(st.mono (B.trans F)).live,Y.ext F,W,e,λz M x3 N=>q z M ((B.trans F).trans x3) N⟩⟩⟩
theorem xW(q:eI X (UP op) g)(F:PB X O a fa)(B:PB X O b fb):PD X O (.BinOp a op b pos) (a8 g fa fb):=
 PE.mono (IM q F B) λσ H Q h=>qM h
theorem JO(q:eI X (TY op) g)(F:PB X O a fa)(B:PB X O b fb)(G:WG op b=false):PD X O (.Compare a [op] [b] pos) (a8 g fa fb):=
 PE.mono (E3 q F B G) λσ H Q h=>qM h
noncomputable def v9:D->Option Bool
 | .bl b=>some b
 | _=>none
theorem dQ(h:v9 d=some b):d=.bl b:=by
 cases d <;> cases h;rfl
def fW(f:Ev):Bv:=λρ=>(f ρ).bind v9
theorem eU{f:Ev}{σ:L2.St}{H:Hp}{Q:Bool->Hp->Prop}(h:tDT O (fW f) σ H Q):tD Rep O f σ H λx H'=>∃k,x=.bl k/\Q k H':=by
 obtain⟨H0,A0,A,E,ρ,b,st,e,q⟩:=h;obtain⟨x,ex,e⟩:=bind_some e;rw[dQ e]at ex;exact⟨H0,A0,A,E,ρ,_,st,ex,λv H1 B F=>⟨b,RepB.bl_inv (.of F),q H1 B⟩⟩
theorem pW(q:eI X (TY op) g)(F:PB X O a fa)(B:PB X O b fb)(G:WG op b=false):i6 X O (.Compare a [op] [b] pos) (fW (a8 g fa fb)):=
 PT.mono (w9 q F B G) λσ H Q h=>qM (eU h)
theorem GQ(h:PD X O e f)(B:∀q,isTrue e X.env q=(do let v <- q;standAt e.pos;holding [v] (truthy v)):=by intro _;rfl):i6 X O e (fW f):=
 PT.mono (LO h B) λσ H Q h=>eU h
def vW(g:Bv):Bv:=λρ=>(g ρ).map (!·)
def qZ(g h:Bv):Bv:=λρ=>(g ρ).bind λb=>if b=true then h ρ else some false
def NI(g h:Bv):Bv:=λρ=>(g ρ).bind λb=>if b=true then some true else h ρ
theorem HM(h:i6 X O a g):i6 X O (.UnaryOp .Not a pos) (vW g):=PT.mono (MA h) <| by
 rintro σ H Q ⟨H0,A0,A,E,ρ,b,st,e,q⟩;unfold vW at e;cases z:g ρ with
 | none=>rw[z]at e;cases e
 | some c=>rw[z]at e;cases e;exact⟨H0,A0,A,E,ρ,c,st,z,q⟩
theorem A8(h:i6 X O a g):PDW X O (.BoolOp .And [a] pos) g:=FN h
theorem HC(h:i6 X O a g):PDW X O (.BoolOp .Or [a] pos) g:=K7 h
theorem GD{a b:Expr}{rest:List Expr}{pos:Pos}{g k:Bv}(G:i6 X O a g)(F:PDW X O (.BoolOp .And (b::rest) pos) k):PDW X O (.BoolOp .And (a::b::rest) pos) (qZ g k):=
 PW.mono (JP G F) <| by
  rintro σ H Q ⟨H0,A0,A,E,ρ,b,st,e,q⟩;obtain⟨x,ex,e⟩:=bind_some e;refine⟨H0,A0,A,E,ρ,x,st,ex,λH1 B=>?_⟩;cases x with
  | false=>rw[if_neg TZ]at e ⊢;cases e;exact q H1 B
  | true=>rw[if_pos rfl]at e ⊢;exact⟨H0,A0,A,E,ρ,b,st.mono B,e,λH2 J=>q H2 (B.trans J)⟩
theorem L4{a b:Expr}{rest:List Expr}{pos:Pos}{g k:Bv}(G:i6 X O a g)(F:PDW X O (.BoolOp .Or (b::rest) pos) k):PDW X O (.BoolOp .Or (a::b::rest) pos) (NI g k):=
 PW.mono (NT G F) <| by
  rintro σ H Q ⟨H0,A0,A,E,ρ,b,st,e,q⟩;obtain⟨x,ex,e⟩:=bind_some e;refine⟨H0,A0,A,E,ρ,x,st,ex,λH1 B=>?_⟩;cases x with
  | true=>rw[if_pos rfl]at e ⊢;cases e;exact q H1 B
  | false=>rw[if_neg TZ]at e ⊢;exact⟨H0,A0,A,E,ρ,b,st.mono B,e,λH2 J=>q H2 (B.trans J)⟩
def PC(f g:Ev):Ev:=λρ=>(f ρ).bind λx=>(v9 x).bind λb=>if b=true then g ρ else some (.bl false)
def PN(f:Ev):Ev:=λρ=>(f ρ).bind λx=>(v9 x).map λb=>.bl (!b)
theorem L9{op}(h:PD X O a f):PD X O (.BoolOp op [a] pos) f:=MJ h
theorem LC{a b:Expr}{rest:List Expr}{pos:Pos}{f g:Ev}(N:PD X O a f)(F:PD X O (.BoolOp .And (b::rest) pos) g):PD X O (.BoolOp .And (a::b::rest) pos) (PC f g):=
 PE.mono (J0 N F) <| by
  rintro σ H Q ⟨H0,A0,A,E,ρ,d,st,e,q⟩;obtain⟨x,ex,e⟩:=bind_some e;obtain⟨b,G,e⟩:=bind_some e;rw[dQ G]at ex;refine⟨H0,A0,A,E,ρ,_,st,ex,λv H1 B M=>⟨b,RepB.bl_inv (.of M),?_⟩⟩;cases b with
  | false=>rw[if_neg TZ]at e ⊢;cases e;exact q _ H1 B (.bl _)
  | true=>rw[if_pos rfl]at e ⊢;exact⟨H0,A0,A,E,ρ,d,st.mono B,e,λw H2 J=>q w H2 (B.trans J)⟩
theorem L0{a:Expr}{pos:Pos}{f:Ev}(G:PD X O a f):PD X O (.UnaryOp .Not a pos) (PN f):=
 PE.mono (LD G) <| by
  rintro σ H Q ⟨H0,A0,A,E,ρ,d,st,e,q⟩;obtain⟨x,ex,e⟩:=bind_some e;cases z:v9 x with
  | none=>rw[z]at e;cases e
  | some b=>
   rw[z]at e;cases e;rw[dQ z]at ex;exact⟨H0,A0,A,E,ρ,_,st,ex,λv H1 B F=>⟨b,RepB.bl_inv (.of F),q _ H1 B (.bl _)⟩⟩
def d8(g g':D->D->Option D)(B F q:Ev):Ev:=λρ=>(B ρ).bind λx=>(F ρ).bind λy=>(g x y).bind λz=>(v9 z).bind λb=>if b=true then(q ρ).bind λw=>g' y w else some (.bl false)
end
section
variable {X:Cx}{O:List Nat}
theorem oO(h:tD Rep O (d8 g g' fa fb fc) σ H Q):vL (rD g) (rD g') (tD RepB O fa) (tD RepB O fb) (tD RepB O fc) σ H Q:=by
 obtain⟨H0,A0,A,E,ρ,d,st,e,q⟩:=h;obtain⟨x,ex,e⟩:=bind_some e;obtain⟨y,ey,e⟩:=bind_some e;obtain⟨z,M,e⟩:=bind_some e;obtain⟨b,eb,e⟩:=bind_some e;rw[dQ eb]at M;refine⟨H0,A0,A,E,ρ,x,st,ex,λv H1 F r1=>⟨H0,A0,A,E,ρ,y,st.mono F,ey,λw H2 G N=>⟨A,x,y,_,(st.mono (F.trans G)).live,r1.ext G,N,M,λz H3 U r3=>⟨b,RepB.bl_inv (.of r3),?_⟩⟩⟩⟩;have B:=(F.trans G).trans U;cases b with
 | false=>rw[if_neg TZ]at e ⊢;cases e;exact q _ H3 B (.bl _)
 | true=>
  rw[if_pos rfl]at e ⊢;obtain⟨u,Y,e⟩:=bind_some e;exact⟨H0,A0,A,E,ρ,u,st.mono B,Y,λz' H4 J r4=>⟨A,y,u,d,(st.mono (B.trans J)).live,N.ext (U.trans J),r4,e,λz2 H5 x5 W=>q z2 H5 ((B.trans J).trans x5) W⟩⟩
theorem AS(G:eI X (TY op) g)(q:eI X (TY op') g')(M:PB X O a fa)(B:PB X O b fb)(F:PB X O c fc)
  (J:W8 [op,op'] [b,c]=false:=by with_unfolding_all rfl):PD X O (.Compare a [op,op'] [b,c] pos) (d8 g g' fa fb fc):=PE.mono (A5 G q M B F J) λσ H Q h=>oO h
theorem zF(G:eI X (TY op) g)(q:eI X (TY op') g')(M:PB X O a fa)(B:PB X O b fb)(F:PB X O c fc)
  (J:W8 [op,op'] [b,c]=false:=by with_unfolding_all rfl):i6 X O (.Compare a [op,op'] [b,c] pos) (fW (d8 g g' fa fb fc)):=PT.mono (B5 G q M B F J) λσ H Q h=>oO (eU h)
def cN:Lv:=λ_=>some []
def aQ(f:Ev)(g:Lv):Lv:=λρ=>(f ρ).bind λx=>(g ρ).bind λxs=>some (x::xs)
theorem iH:pE X O [] cN:=PA.mono mB λσ H Q ⟨H0,A0,A,E,ρ,d,st,e,q⟩=>by cases e;exact q [] H (Ext.refl _ _) .nil
theorem fE:mU X O [] cN:=PA.mono mB λσ H Q ⟨H0,A0,A,E,ρ,d,st,e,q⟩=>by cases e;exact q [] H (Ext.refl _ _) .nil
theorem sI(J:∀A H H' d v,Ext A H H'->R A H d v->R A H' d v)(h:tDA R O (aQ f g) σ H Q):DT (tD R O f) (tDA R O g) σ H Q:=by
 obtain⟨H0,A0,A,E,ρ,d,st,e,q⟩:=h;obtain⟨x,ex,e⟩:=bind_some e;obtain⟨xs,B,e⟩:=bind_some e;cases e;exact⟨H0,A0,A,E,ρ,x,st,ex,λv H1 F N=>⟨H0,A0,A,E,ρ,xs,st.mono F,B,λvs H2 G M=>q (v::vs) H2 (F.trans G) (.cons (J _ _ _ _ _ G N) M)⟩⟩
theorem CG(B:PD X O e f)(q:pE X O es g)(hs:TC (e::es) X.env=(false,eval e X.env)::TC es X.env:=by rfl):pE X O (e::es) (aQ f g):=
 PA.mono (cH B q hs) λσ H Q h=>sI (λ_ _ _ _ _ x r=>r.ext x) h
theorem sE(B:PB X O e f)(q:mU X O es g)(hs:TC (e::es) X.env=(false,eval e X.env)::TC es X.env:=by rfl):mU X O (e::es) (aQ f g):=
 PA.mono (cH B q hs) λσ H Q h=>sI (λ_ _ _ _ _ x r=>r.ext x) h
inductive tF(O:List Nat)(f:Ev)(σ:L2.St)(H:Hp)(Q:VK):Prop
 | mk (H0:Hp) (A0 A:Av) (E:List Fact) (ρ:bJ) (d:D) (st:ST H0 A0 A E O σ H ρ) (e:f ρ=some d) (q:∀a H',Ext A H H'->H a=none->¬ A a->Own (λb=>A b\/b=a) H' d a->Q (.ref a) H'):tF O f σ H Q
def PF(X:Cx)(O:List Nat)(e:Expr)(f:Ev):Prop:=PE X e (tF O f)
theorem PF.d(h:PF X O e f):PD X O e f:=PE.mono h λσ H Q ⟨H0,A0,A,E,ρ,d,st,e,q⟩=>
 ⟨H0,A0,A,E,ρ,d,st,e,λa H' x n B o=>q _ H' x ((o.av (A':=A) λb F=>.inl (.inl F)).rep B)⟩
theorem RepL.fresh(n:H p=none)(r:RepL A H ds vs):RepL (λb=>A b\/b=p) (upd H p o) ds vs:=by
 have B:RepL (λb=>A b\/b=p) H ds vs:=r.av λb q=>by
  rcases q with q|q
  ·exact .inl q
  ·exact .inr (q ▸ n)
 exact B.ext (Ext.new n)
theorem Ext.free(x:Ext A H H')(n:H' p=none):H p=none:=by
 cases e:H p with
 | none=>rfl
 | some u=>rcases x.rd p u (.inl e)with h|⟨o,h⟩ <;> (rw[n]at h;cases h)
def nE(g:Lv):Ev:=λρ=>(g ρ).map .tup
def uA(g:Lv):Ev:=λρ=>(g ρ).map .lst
theorem RL.length:∀ {ds:List D} {vs:List V},RL R A H ds vs->vs.length=ds.length
 | _,_,.nil=>rfl
 | _,_,.cons _ t=>by rw[UK,UK,RL.length t]
noncomputable def aX(n:Nat):Bool:=decide (n<=1000000)
theorem dI(h:aX n=true):n<=TK:=UY (of_decide_eq_true h) (by decide)
theorem pX(h:aX n=true):n<TK:=YB (of_decide_eq_true h) (by decide)
theorem map_some{q B:Type}{o:Option q}{f:q->B}{b:B}(h:o.map f=some b):∃a,o=some a/\f a=b:=by
 cases o with
 | none=>cases h
 | some a=>exact⟨a,rfl,UF h⟩
def Len(g:Lv)(n:Nat):Prop:=∀ρ ds,g ρ=some ds->ds.length=n
theorem EM:Len cN 0:=λρ ds h=>by cases h;rfl
theorem BV(h:Len g n):Len (aQ f g) (n+1):=λρ ds e=>by
 obtain⟨x,ex,e⟩:=bind_some e;obtain⟨xs,q,e⟩:=bind_some e;cases e;rw[UK,h ρ xs q]
theorem KS{es:List Expr}{B}{pos:Pos}{g:Lv}(h:pE X O es g)(M:∀ρ ds,g ρ=some ds->ds.length<=100):PD X O (.Tuple es B pos) (nE g):=PE.mono (L7 h) <| by
 rintro σ H Q ⟨H0,A0,A,E,ρ,d,st,e,q⟩;obtain⟨ds,F,rfl⟩:=map_some e;refine⟨H0,A0,A,E,ρ,ds,st,F,λvs H1 B J=>⟨by rw[J.length];exact UY (M ρ ds F) (by decide),λp G=>?_⟩⟩;exact q _ _ (B.trans (Ext.new G)) (.tup aF (J.toL.ext (Ext.new G)))
theorem KR{es:List Expr}{pos:Pos}{g:Lv}(h:pE X O es g)(M:∀ρ ds,g ρ=some ds->ds.length<=100):PF X O (.List es pos) (uA g):=PE.mono (LK h) <| by
 rintro σ H Q ⟨H0,A0,A,E,ρ,d,st,e,q⟩;obtain⟨ds,G,rfl⟩:=map_some e;refine⟨H0,A0,A,E,ρ,ds,st,G,λvs H1 F J=>⟨by rw[J.length];exact UY (M ρ ds G) (by decide),λp B=>?_⟩⟩;exact q p _ (F.trans (Ext.new B)) (F.free B) (λz=>(st.mono F).live p z B) (.lst aF (J.toL.fresh B))
theorem tT:PF X O (.Dict [] [] pos) (eC (.dT [])):=PE.mono BM <| by
 rintro σ H Q ⟨H0,A0,A,E,ρ,d,st,e,q⟩ p B;cases e;exact q p _ (Ext.new B) B (λz=>st.live p z B) (.dT aF rfl .nil)
inductive rC(g:List D->Option D)(xs:List V)(H:Hp)(Q:VK):Prop
 | mk (A:Av) (ds:List D) (d:D) (lv:Live A H) (r:RL RepB A H ds xs) (e:g ds=some d) (q:∀v H',Ext A H H'->Rep A H' d v->Q v H'):rC g xs H Q
inductive rCF(g:List D->Option D)(xs:List V)(H:Hp)(Q:VK):Prop
 | mk (A:Av) (ds:List D) (d:D) (lv:Live A H) (r:RL RepB A H ds xs) (e:g ds=some d) (q:∀a H',Ext A H H'->H a=none->¬ A a->Own (λb=>A b\/b=a) H' d a->Q (.ref a) H'):rCF g xs H Q
def iK(X:Cx)(f:Value)(g:List D->Option D):Prop:=CallR X f (rC g)
def DR(X:Cx)(f:Value)(g:List D->Option D):Prop:=CallR X f (rCF g)
theorem CallR.mono(h:CallR X f r)(x:∀a H Q,r' a H Q->r a H Q):CallR X f r':=λpins s σ H a v Q I q w=>h pins s σ H a v Q I q (x a H Q w)
def bG(g:List D->Option D)(f:Lv):Ev:=λρ=>(f ρ).bind g
theorem nN(h:tD Rep O (bG g f) σ H Q):QN (rC g) (tDA RepB O f) σ H Q:=by
 obtain⟨H0,A0,A,E,ρ,d,st,e,q⟩:=h;obtain⟨ds,J,e⟩:=bind_some e;exact⟨H0,A0,A,E,ρ,ds,st,J,λvs H1 B M=>⟨A,ds,d,(st.mono B).live,M,e,λv H2 G F=>q v H2 (B.trans G) F⟩⟩
theorem zR(h:tF O (bG g f) σ H Q):QN (rCF g) (tDA RepB O f) σ H Q:=by
 obtain⟨H0,A0,A,E,ρ,d,st,e,q⟩:=h;obtain⟨ds,J,e⟩:=bind_some e;exact⟨H0,A0,A,E,ρ,ds,st,J,λvs H1 B M=>⟨A,ds,d,(st.mono B).live,M,e,λa H2 G n F o=>q a H2 (B.trans G) (B.free n) F o⟩⟩
section
variable {x:Str}{id T:String}{g:List D->Option D}{e:Expr}{es:List Expr}{f:Lv}{p pos:Pos}
theorem BC(M:iK X (.builtin id) g)(G:Gl X x)(F:X.mg x=none)(N:UJ x=some (.builtin id))(W:mU X O (e::es) f)(U:x ≠ "__name__" := by decide)(B:(x == ("__debug__" : Str))=false:=by decide)
  (J:TC (e::es) X.env=(false,eval e X.env)::TC es X.env:=by rfl) (q:(T7 pos (TC es X.env)).any (·.1)=false:=by rfl) :
  PD X O (.Call (.Name x p) (e::es) [] pos) (bG g f):=PE.mono (lU M G F N W U B J q) λσ H Q h=>nN h
theorem zK(M:iK X (.type T) g)(G:Gl X x)(F:X.mg x=none)(N:UJ x=some (.type T))(W:mU X O (e::es) f)(U:x ≠ "__name__" := by decide)(B:(x == ("__debug__" : Str))=false:=by decide)
  (J:TC (e::es) X.env=(false,eval e X.env)::TC es X.env:=by rfl) (q:(T7 pos (TC es X.env)).any (·.1)=false:=by rfl) :
  PD X O (.Call (.Name x p) (e::es) [] pos) (bG g f):=PE.mono (nK M G F N W U B J q) λσ H Q h=>nN h
theorem yG(M:DR X (.type T) g)(G:Gl X x)(F:X.mg x=none)(N:UJ x=some (.type T))(W:mU X O (e::es) f)(U:x ≠ "__name__" := by decide)(B:(x == ("__debug__" : Str))=false:=by decide)
  (J:TC (e::es) X.env=(false,eval e X.env)::TC es X.env:=by rfl) (q:(T7 pos (TC es X.env)).any (·.1)=false:=by rfl) :
  PF X O (.Call (.Name x p) (e::es) [] pos) (bG g f):=PE.mono (nK M G F N W U B J q) λσ H Q h=>zR h
end
def SN(n:Nat)(F:List D->Option D):Sp:=λvs H Q _=>∃A ds d,Live A H/\RepL A H ds vs/\vs.length=n/\F ds=some d/\∀v H',Ext A H H'->Rep A H' d v->Q v H'
def Fn(P:TJ)(w:World)(K:S9)(mg:Str->Option Value)(base:Heap)(x:Str)(k:Nat)(ps:List Str)(F:List D->Option D):Prop:=My.Ok P w K mg base x k ps (SN ps.length F)
theorem FG(O':Fn X.prog X.w X.K X.mg X.base x k ps F)(hr:Room k X.A)(U:Gl X x)(ha:pE X O (e::es) f)(hl:∀ρ ds,f ρ=some ds->ds.length=ps.length)(G:(x == ("__debug__" : Str))=false:=by decide)
  (W:TC (e::es) X.env=(false,eval e X.env)::TC es X.env:=by rfl) (B:(T7 pos (TC es X.env)).any (·.1)=false:=by rfl) :
  PD X O (.Call (.Name x p) (e::es) [] pos) (bG F f):=PE.mono (My.lT O' hr U ha G W B) λσ H Q ⟨H0,A0,A,E,ρ,d,st,e,q⟩=>by
 obtain⟨ds,M,e⟩:=bind_some e;exact⟨H0,A0,A,E,ρ,ds,st,M,λvs H1 J N=>⟨A,ds,d,(st.mono J).live,N.toL,by rw[N.length];exact hl ρ ds M,e,λv H2 Y r2=>q v H2 (J.trans Y) r2⟩⟩
theorem IxR.mono(h:IxR X r)(x:∀a b H Q,r' a b H Q->r a b H Q):IxR X r':=λB F pins s σ H a b v u Q I q G w=>h B F pins s σ H a b v u Q I q G (x a b H Q w)
def QL:D->D->Option D
 | .lst l,.int i=>dW l i
 | .tup l,.int i=>dW l i
 | .str z,.int i=>if aX z.length then(dW z.cps.toList i).map λc=>.str ⟨#[c]⟩else none
 | _,_=>none
theorem RepL.at(r:RepL A H ds vs)(h:dW ds i=some d):∃v,dW vs i=some v/\Rep A H d v:=by
 obtain⟨j,q,B⟩:=bind_some h;obtain⟨v,F,G⟩:=r.get' B;refine⟨v,?_,G⟩;unfold dW;rw[r.length,q];exact F
theorem RE:IxR X (rD QL):=IxR.mono KZ <| by
 rintro x y H Q ⟨A,dx,M,d,N,F,J,e,q⟩;cases M with
 | int i=>
  have:=J.int_inv;subst this;cases dx with
  | lst l=>
   obtain⟨a,xs,rfl,h,r⟩:=F.lst_inv;obtain⟨v,B,G⟩:=r.at e;exact .inl ⟨a,xs,i,v,rfl,rfl,.inl h,B,q v H (Ext.refl _ _) G⟩
  | tup l=>
   obtain⟨a,xs,rfl,h,r⟩:=F.tup_inv;obtain⟨v,B,G⟩:=r.at e;exact .inr (.inl ⟨a,xs,i,v,rfl,rfl,.inl (.inl h),B,q v H (Ext.refl _ _) G⟩)
  | str z=>
   have:=F.str_inv;subst this;simp only[QL]at e;by_cases hz:aX z.length=true
   ·rw[if_pos hz]at e
    obtain⟨c,B,rfl⟩:=map_some e;exact .inr (.inr ⟨z,i,c,rfl,rfl,dI hz,B,q _ H (Ext.refl _ _) (.str _)⟩)
   ·rw[if_neg hz]at e;cases e
  | _=>cases e
 | _=>cases dx <;> cases e
abbrev Ov:=bJ->Option (Option Int)
inductive tDO(O:List Nat)(g:Ov)(σ:L2.St)(H:Hp)(Q:Option Int->Hp->Prop):Prop
 | mk (H0:Hp) (A0 A:Av) (E:List Fact) (ρ:bJ) (o:Option Int) (st:ST H0 A0 A E O σ H ρ) (e:g ρ=some o) (q:∀H',Ext A H H'->Q o H'):tDO O g σ H Q
def JC(X:Cx)(O:List Nat)(e:Option Expr)(g:Ov):Prop:=PO X e (tDO O g)
theorem PO.mono(h:PO X e t)(x:∀σ H Q,t' σ H Q->t σ H Q):PO X e t':=λpins s σ H Q I w=>h pins s σ H Q I (x σ H Q w)
def oT:Ov:=λ_=>some none
noncomputable def EF:D->Option Int
 | .int i=>some i
 | _=>none
theorem hU(h:EF d=some i):d=.int i:=by cases d <;> cases h;rfl
def jW(f:Ev):Ov:=λρ=>(f ρ).bind λd=>(EF d).map some
theorem BD:JC X O none oT:=PO.mono G3 λσ H Q ⟨H0,A0,A,E,ρ,d,st,e,q⟩=>by cases e;exact q H (Ext.refl _ _)
theorem CJ{e:Expr}{f:Ev}(h:PD X O e f):JC X O (some e) (jW f):=PO.mono (FP h) <| by
 rintro σ H Q ⟨H0,A0,A,E,ρ,d,st,e,q⟩;obtain⟨x,ex,e⟩:=bind_some e;obtain⟨i,F,rfl⟩:=map_some e;rw[hU F]at ex;exact⟨H0,A0,A,E,ρ,_,st,ex,λv H1 B G=>⟨i,RepB.int_inv (.of G),q H1 B⟩⟩
def cutD(xs:List D)(lo hi:Option Int):List D:=(xs.drop (HT.sIx xs.length 0 lo)).take (HT.sIx xs.length xs.length hi-HT.sIx xs.length 0 lo)
theorem RepL.cut{ds:List D}{vs:List V}{lo hi:Option Int}(r:RepL A H ds vs):RepL A H (cutD ds lo hi) (nD vs lo hi):=by
 unfold cutD nD;rw[r.length];exact(r.drop _).take _
def IC(g:D->Option Int->Option Int->Option D)(f:Ev)(a b:Ov):Ev:=λρ=>(f ρ).bind λx=>(a ρ).bind λlo=>(b ρ).bind λhi=>g x lo hi
inductive rS(g:D->Option Int->Option Int->Option D)(x:V)(lo hi:Option Int)(H:Hp)(Q:VK):Prop
 | mk (A:Av) (dx d:D) (lv:Live A H) (r:RepB A H dx x) (e:g dx lo hi=some d) (q:∀v H',Ext A H H'->Rep A H' d v->Q v H'):rS g x lo hi H Q
inductive rSF(g:D->Option Int->Option Int->Option D)(x:V)(lo hi:Option Int)(H:Hp)(Q:VK):Prop
 | mk (A:Av) (dx d:D) (lv:Live A H) (r:RepB A H dx x) (e:g dx lo hi=some d) (q:∀a H',Ext A H H'->H a=none->¬ A a->Own (λb=>A b\/b=a) H' d a->Q (.ref a) H'):rSF g x lo hi H Q
theorem SlR.mono(h:SlR X r)(x:∀a b c H Q,r' a b c H Q->r a b c H Q):SlR X r':=λpins s σ H a v F M lo hi G Q I J hs B q w=>h pins s σ H a v F M lo hi G Q I J hs B q (x a lo hi H Q w)
def RQ:D->Option Int->Option Int->Option D
 | .tup l,lo,hi=>some (.tup (cutD l lo hi))
 | _,_,_=>none
def P6:D->Option Int->Option Int->Option D
 | .lst l,lo,hi=>some (.lst (cutD l lo hi))
 | _,_,_=>none
theorem BA{lo hi:Option Expr}{g:D->Option Int->Option Int->Option D}{a b:Ov}(hr:SlR X (rS g))(W:PB X O e f)(hl:JC X O lo a)(Y:JC X O hi b):PD X O (.Subscript e (.Slice lo hi none p2) pos) (IC g f a b):=
 PE.mono (BG hr W hl Y) <| by
  rintro σ H Q ⟨H0,A0,A,E,ρ,d,st,e,q⟩;obtain⟨x,ex,e⟩:=bind_some e;obtain⟨l,el,e⟩:=bind_some e;obtain⟨h,N,e⟩:=bind_some e;exact⟨H0,A0,A,E,ρ,x,st,ex,λv H1 B r1=>⟨H0,A0,A,E,ρ,l,st.mono B,el,λH2 F=>⟨H0,A0,A,E,ρ,h,st.mono (B.trans F),N,λH3 G=>⟨A,x,d,(st.mono ((B.trans F).trans G)).live,r1.ext (F.trans G),e,λv U J M=>q v U (((B.trans F).trans G).trans J) M⟩⟩⟩⟩
theorem Q2:SlR X (rS RQ):=SlR.mono My.GY <| by
 rintro x lo hi H Q ⟨A,dx,d,J,G,e,q⟩;cases dx with
 | tup l=>
  obtain⟨a,xs,rfl,h,r⟩:=G.tup_inv;cases e;by_cases w:HT.sIx xs.length 0 lo=0/\HT.sIx xs.length xs.length hi=xs.length
  ·refine .inr ⟨a,xs,rfl,.inl (.inl h),w,q _ H (Ext.refl _ _) (.tup h ?_)⟩
   have F:nD xs lo hi=xs:=by unfold nD;rw[w.1,w.2];simp
   rw[<- F];exact r.cut
  ·exact .inl ⟨a,xs,rfl,.inl (.inl h),w,λp B=>q _ _ (Ext.new B) (.tup aF (r.cut.ext (Ext.new B)))⟩
 | _=>cases e
theorem RP:SlR X (rSF P6):=SlR.mono EO <| by
 rintro x lo hi H Q ⟨A,dx,d,F,G,e,q⟩;cases dx with
 | lst l=>
  obtain⟨a,xs,rfl,h,r⟩:=G.lst_inv;cases e;exact⟨a,xs,rfl,.inl h,λp B=>q p _ (Ext.new B) B (λz=>F p z B) (.lst aF (r.cut.fresh B))⟩
 | _=>cases e
end
inductive Out where
 | nx (ρ:bJ)|rt (d:D)|bk (ρ:bJ)|ct (ρ:bJ)
abbrev Sv:=bJ->Option Out
structure Lp where
 ob:List Nat
 oc:List Nat
def QP(L:Lp)(H0:Hp)(A0:Av)(E:List Fact)(O':List Nat)(T:Ends):Out->Prop
 | .nx ρ=>∀A σ H,ST H0 A0 A E O' σ H ρ->T.nx σ H
 | .rt d=>∀v H,Ext A0 H0 H->Rep A0 H d v->T.rt v H
 | .bk ρ=>∀A σ H,ST H0 A0 A E L.ob σ H ρ->T.bk σ H
 | .ct ρ=>∀A σ H,ST H0 A0 A E L.oc σ H ρ->T.ct σ H
inductive tS(L:Lp)(O:List Nat)(f:Sv)(O':List Nat)(T:Ends)(σ:L2.St)(H:Hp):Prop
 | mk (H0:Hp) (A0 A:Av) (E:List Fact) (ρ:bJ) (out:Out) (st:ST H0 A0 A E O σ H ρ) (e:f ρ=some out) (p:QP L H0 A0 E O' T out):tS L O f O' T σ H
def eJ(X:Cx)(L:Lp)(O:List Nat)(st:Stmt)(f:Sv)(O':List Nat):Prop:=PS X st (tS L O f O')
def b7(X:Cx)(L:Lp)(O:List Nat)(st:List Stmt)(f:Sv)(O':List Nat):Prop:=PSs X st (tS L O f O')
section
variable {X:Cx}{L:Lp}{O O' O2:List Nat}
theorem PS.mono{st:Stmt}{t t':TS}(h:PS X st t)(x:∀T σ H,t' T σ H->t T σ H):PS X st t':=λpins s σ H T I w=>h pins s σ H T I (x T σ H w)
theorem PSs.mono{st:List Stmt}{t t':TS}(h:PSs X st t)(x:∀T σ H,t' T σ H->t T σ H):PSs X st t':=λpins s σ H T I w=>h pins s σ H T I (x T σ H w)
noncomputable def Sub(a b:List Nat):Bool:=a.all λi=>b.contains i
theorem Sub.mem(h:Sub a b=true)(i:Nat)(hi:i∈a):i∈b:=by
 have:=(List.all_eq_true.mp h) i hi;simpa using this
def JA:Sv:=λρ=>some (.nx ρ)
def cG(f g:Sv):Sv:=λρ=>(f ρ).bind λo=>match o with
 | .nx ρ'=>g ρ'
 | o=>some o
theorem wL(h:Sub O' O=true:=by rfl):b7 X L O [] JA O':=PSs.mono xG <| by
 rintro T σ H ⟨H0,A0,A,E,ρ,B,st,e,p⟩;cases e;obtain⟨A',q⟩:=st.shut (Sub.mem h);exact p A' σ H q
theorem GZ(h:tS L O (cG f g) O' T σ H):PV (tS L O f O2) (tS L O2 g O') T σ H:=by
 obtain⟨H0,A0,A,E,ρ,q,st,e,p⟩:=h;obtain⟨o,G,e⟩:=bind_some e;refine⟨H0,A0,A,E,ρ,o,st,G,?_⟩;cases o with
 | nx ρ'=>exact λA' F H' B=>⟨H0,A0,A',E,ρ',q,B,e,p⟩
 | rt d=>cases e;exact p
 | bk d=>cases e;exact p
 | ct d=>cases e;exact p
theorem BQ{st:Stmt}{rest:List Stmt}{f g:Sv}(h1:eJ X L O st f O2)(h2:b7 X L O2 rest g O'):b7 X L O (st::rest) (cG f g) O':=PSs.mono (tM h1 h2) λT σ H h=>GZ h
theorem aK{st:Stmt}{f:Sv}(h1:eJ X L O st f O'):b7 X L O [st] f O':=xA h1
def NQ(f:Ev):Sv:=λρ=>(f ρ).map .rt
theorem EY{e:Expr}{pos:Pos}{f:Ev}(G:PD X O e f):eJ X L O (.Return (some e) pos) (NQ f) O':=PS.mono (vN G) <| by
 rintro T σ H ⟨H0,A0,A,E,ρ,B,st,e,p⟩;obtain⟨d,q,rfl⟩:=map_some e;exact⟨H0,A0,A,E,ρ,d,st,q,λv H' x r=>p v H' (st.mono x).ex (r.av λa F=>.inl (st.sub a F))⟩
def DP(f:Ev):Sv:=λρ=>(f ρ).map λ_=>.nx ρ
theorem BF{e:Expr}{pos:Pos}{f:Ev}(G:PB X O e f)(hs:UD e none pos.line X.env=pure false:=by rfl)(h:Sub O' O=true:=by rfl):eJ X L O (.Expr e pos) (DP f) O':=PS.mono (wC G hs) <| by
 rintro T σ H ⟨H0,A0,A,E,ρ,F,st,e,p⟩;obtain⟨d,B,rfl⟩:=map_some e;refine⟨H0,A0,A,E,ρ,d,st,B,λv H' x r=>?_⟩;obtain⟨A',q⟩:=(st.mono x).shut (Sub.mem h);exact p A' σ H' q
def ED(c:Bv)(f g:Sv):Sv:=λρ=>(c ρ).bind λb=>if b=true then f ρ else g ρ
theorem vT{c:Expr}{a b:List Stmt}{pos:Pos}{g:Bv}{f k:Sv}(J:i6 X O c g)(M:b7 X L O a f O')(F:b7 X L O b k O'):eJ X L O (.If c a b pos) (ED g f k) O':=PS.mono (IQ J M F) <| by
 rintro T σ H ⟨H0,A0,A,E,ρ,q,st,e,p⟩;obtain⟨b,G,e⟩:=bind_some e;refine⟨H0,A0,A,E,ρ,b,st,G,λH1 B=>?_⟩;cases b with
 | true=>rw[if_pos rfl]at e ⊢;exact⟨H0,A0,A,E,ρ,q,st.mono B,e,p⟩
 | false=>rw[if_neg TZ]at e ⊢;exact⟨H0,A0,A,E,ρ,q,st.mono B,e,p⟩
def dM(i:Nat)(f:Ev):Sv:=λρ=>(f ρ).map λd=>.nx (ρ.set i (some d))
theorem Sub.er{a b:List Nat}{i j:Nat}(h:Sub a (b.filter (· != i))=true)(q:j∈a):j∈b/\j≠i:=by
 have:=Sub.mem h j q;rw[List.mem_filter]at this;exact⟨this.1,by simpa using this.2⟩
theorem xC{i:Nat}{x:Str}{e:Expr}{pos pos':Pos}{f:Ev}(M:X.N.Nodup)(hi:X.N[i]?=some x)(G:Loc X.env.scope x)(U:PD X O e f)(h:Sub O' (O.filter (· != i))=true:=by rfl)
  (hs:UD e (some (.Name x pos')) pos.line X.env=pure false:=by rfl) (hf:X.fn x=true\/X.env.scope.names.lookup x=some .local:=by first|exact .inl rfl|exact .inr rfl):eJ X L O (.Assign [.Name x pos'] e pos) (dM i f) O':=
 PS.mono (qP M hi G U hs hf) <| by
  rintro T σ H ⟨H0,A0,A,E,ρ,J,st,e,p⟩;obtain⟨d,Y,rfl⟩:=map_some e;refine⟨H0,A0,A,E,ρ,d,st,Y,λv H' x r=>?_⟩
  -- i leaves what may be written ahead of the store: the value is borne by fewer too
  have F:=(st.mono x).more r;obtain⟨A',B⟩:=F.shut (O':=O') λj W=>(Sub.er h W).1
  exact p A' _ H' ((B.put (B.ext _ (UL ..)) λz=>(Sub.er h z).2 rfl).less λq hq=>UG _ hq)
theorem Own.there:Own A H d a->H a≠none
 | .lst h _=>by rw[h];exact λz=>nomatch z
 | .dK h _ _=>by rw[h];exact λz=>nomatch z
 | .dT h _ _=>by rw[h];exact λz=>nomatch z
theorem ST.own_put(s:ST H0 A0 A E O σ H ρ)(x:Ext A H H')(n:H a=none)(na:¬ A a)(o:Own (λb=>A b\/b=a) H' d a)(ni:i∉O) :
  ST H0 A0 (λb=>A b\/b=a) E (i::O) (σ.set i (some (.ref a))) H' (ρ.set i (some d)):=by
 have s':=s.mono x;have n0:H0 a=none:=s.ex.free n
 -- whatever was borne ahead avoids a
 have J:Ext (λb=>A b\/b=a) H H':=⟨x.rd,x.kp,λb u q e=>q.elim (λq=>x.ow b u q e) λq=>(by subst q;rw[n]at e;exact nomatch e),x.fz⟩;have ab:∀ {p:Fact},p.Holds A H->p.Holds (λb=>A b\/b=a) H':=λr=>Fact.ext J (Fact.av (A':=λb=>A b\/b=a) (λb q=>by
   rcases q with q|q
   ·exact .inl q
   ·exact .inr (q ▸ n)) r)
 have up:∀ {d:D} {v:V},Rep A H d v->Rep (λb=>A b\/b=a) H' d v:=λr=>by
  have r1:Rep (λb=>A b\/b=a) H _ _:=r.av λb q=>by
   rcases q with q|q
   ·exact .inl q
   ·exact .inr (q ▸ n)
  exact r1.ext J
 have ad:∀ {d:D} {b:Addr},A b->Own A H d b->Own (λc=>A c\/c=a) H' d b:=λq r=>by
  have r1:Own (λc=>A c\/c=a) H _ _:=r.av λb q=>by
   rcases q with q|q
   ·exact .inl q
   ·exact .inr (q ▸ n)
  exact r1.ext J (.inl q)
 have ha:H' a≠none:=o.there;refine⟨s'.ex,λb q=>.inl (s.sub b q),s.l0,λb q=>?_,by simp[s.len],λj d' h' U=>?_,λj d' h' U=>?_,λj k M d2 b hj hk h1 h2 F W=>?_,λp hp=>ab (s.ext p hp)⟩
 ·rcases q with q|q
  ·exact s'.live b q
  ·subst q;exact ha
 ·rcases bV h' with⟨e,B,l⟩|⟨e,B⟩
  ·exact absurd (List.mem_cons.mpr (.inl e)) U
  ·obtain⟨w,h1,h2⟩:=s.val j d' B λz=>U (UG _ z)
   exact⟨w,by rw[c4 e];exact h1,up h2⟩
 ·rcases bV h' with⟨e,B,l⟩|⟨e,B⟩
  ·subst e;cases B
   exact⟨a,sig_set (by rw[s.len];exact l),.inr rfl,n0,o⟩
  ·rcases List.mem_cons.mp U with z|z
   ·exact absurd z e
   ·obtain⟨w,h1,h2,F,W⟩:=s.own j d' B z
    exact⟨w,by rw[c4 e];exact h1,.inl h2,F,ad h2 W⟩
 ·have G:∀ {j:Nat} {M:D},j∈i::O->(ρ.set i (some d))[j]?=some (some M)->(σ.set i (some (.ref a)))[j]?=some (some (.ref b))->(j=i/\b=a)\/(j≠i/\j∈O/\ρ[j]?=some (some M)/\σ[j]?=some (some (.ref b))/\b≠a):=by
   intro j M hj h1 F;rcases bV h1 with⟨e,B,l⟩|⟨e,B⟩
   ·subst e
    rw[sig_set (by rw[s.len];exact l)]at F;cases F;exact .inl ⟨rfl,rfl⟩
   ·rcases List.mem_cons.mp hj with z|z
    ·exact absurd z e
    ·rw[c4 e]at F
     obtain⟨w,q1,q2,_⟩:=s.own j M B z;rw[F]at q1;cases q1;exact .inr ⟨e,z,B,F,λz=>na (z ▸ q2)⟩
  rcases G hj h1 F with⟨e1,B⟩|⟨e1,B,e3,e4,e5⟩
  ·rcases G hk h2 W with⟨Y,N⟩|⟨Y,N,f3,f4,f5⟩
   ·rw[e1,Y]
   ·exact absurd B f5
  ·rcases G hk h2 W with⟨Y,N⟩|⟨Y,N,f3,f4,f5⟩
   ·exact absurd N e5
   ·exact s.inj j k M d2 b B N e3 f3 e4 f4
theorem CC{i:Nat}{x:Str}{e:Expr}{pos pos':Pos}{f:Ev}(U:X.N.Nodup)(hi:X.N[i]?=some x)(B:Loc X.env.scope x)(W:PF X O e f)(h:Sub O' (i::O)=true:=by rfl)(hn:O.contains i=false:=by rfl)
  (hs:UD e (some (.Name x pos')) pos.line X.env=pure false:=by rfl) (hf:X.fn x=true\/X.env.scope.names.lookup x=some .local:=by first|exact .inl rfl|exact .inr rfl):eJ X L O (.Assign [.Name x pos'] e pos) (dM i f) O':=
 PS.mono (qP U hi B W hs hf) <| by
  rintro T σ H ⟨H0,A0,A,E,ρ,F,st,e,p⟩;obtain⟨d,Y,rfl⟩:=map_some e;refine⟨H0,A0,A,E,ρ,d,st,Y,λa H' x n M o=>?_⟩;have G:i∉O:=λz=>by
   have:O.contains i=true:=by simpa using z
   rw[hn]at this;cases this
  obtain⟨J,q⟩:=(st.own_put x n M o G).shut (Sub.mem h);exact p J _ H' q
theorem ST.write(s:ST H0 A0 A E O σ H ρ)(hi:ρ[i]?=some (some d))(hO:i∈O)(hs:σ[i]?=some (some (.ref a)))(N:A a)(h0:H0 a=none)(W:H a=some u)(ob:NM u)(hn:Own A (upd H a o) d' a) :
  ST H0 A0 A E O σ (upd H a o) (ρ.set i (some d')):=by
 have B:∀b,H0 b≠none->b≠a:=λb hb z=>hb (z ▸ h0)
 refine⟨⟨λb w r=>?_,λb xs k r=>?_,λb w n r=>?_,λb q w r=>?_⟩,s.sub,s.l0,λb hb=>?_,by simp[s.len],λj G h' J=>?_,λj G h' J=>?_,λj k U G b hj hk h1 h2 Y h4=>?_,λp hp=>Fact.put N W ob (s.ext p hp)⟩
 ·refine c7 (B b ?_) (s.ex.rd b w r)
  rcases r with r|⟨_,r⟩ <;> (rw[r];exact λz=>nomatch z)
 ·rw[aC (B b (by rw[r];exact λz=>nomatch z))];exact s.ex.kp b xs k r
 ·rw[aC (B b (by rw[r];exact λz=>nomatch z))];exact s.ex.ow b w n r
 ·rw[aC (B b (by rw[r];exact λz=>nomatch z))];exact s.ex.fz b q w r
 ·by_cases e:b=a
  ·subst e;rw[aF];exact λz=>nomatch z
  ·rw[aC e];exact s.live b hb
 ·rcases bV h' with⟨e,F,l⟩|⟨e,F⟩
  ·subst e;exact absurd hO J
  ·obtain⟨w,h1,h2⟩:=s.val j G F J
   exact⟨w,h1,h2.put N W ob⟩
 ·rcases bV h' with⟨e,F,l⟩|⟨e,F⟩
  ·subst e;cases F;exact⟨a,hs,N,h0,hn⟩
  ·obtain⟨b,h1,h2,Y,h4⟩:=s.own j G F J
   refine⟨b,h1,h2,Y,h4.put N W ob λz=>?_⟩;subst z;exact e (s.inj j i G d b J hO F hi h1 hs)
 ·have M:∀ {j:Nat} {U:D},(ρ.set i (some d'))[j]?=some (some U)->∃d0,ρ[j]?=some (some d0):=by
   intro j U h;rcases bV h with⟨e,_,_⟩|⟨_,e⟩
   ·subst e;exact⟨d,hi⟩
   ·exact⟨U,e⟩
  obtain⟨x,hx⟩:=M h1;obtain⟨y,hy⟩:=M h2;exact s.inj j k x y b hj hk hx hy Y h4
noncomputable def mem(O:List Nat)(i:Nat):Bool:=O.contains i
theorem i3(h:mem O i=true):i∈O:=by simpa[mem]using h
def D6(i:Nat)(f:Ev):Sv:=λρ=>(aD i ρ).bind λx=>match x with
 | .lst l=>(f ρ).bind λd=>if aX l.length then some (.nx (ρ.set i (some (.lst (l++[d])))))else none
 | _=>none
theorem u3{o e:Expr}{i:Nat}{apos cpos pos:Pos}{f:Ev}(ho:PE X o (i4 i))(he:PD X O e f)(F:mem O i=true)(Y:PE X (.Call (.Attribute o "append" apos) [e] [] cpos) (RZ X.K "list" xR (i4 i) (DT (tD Rep O f) P0)))
  (hs:UD (.Call (.Attribute o "append" apos) [e] [] cpos) none pos.line X.env=pure false:=by rfl) (h:Sub O' O=true:=by rfl):eJ X L O (.Expr (.Call (.Attribute o "append" apos) [e] [] cpos) pos) (D6 i f) O':=
 PS.mono (wC Y hs) <| by
  rintro T σ H ⟨H0,A0,A,E,ρ,M,st,e,p⟩;obtain⟨x,ex,e⟩:=bind_some e;cases x with
  | lst l=>
   obtain⟨d,U,e⟩:=bind_some e;by_cases hz:aX l.length=true
   ·rw[if_pos hz]at e
    cases e;obtain⟨a,G,q,W,N⟩:=st.own i _ (aV ex) (i3 F);cases N with
    | lst h4 r4=>
     refine⟨_,G,.inl ⟨rfl,_,SqL.of h4⟩,H0,A0,A,E,ρ,d,st,U,λv H' x r=>⟨a,_,v,rfl,rfl,x.ow _ _ q h4,by rw[r4.length];exact pX hz,?_⟩⟩;have J:=x.ow _ _ q h4;obtain⟨A',B⟩:=((st.mono x).write (o:=.lst _) (aV ex) (i3 F) G q W J trivial (.lst aF (((r4.ext x).append (.cons r .nil)).put q J trivial))).shut (Sub.mem h);exact p A' σ _ B
   ·rw[if_neg hz]at e;cases e
  | _=>cases e
def NR:D->Option Key
 | .int i=>some (.inl i)
 | .str x=>some (.inr x)
 | _=>none
def D3:List D->Option (List Key)
 | []=>some []
 | d::ds=>(NR d).bind λk=>(D3 ds).bind λks=>some (k::ks)
def IE:D->Option (List Key)
 | .tup l=>D3 l
 | _=>none
noncomputable def c9{κ:Type}[DecidableEq κ](l:List (κ×D))(k:κ):Option D:=(l.find? λp=>decide (p.1=k)).map (·.2)
noncomputable def putD{κ:Type}[DecidableEq κ](l:List (κ×D))(k:κ)(d:D):List (κ×D):=if l.any (λp=>decide (p.1=k))then l.map (λp=>if p.1=k then(p.1,d)else p)else l++[(k,d)]
end
section
variable {A:Av}{H:Hp}
section
variable {κ:Type}[DecidableEq κ]
abbrev PP(A:Av)(H:Hp):List (κ×D)->List (κ×V)->Prop:=UR λ(p:κ×D) (q:κ×V)=>p.1=q.1/\Rep A H p.2 q.2
theorem oU:∀ {l:List (κ×D)} {xs:List (κ×V)},xs.map (·.1)=l.map (·.1)->RepL A H (l.map (·.2)) (xs.map (·.2))->PP A H l xs
 | [],[],_,_=>.nil
 | [],_::_,e,_=>by cases e
 | _::_,[],e,_=>by cases e
 | p::l,q::xs,e,r=>by
  rw[TU,TU]at e r;injection e with e1 e2
  cases r with
  | cons h t=>exact .cons ⟨e1.symm,h⟩ (oU e2 t)
theorem DU:∀ {l:List (κ×D)} {xs:List (κ×V)},PP A H l xs->xs.map (·.1)=l.map (·.1)/\RepL A H (l.map (·.2)) (xs.map (·.2))
 | _,_,.nil=>⟨rfl,.nil⟩
 | _,_,.cons h t=>by
  obtain⟨e,r⟩:=DU t;exact⟨by rw[TU,TU,h.1,e],.cons h.2 r⟩
theorem CV(k:κ)(h:PP A H l xs):(c9 l k=none/\iN xs k=none)\/∃d v,c9 l k=some d/\iN xs k=some v/\Rep A H d v:=by
 induction h with
 | nil=>exact .inl ⟨rfl,rfl⟩
 | @cons p q l xs h t ih=>
  by_cases e:p.1=k
  ·refine .inr ⟨p.2,q.2,?_,g8 (h.1 ▸ e),h.2⟩
   simp[c9,VP,e]
  ·have B:¬ q.1=k:=λz=>e (h.1.trans z)
   have a:c9 (p::l) k=c9 l k:=by simp[c9,VP,e]
   rw[a,gY B];exact ih
theorem MQ(k:κ)(h:PP A H l xs):(l.any λp=>decide (p.1=k))=xs.any λp=>decide (p.1=k):=by
 induction h with
 | nil=>rfl
 | cons h t ih=>rw[VO,VO,ih,h.1]
theorem LQ(k:κ)(r:Rep A H d v)(h:PP A H l xs):PP A H (l.map λp=>if p.1=k then(p.1,d)else p) (xs.map λp=>if p.1=k then(p.1,v)else p):=by
 induction h with
 | nil=>exact .nil
 | @cons p q l xs h t ih=>
  rw[TU,TU];refine .cons ?_ ih;by_cases e:p.1=k
  ·rw[if_pos e,if_pos (h.1 ▸ e)];exact⟨h.1,r⟩
  ·rw[if_neg e,if_neg (λz=>e (h.1.trans z))];exact h
theorem MM(h:PP A H l xs)(h':PP A H m ys):PP A H (l++m) (xs++ys):=by
 induction h with
 | nil=>exact h'
 | cons h t ih=>exact .cons h ih
theorem C1(k:κ)(r:Rep A H d v)(h:PP A H l xs):PP A H (putD l k d) (putK xs k v):=by
 unfold putD putK;rw[MQ k h];by_cases e:(xs.any λp=>decide (p.1=k))=true
 ·rw[if_pos e,if_pos e];exact LQ k r h
 ·rw[if_neg e,if_neg e];exact MM h (.cons ⟨rfl,r⟩ .nil)
end
theorem kA(h:NR d=some k)(r:RepB A H d v):v=kV k:=by
 cases d <;> cases h
 ·exact r.int_inv
 ·exact r.str_inv
theorem sN:∀ {ds:List D} {ks:List Key} {vs:List V},D3 ds=some ks->RepL A H ds vs->vs=ks.map kV
 | _,_,_,h,.nil=>by cases h;rfl
 | _,_,_,h,.cons r t=>by
  obtain⟨k,q,h⟩:=bind_some h;obtain⟨ks,B,h⟩:=bind_some h;cases h;rw[TU,kA q (.of r),sN B t]
theorem xH(h:IE d=some k)(r:RepB A H d v):∃b,v=.ref b/\H b=some (.tup (k.map kV)):=by
 cases d <;> try cases h
 rename_i l;obtain⟨a,xs,rfl,h1,h2⟩:=r.tup_inv;exact⟨a,rfl,by rw[h1,sN h h2]⟩
def bU:D->D->Option (Option D)
 | .dK l,k=>(NR k).map λk=>c9 l k
 | .dT l,k=>(IE k).map λk=>c9 l k
 | _,_=>none
theorem eV{d k:D}{x y:V}{o:Option D}(h:bU d k=some o)(G:RepB A H d x)(J:RepB A H k y):∃a F,x=.ref a/\NH H a/\DGet H a y F/\((o=none/\F=none)\/∃z v,o=some z/\F=some v/\Rep A H z v):=by
 cases d with
 | dK l=>
  obtain⟨q,B,rfl⟩:=map_some h;obtain⟨a,xs,rfl,h1,e,r⟩:=G.dK_inv;have:=kA B J;subst this;refine⟨a,_,rfl,.inl ⟨xs,h1⟩,.inl ⟨xs,q,h1,rfl,rfl⟩,CV q (oU e r)⟩
 | dT l=>
  obtain⟨q,B,rfl⟩:=map_some h;obtain⟨a,xs,rfl,h1,e,r⟩:=G.dT_inv;obtain⟨b,rfl,M⟩:=xH B J;exact⟨a,_,rfl,.inr ⟨xs,h1⟩,.inr ⟨xs,q,b,h1,rfl,M,rfl⟩,CV q (oU e r)⟩
 | _=>cases h
end
section
variable {X:Cx}{O O':List Nat}{L:Lp}
theorem PE.or(h:PE X e t)(k:PE X e u):PE X e (λσ H Q=>t σ H Q\/u σ H Q):=λpins s σ H Q I w=>w.elim (h pins s σ H Q I) (k pins s σ H Q I)
def aI(d k:D):Option D:=match d with
 | .dK _=>(bU d k).join
 | .dT _=>(bU d k).join
 | _=>QL d k
theorem kX{q:Type}{o:Option (Option q)}{d:q}(h:o.join=some d):o=some (some d):=by
 cases o with
 | none=>cases h
 | some o=>cases o with
  | none=>cases h
  | some x=>cases h;rfl
theorem tU{F M:Ev}{σ:L2.St}{H:Hp}{Q:VK}(h:tD Rep O (a8 (λd k=>(bU d k).join) F M) σ H Q):IT (tD RepB O F) (tD RepB O M) σ H Q:=by
 obtain⟨H0,A0,A,E,ρ,d,st,e,q⟩:=h;obtain⟨x,ex,e⟩:=bind_some e;obtain⟨y,Y,e⟩:=bind_some e;refine⟨H0,A0,A,E,ρ,x,st,ex,λv H1 G r1=>⟨H0,A0,A,E,ρ,y,st.mono G,Y,λw H2 J W=>?_⟩⟩;obtain⟨a,ov,e1,_,g,B⟩:=eV (kX e) (r1.ext J) W;rcases B with⟨B,_⟩|⟨z,N,B,e3,U⟩
 ·cases B
 ·cases B;subst e3
  exact⟨a,N,e1,g,q N H2 (G.trans J) U⟩
theorem GP(N:X.A.units+1<cLine)(J:PB X O a fa)(G:PB X O b fb)(hs:qG b):PD X O (.Subscript a b pos) (a8 aI fa fb):=
 PE.mono (PE.or (NX RE J G hs) (E9 N J G hs)) <| by
  rintro σ H Q ⟨H0,A0,A,E,ρ,d,st,e,q⟩;obtain⟨x,ex,F⟩:=bind_some e;obtain⟨y,M,F⟩:=bind_some F;have B:∀g:D->D->Option D,g x y=some d->tD Rep O (a8 g fa fb) σ H Q:=λg h=>⟨H0,A0,A,E,ρ,d,st,by unfold a8;rw[ex,M];exact h,q⟩
  cases x with
  | dK l=>exact .inr (tU (B _ F))
  | dT l=>exact .inr (tU (B _ F))
  | _=>exact .inl (qM (B QL F))
def IJ(fd q B:Ev):Ev:=λρ=>(fd ρ).bind λd=>(q ρ).bind λk=>(B ρ).bind λe=>(bU d k).map λo=>o.getD e
theorem C7(k:D)(h:bU d k=some o)(r:RepB A H d v):∃a,v=.ref a/\NH H a:=by
 cases d with
 | dK l=>obtain⟨a,xs,rfl,h1,_⟩:=r.dK_inv;exact⟨a,rfl,.inl ⟨xs,h1⟩⟩
 | dT l=>obtain⟨a,xs,rfl,h1,_⟩:=r.dT_inv;exact⟨a,rfl,.inr ⟨xs,h1⟩⟩
 | _=>cases h
theorem EN(hu:X.A.units+1<cLine)(ho:PB X O o fd)(he:PB X O e fk)(hf:PD X O f fe)(m:M2 X o "get" apos e f cpos):PD X O (.Call (.Attribute o "get" apos) [e,f] [] cpos) (IJ fd fk fe):=
 PE.mono (B0 hu ho he hf m) <| by
  rintro σ H Q ⟨H0,A0,A,E,ρ,d,st,e,q⟩;obtain⟨x,ex,e⟩:=bind_some e;obtain⟨y,ey,e⟩:=bind_some e;obtain⟨z,ez,e⟩:=bind_some e;obtain⟨ov,N,rfl⟩:=map_some e;refine⟨H0,A0,A,E,ρ,x,st,ex,λv H1 B Y=>?_⟩;obtain⟨a,U,J⟩:=C7 y N Y;refine⟨a,U,J,H0,A0,A,E,ρ,y,st.mono B,ey,λw H2 F r2=>⟨H0,A0,A,E,ρ,z,st.mono (B.trans F),ez,λu H3 G r3=>?_⟩⟩;obtain⟨a',M,W,_,g,e3⟩:=eV N (Y.ext (F.trans G)) (r2.ext G);rw[U]at W;cases W;refine⟨M,g,?_⟩;rcases e3 with⟨rfl,rfl⟩|⟨z',v',rfl,rfl,r4⟩
  ·exact q u H3 ((B.trans F).trans G) r3
  ·exact q v' H3 ((B.trans F).trans G) r4
def rB(d k e:D):Option D:=match d with
 | .dK l=>(NR k).bind λk=>if aX l.length then some (.dK (putD l k e))else none
 | .dT l=>(IE k).bind λk=>if aX l.length then some (.dT (putD l k e))else none
 | .lst l=>(EF k).bind λk=>(rG l.length k).map λj=>.lst (l.set j e)
 | _=>none
def AA(i:Nat)(q B:Ev):Sv:=λρ=>(B ρ).bind λe=>(aD i ρ).bind λx=>(q ρ).bind λk=>(rB x k e).map λd=>.nx (ρ.set i (some d))
theorem PS.or{st:Stmt}{t u:TS}(h:PS X st t)(k:PS X st u):PS X st (λT σ H=>t T σ H\/u T σ H):=λpins s σ H T I w=>w.elim (h pins s σ H T I) (k pins s σ H T I)
theorem HA{o k value:Expr}{i:Nat}{pos pos':Pos}{fk fe:Ev}(B:X.A.units+1<cLine)(ho:PE X o (i4 i))(hk:PB X O k fk)(hv:PD X O value fe)(hO:mem O i=true)(h:Sub O' O=true:=by rfl)
  (hs:UD value (some (.Subscript o k pos')) pos.line X.env=pure false:=by rfl) (ak:V3 [.Subscript o k pos'] value pos.line X.env=pure false:=by rfl) (hw:V4 [.Subscript o k pos'] value X.env=pure none:=by rfl)
  (hg:∀ {to ti:TE} {t:vV},PE X o to->PE X k ti->AG X t->PG X (.Subscript o k pos') (D4 to ti t):=by intro _ _ _ a b c;exact qY a b c) :
  eJ X L O (.Assign [.Subscript o k pos'] value pos) (AA i fk fe) O':=
 PS.mono (PS.or (FF B ho hk hv hs) (qQ hv (hg ho hk set_list) ak hw)) <| by
  rintro T σ H ⟨H0,A0,A,E,ρ,as,st,e,p⟩;obtain⟨z,ez,e⟩:=bind_some e;obtain⟨x,ex,e⟩:=bind_some e;obtain⟨y,ey,e⟩:=bind_some e;obtain⟨d,ed,rfl⟩:=map_some e;obtain⟨a,U,J,e3,e4⟩:=st.own i _ (aV ex) (i3 hO);cases x with
  | dK l=>
   obtain⟨kk,e5,F⟩:=bind_some ed;by_cases hz:aX l.length=true
   ·rw[if_pos hz]at F;cases F
    refine .inl ⟨H0,A0,A,E,ρ,z,st,ez,λv H1 M r1=>⟨_,U,H0,A0,A,E,ρ,y,st.mono M,ey,λw H2 N W=>?_⟩⟩;have q:=M.trans N;cases e4 with
    | @dK _ _ xs h4 ee r4=>
     have B:=q.ow _ _ J h4;have hl:xs.length=l.length:=by have:=congrArg V6 ee;simpa using this
     have:=kA e5 W;subst this;refine⟨a,_,rfl,DPut.k B (by rw[hl];exact pX hz),?_⟩;obtain⟨Y,r7⟩:=DU (C1 kk (r1.ext N) (oU ee (r4.ext q)));obtain⟨A',G⟩:=((st.mono q).write (o:=.dK _) (aV ex) (i3 hO) U J e3 B trivial (.dK aF Y (r7.put J B trivial))).shut (Sub.mem h);exact p A' σ _ G
   ·rw[if_neg hz]at F;cases F
  | dT l=>
   obtain⟨kk,e5,F⟩:=bind_some ed;by_cases hz:aX l.length=true
   ·rw[if_pos hz]at F;cases F
    refine .inl ⟨H0,A0,A,E,ρ,z,st,ez,λv H1 M r1=>⟨_,U,H0,A0,A,E,ρ,y,st.mono M,ey,λw H2 N W=>?_⟩⟩;have q:=M.trans N;cases e4 with
    | @dT _ _ xs h4 ee r4=>
     have B:=q.ow _ _ J h4;have hl:xs.length=l.length:=by have:=congrArg V6 ee;simpa using this
     obtain⟨b,rfl,hb⟩:=xH e5 W;refine⟨a,_,rfl,DPut.t B hb (by rw[hl];exact pX hz),?_⟩;obtain⟨Y,r7⟩:=DU (C1 kk (r1.ext N) (oU ee (r4.ext q)));obtain⟨A',G⟩:=((st.mono q).write (o:=.dT _) (aV ex) (i3 hO) U J e3 B trivial (.dT aF Y (r7.put J B trivial))).shut (Sub.mem h);exact p A' σ _ G
   ·rw[if_neg hz]at F;cases F
  | lst l=>
   obtain⟨kk,e5,F⟩:=bind_some ed;obtain⟨j,Y,rfl⟩:=map_some F;refine .inr ⟨H0,A0,A,E,ρ,z,st,ez,λv H1 M r1=>⟨_,U,H0,A0,A,E,ρ,y,st.mono M,ey,λw H2 N W=>?_⟩⟩;have q:=M.trans N;cases e4 with
   | @lst _ _ xs h4 r4=>
    have B:=q.ow _ _ J h4;rw[hU e5]at W;have:=W.int_inv;subst this;refine⟨a,xs,kk,j,rfl,rfl,B,by rw[r4.length];exact Y,?_⟩;obtain⟨A',G⟩:=((st.mono q).write (o:=.lst _) (aV ex) (i3 hO) U J e3 B trivial (.lst aF (((r4.ext q).set j (r1.ext N)).put J B trivial))).shut (Sub.mem h);exact p A' σ _ G
  | _=>cases ed
noncomputable def AL(g:Int->Int->Option D):D->D->Option D
 | .int i,.int j=>g i j
 | _,_=>none
theorem lP(h:AL g x y=some d):∃i j,x=.int i/\y=.int j/\g i j=some d:=by
 cases x <;> cases y <;> first|(cases h;done)|exact⟨_,_,rfl,rfl,h⟩
theorem qV{f:Value->Value->Sem Value}{C:Int->Int->Prop}[∀i j,Decidable (C i j)]{g:Int->Int->Int}(h:OpR X f (rI C λi j=>.int (g i j))):eI X f (AL λi j=>if C i j then some (.int (g i j))else none):=
 OpR.mono h <| by
  rintro x y H Q ⟨A,dx,N,d,M,G,J,e,q⟩;obtain⟨i,j,rfl,rfl,B⟩:=lP e;have:=G.int_inv;subst this;have:=J.int_inv;subst this;by_cases F:C i j
  ·rw[if_pos F]at B;cases B
   exact⟨i,j,rfl,rfl,F,q _ H (Ext.refl _ _) (.int _)⟩
  ·rw[if_neg F]at B;cases B
theorem F8{f:Value->Value->Sem Value}{g:Int->Int->Int}(h:OpR X f (EJ λi j=>.int (g i j))):eI X f (AL λi j=>some (.int (g i j))):=
 OpR.mono h <| by
  rintro x y H Q ⟨A,dx,J,d,G,F,B,e,q⟩;obtain⟨i,j,rfl,rfl,e⟩:=lP e;have:=F.int_inv;subst this;have:=B.int_inv;subst this;cases e;exact⟨i,j,rfl,rfl,q _ H (Ext.refl _ _) (.int _)⟩
theorem tG{f:Value->Value->Sem Value}{g:Int->Int->Bool}(h:OpR X f (EJ λi j=>.bl (g i j))):eI X f (AL λi j=>some (.bl (g i j))):=
 OpR.mono h <| by
  rintro x y H Q ⟨A,dx,J,d,G,F,B,e,q⟩;obtain⟨i,j,rfl,rfl,e⟩:=lP e;have:=F.int_inv;subst this;have:=B.int_inv;subst this;cases e;exact⟨i,j,rfl,rfl,q _ H (Ext.refl _ _) (.bl _)⟩
instance:∀i j,Decidable (My.PX i j):=λi j=>by unfold My.PX;infer_instance
instance:∀i j,Decidable (HV i j):=λi j=>by unfold HV;infer_instance
instance:∀i j,Decidable (IA i j):=λi j=>by unfold IA;infer_instance
def HW:D->D->Option D:=AL λi j=>some (.int (i-j))
def eG:D->D->Option D:=AL λi j=>if 0<j then some (.int (i%j))else none
def vX:D->D->Option D:=AL λi j=>if HV i j then some (.int (i/j))else none
def v6:D->D->Option D:=AL λi j=>if IA i j then some (.int (i^j.toNat))else none
def D9:D->D->Option D:=AL λi j=>some (.bl (decide (j<i)))
def M3:D->D->Option D:=AL λi j=>some (.bl (decide (j<=i)))
theorem LY:eI X (UP .Sub) HW:=F8 JW
theorem MR:eI X (UP .Mod) eG:=qV MN
theorem L1:eI X (UP .FloorDiv) vX:=qV G2
theorem L6:eI X (UP .Pow) v6:=qV KG
theorem NV:eI X (TY .Gt) D9:=tG OY
theorem OH:eI X (TY .GtE) M3:=tG O8
def HY(f:Ev):Ev:=λρ=>(f ρ).bind λd=>(EF d).map λi=>.int (-i)
theorem KO(J:PB X O a f):PD X O (.UnaryOp .USub a pos) (HY f):=PE.mono (N0 MF J) <| by
 rintro σ H Q ⟨H0,A0,A,E,ρ,d,st,e,q⟩;obtain⟨x,ex,e⟩:=bind_some e;obtain⟨i,F,rfl⟩:=map_some e;rw[hU F]at ex;exact⟨H0,A0,A,E,ρ,_,st,ex,λv H1 B G=>⟨i,G.int_inv,q _ H1 B (.int _)⟩⟩
end
section
variable {X:Cx}{L:Lp}{O O':List Nat}
def HQ:Sv:=λ_=>none
theorem zO{st:Stmt}:eJ X L O st HQ O':=λ_ _ _ _ _ _ ⟨_,_,_,_,_,_,_,e,_⟩=>nomatch e
abbrev Gv:=D->bJ->Option bJ
inductive tDG(O:List Nat)(g:Gv)(v:V)(σ:L2.St)(H:Hp)(Q:L2.St->Hp->Prop):Prop
 | mk (H0:Hp) (A0 A:Av) (E:List Fact) (ρ:bJ) (d:D) (ρ':bJ) (st:ST H0 A0 A E O σ H ρ) (r:Rep A H d v) (e:g d ρ=some ρ') (q:∀σ',ST H0 A0 A E O σ' H ρ'->Q σ' H):tDG O g v σ H Q
def rF(X:Cx)(O:List Nat)(tg:Expr)(g:Gv):Prop:=PG X tg (tDG O g)
abbrev yD:=List D->bJ->Option bJ
inductive tDGs(O:List Nat)(g:yD)(vs:List V)(σ:L2.St)(H:Hp)(Q:L2.St->Hp->Prop):Prop
 | mk (H0:Hp) (A0 A:Av) (E:List Fact) (ρ:bJ) (ds:List D) (ρ':bJ) (st:ST H0 A0 A E O σ H ρ) (r:RepL A H ds vs) (e:g ds ρ=some ρ') (q:∀σ',ST H0 A0 A E O σ' H ρ'->Q σ' H):tDGs O g vs σ H Q
def v5(X:Cx)(O:List Nat)(ts:List Expr)(g:yD):Prop:=PGs X ts (tDGs O g)
theorem PG.mono(h:PG X tg t)(x:∀v σ H Q,t' v σ H Q->t v σ H Q):PG X tg t':=λpins s σ H v u Q I r w=>h pins s σ H v u Q I r (x v σ H Q w)
theorem PGs.mono(h:PGs X ts t)(x:∀v σ H Q,t' v σ H Q->t v σ H Q):PGs X ts t':=λpins s σ H v u Q I r w=>h pins s σ H v u Q I r (x v σ H Q w)
def aJ(i:Nat):Gv:=λd ρ=>some (ρ.set i (some d))
theorem lQ(h:PG X tg (eZ i))(n:O.contains i=false:=by rfl):rF X O tg (aJ i):=PG.mono h <| by
 rintro v σ H Q ⟨H0,A0,A,E,ρ,d,ρ',st,r,e,q⟩;cases e;exact q _ (st.put r λz=>by
  have:O.contains i=true:=by simpa using z
  rw[n]at this;cases this)
def fV:yD:=λds ρ=>match ds with
 | []=>some ρ
 | _=>none
def aR(g:Gv)(k:yD):yD:=λds ρ=>match ds with
 | d::ds=>(g d ρ).bind λρ'=>k ds ρ'
 | _=>none
theorem AV:v5 X O [] fV:=PGs.mono wW <| by
 rintro v σ H Q ⟨H0,A0,A,E,ρ,ds,ρ',st,r,e,q⟩;cases r with
 | nil=>cases e;exact⟨rfl,q _ st⟩
 | cons _ _=>cases e
theorem nY(J:∀ {t:TG} {u:ID},PG X e t->PGs X es u->PGs X (e::es) (DX t u))(h1:rF X O e g)(h2:v5 X O es k):v5 X O (e::es) (aR g k):=
 PGs.mono (J h1 h2) <| by
  rintro v σ H Q ⟨H0,A0,A,E,ρ,ds,ρ',st,r,e,q⟩;cases r with
  | nil=>cases e
  | cons h t=>
   obtain⟨ρ1,F,e⟩:=bind_some e;exact⟨_,_,rfl,H0,A0,A,E,ρ,_,ρ1,st,h,F,λG B=>⟨H0,A0,A,E,ρ1,_,ρ',B,t,e,q⟩⟩
def jX(n:Nat)(k:yD):Gv:=λd ρ=>match d with
 | .tup l=>if l.length=n then k l ρ else none
 | _=>none
theorem GW(G:PG X tg (P4 X.K n (tDGs O k))):rF X O tg (jX n k):=PG.mono G <| by
 rintro v σ H Q ⟨H0,A0,A,E,ρ,d,ρ',st,r,e,q⟩;cases d with
 | tup l=>
  obtain⟨a,xs,rfl,h,F⟩:=RepB.tup_inv (.of r);by_cases B:l.length=n
  ·simp only[jX,if_pos B]at e
   exact⟨a,xs,rfl,.inl (.inl h),by rw[F.length];exact B,H0,A0,A,E,ρ,l,ρ',st,F,e,q⟩
  ·simp only[jX,if_neg B]at e;cases e
 | _=>cases e
def HR(f:Ev)(g:Gv):Sv:=λρ=>(f ρ).bind λd=>(g d ρ).map .nx
theorem hW(M:PD X O e f)(J:rF X O tg g)(hs:V3 [tg] e pos.line X.env=pure false:=by rfl)(hw:V4 [tg] e X.env=pure none:=by rfl)(h:Sub O' O=true:=by rfl)(h1:(UN [tg] X.env).map (·.2)=[U6 tg X.env]:=by rfl)(h1:(UN [tg] X.env).map (·.2)=[U6 tg X.env]:=by rfl)(h1:(UN [tg] X.env).map (·.2)=[U6 tg X.env]:=by rfl)(h1:(UN [tg] X.env).map (·.2)=[U6 tg X.env]:=by rfl):eJ X L O (.Assign [tg] e pos) (HR f g) O':=
 PS.mono (qQ M J hs hw h1) <| by
  rintro T σ H ⟨H0,A0,A,E,ρ,G,st,e,p⟩;obtain⟨d,N,e⟩:=bind_some e;obtain⟨ρ',U,rfl⟩:=map_some e;refine⟨H0,A0,A,E,ρ,d,st,N,λv H' x r=>⟨H0,A0,A,E,ρ,d,ρ',st.mono x,r,U,λB F=>?_⟩⟩;obtain⟨A',q⟩:=F.shut (Sub.mem h);exact p A' B H' q
def v7(J:It)(q:List Fact)(items:List D):Prop:=
 ∀(A:Av) (H:Hp),Live A H->(∀p∈q,p.Holds A H)->∀i,(items.length<=i->J.stop i H)/\∀d,items[i]?=some d->J.go i H/\∀x H',J.yld i H x H'->Ext A H H'/\Rep A H' d x
inductive tDI(O:List Nat)(f:Lv)(σ:L2.St)(H:Hp)(R:It->Hp->Prop):Prop
 | mk (H0:Hp) (A0 A:Av) (E:List Fact) (ρ:bJ) (items:List D) (st:ST H0 A0 A E O σ H ρ) (e:f ρ=some items) (q:∀J H' E1,Ext A H H'->(∀p∈E1,p.Holds A H')->v7 J E1 items->R J H'):tDI O f σ H R
def PDI(X:Cx)(O:List Nat)(tg e:Expr)(f:Lv):Prop:=PI X tg e (tDI O f)
theorem PI.mono(h:PI X tg e t)(x:∀σ H Q,t' σ H Q->t σ H Q):PI X tg e t':=λpins s σ H Q I w=>h pins s σ H Q I (x σ H Q w)
theorem PI.or(h:PI X tg e t)(k:PI X tg e u):PI X tg e (λσ H Q=>t σ H Q\/u σ H Q):=λpins s σ H Q I w=>w.elim (h pins s σ H Q I) (k pins s σ H Q I)
theorem GK{a:Addr}{l:List D}{K:S9}:v7 (R8 K a) [.rep (.lst l) (.ref a)] l:=by
 intro A H J h i;have r:Rep A H (.lst l) (.ref a):=h _ (List.mem_singleton.mpr rfl);obtain⟨M,xs,e,h1,q⟩:=RepB.lst_inv (.of r);cases e;refine⟨λhi=>⟨xs,.inl h1,by rw[q.length];exact hi⟩,λd F=>?_⟩;obtain⟨v,B,G⟩:=q.get' F;refine⟨⟨xs,v,.inl h1,B⟩,λx H' y=>?_⟩;obtain⟨rfl,y⟩:=y;have:=y xs (.inl h1);rw[B]at this;cases this;exact⟨Ext.refl _ _,G⟩
theorem JF{a:Addr}{l:List D}{K:S9}:v7 (R7 K a) [.rep (.tup l) (.ref a)] l:=by
 intro A H J h i;have r:Rep A H (.tup l) (.ref a):=h _ (List.mem_singleton.mpr rfl);obtain⟨M,xs,e,h1,q⟩:=RepB.tup_inv (.of r);cases e;refine⟨λhi=>⟨xs,.inl (.inl h1),by rw[q.length];exact hi⟩,λd F=>?_⟩;obtain⟨v,B,G⟩:=q.get' F;refine⟨⟨xs,v,.inl (.inl h1),B⟩,λx H' y=>?_⟩;obtain⟨rfl,y⟩:=y;have:=y xs (.inl (.inl h1));rw[B]at this;cases this;exact⟨Ext.refl _ _,G⟩
noncomputable def aG(lo c:Int)(n:Nat):List D:=(T2 n).map λ(i:Nat)=>.int (lo+(i:Int)*c)
theorem aP(lo c:Int)(n:Nat):(aG lo c n).length=n:=by simp[aG]
theorem aS{lo c:Int}{n i:Nat}(h:(aG lo c n)[i]?=some d):i<n/\d=.int (lo+(i:Int)*c):=by
 unfold aG at h;rw[T6]at h;by_cases hi:i<n
 ·rw[zar hi]at h;cases h;exact⟨hi,rfl⟩
 ·rw[List.getElem?_eq_none (by simpa using hi)]at h;cases h
theorem zS{lo c:Int}{n:Nat}:v7 (My.NB lo c n) [] (aG lo c n):=by
 intro A H B h i;refine⟨λhi=>by rw[aP]at hi;exact hi,λd q=>?_⟩;obtain⟨hi,rfl⟩:=aS q;exact⟨hi,λx H' ⟨e,y⟩=>by subst e y;exact⟨Ext.refl _ _,.int _⟩⟩
theorem sW{lo:Int}{n:Nat}:v7 (P8 lo n) [] (aG lo 1 n):=by
 intro A H B h i;refine⟨λhi=>by rw[aP]at hi;exact hi,λd q=>?_⟩;obtain⟨hi,rfl⟩:=aS q;exact⟨hi,λx H' ⟨e,y⟩=>by subst e y;rw[Int.mul_one];exact⟨Ext.refl _ _,.int _⟩⟩
noncomputable def bT(i:Int):Bool:=decide (-1000000<=i) && decide (i<=1000000)
def bH:List D->Option (List D)
 | [.int j]=>if bT j then some (aG 0 1 j.toNat)else none
 | _=>none
def fD:List D->Option (List D)
 | [.int i,.int j]=>if bT i && bT j then some (aG i 1 (j-i).toNat)else none
 | _=>none
def kC:List D->Option (List D)
 | [.int i,.int j,.int c]=>if c≠0/\c.natAbs<1000/\XH i j c=true then some (aG i c (My.rsz i j c))else none
 | _=>none
theorem cX(h:bT i=true):-(2^62)<=i/\i<2^62:=by
 simp only[bT,UE,decide_eq_true_eq]at h
 lia
def lR(g:List D->Option (List D))(f:Lv):Lv:=λρ=>(f ρ).bind g
theorem RL.one(r:RL R A H [d] vs):∃v,vs=[v]/\R A H d v:=by
 cases r with|cons h t=>cases t;exact⟨_,rfl,h⟩
theorem RL.two(r:RL R A H [d,e] vs):∃v w,vs=[v,w]/\R A H d v/\R A H e w:=by
 cases r with|cons h t=>obtain⟨w,rfl,h2⟩:=RL.one t;exact⟨_,w,rfl,h,h2⟩
theorem RL.three(r:RL R A H [d,e,f] vs):∃v w u,vs=[v,w,u]/\R A H d v/\R A H e w/\R A H f u:=by
 cases r with|cons h t=>obtain⟨w,u,rfl,h2,q⟩:=RL.two t;exact⟨_,w,u,rfl,h,h2,q⟩
theorem pQ(h:bH ds=some l):∃j,ds=[.int j]/\bT j=true/\l=aG 0 1 j.toNat:=by
 unfold bH at h;split at h
 ·split at h
  ·cases h;exact⟨_,rfl,by assumption,rfl⟩
  ·cases h
 ·cases h
theorem pR(h:fD ds=some l):∃i j,ds=[.int i,.int j]/\bT i=true/\bT j=true/\l=aG i 1 (j-i).toNat:=by
 unfold fD at h;split at h
 ·split at h
  ·rename_i hh
   cases h;exact⟨_,_,rfl,(UE _ _ ▸ hh).1,(UE _ _ ▸ hh).2,rfl⟩
  ·cases h
 ·cases h
theorem pM(h:kC ds=some l):∃i j c,ds=[.int i,.int j,.int c]/\(c≠0/\c.natAbs<1000/\XH i j c=true)/\l=aG i c (My.rsz i j c):=by
 unfold kC at h;split at h
 ·split at h
  ·cases h;exact⟨_,_,_,rfl,by assumption,rfl⟩
  ·cases h
 ·cases h
section
variable {tg a b c:Expr}{f:Lv}{p pos:Pos}
theorem uR(F:Gl X "range")(M:X.mg "range" = none)(N:mU X O [a] f)(hs:TC [a] X.env=[(false,eval a X.env)]:=by rfl):PDI X O tg (.Call (.Name "range" p) [a] [] pos) (lR bH f):=PI.mono (yV F M N hs) <| by
 rintro σ H R ⟨H0,A0,A,E,ρ,items,st,e,q⟩;obtain⟨ds,G,e⟩:=bind_some e;refine⟨H0,A0,A,E,ρ,ds,st,G,λvs H1 B J=>?_⟩;obtain⟨j,rfl,h,rfl⟩:=pQ e;obtain⟨v,rfl,h1⟩:=J.one;have:=h1.int_inv;subst this;exact⟨j,rfl,(cX h).1,(cX h).2,q _ H1 [] B (λ_ h=>nomatch h) sW⟩
theorem uV(G:Gl X "range")(N:X.mg "range" = none)(U:mU X O [a,b] f)(hs:TC [a,b] X.env=[(false,eval a X.env),(false,eval b X.env)]:=by rfl)(B:TC [b] X.env=[(false,eval b X.env)]:=by rfl):PDI X O tg (.Call (.Name "range" p) [a,b] [] pos) (lR fD f):=PI.mono (y4 G N U hs B) <| by
 rintro σ H R ⟨H0,A0,A,E,ρ,items,st,e,q⟩;obtain⟨ds,J,e⟩:=bind_some e;refine⟨H0,A0,A,E,ρ,ds,st,J,λvs H1 F M=>?_⟩;obtain⟨i,j,rfl,h,h',rfl⟩:=pR e;obtain⟨v,w,rfl,h1,h2⟩:=M.two;have:=h1.int_inv;subst this;have:=h2.int_inv;subst this;exact⟨i,j,rfl,⟨(cX h).1,(cX h).2,(cX h').1,(cX h').2⟩,q _ H1 [] F (λ_ h=>nomatch h) sW⟩
theorem vA(M:Gl X "range")(W:X.mg "range" = none)(Y:mU X O [a,b,c] f)(hs:TC [a,b,c] X.env=[(false,eval a X.env),(false,eval b X.env),(false,eval c X.env)]:=by rfl)(B:TC [b,c] X.env=[(false,eval b X.env),(false,eval c X.env)]:=by rfl):PDI X O tg (.Call (.Name "range" p) [a,b,c] [] pos) (lR kC f):=PI.mono (My.yK M W Y hs B) <| by
 rintro σ H R ⟨H0,A0,A,E,ρ,items,st,e,q⟩;obtain⟨ds,N,e⟩:=bind_some e;refine⟨H0,A0,A,E,ρ,ds,st,N,λvs H1 J U=>?_⟩;obtain⟨i,j,F,rfl,h,rfl⟩:=pM e;obtain⟨v,w,u,rfl,h1,h2,G⟩:=U.three;have:=h1.int_inv;subst this;have:=h2.int_inv;subst this;have:=G.int_inv;subst this;exact⟨i,j,F,rfl,h,q _ H1 [] J (λ_ h=>nomatch h) zS⟩
end
def AD:Key->D
 | .inl i=>.int i
 | .inr x=>.str x
def D8(f:Ev):Lv:=λρ=>(f ρ).bind λd=>match d with
 | .lst l=>some l
 | .tup l=>some l
 | .dT l=>some (l.map λp=>.tup (p.1.map AD))
 | _=>none
theorem lW:∀k:List Key,RepL A H (k.map AD) (k.map kV)
 | []=>.nil
 | .inl i::k=>.cons (.int i) (lW k)
 | .inr x::k=>.cons (.str x) (lW k)
def KL(tl:TE):TI:=λσ H R=>tl σ H λx H1=>∃d kvs,x=.ref d/\((H1 d=some (.dT kvs)/\∀o,R (My.QD d o kvs) (upd H1 d (.frz o (.dT kvs))))\/∃o,H1 d=some (.frz o (.dT kvs))/\R (My.QD d o kvs) H1)
theorem BO(hl:PE X l tl):PI X tg l (KL tl):=by
 intro pins s σ H R I h;refine a7 (hl pins s σ H _ I h) λv B ⟨x,H1,N,F,q1⟩=>?_
 obtain⟨d,kvs,rfl,q⟩:=q1;cases F;have M:∀(o:Obj) (H2:Hp),(d == VB)=false->Inv X pins σ H2 B->B.heap.get? d=some o->ObjOk X.prog X.w H2 B.heap d (.dT kvs)->R (My.QD d o kvs) H2->wpAny (model X.prog X.w) X.A (pyIter (.ref d)) (PIE X pins σ tg R) X.xe B:=λo H2 lo G ho ok q=>by
  obtain⟨_,_,es,ep,⟨o',F,r2,W⟩,J,_⟩:=My.mE ok;rw[ho]at F;cases F;refine My.B7 lo ⟨o,ho,r2,W⟩ ?_;refine⟨B.heap.objs.size,[B.heap.objs.size],_,_,_,rfl,G.kept (t':=B.toks) λb o e=>TV _ e,My.y9 d _ o kvs es ep W J,⟨_,T8 _ rfl,rfl,rfl⟩,λb hb=>?_,q⟩;have e:b=B.heap.objs.size:=by simpa using hb
  subst e;exact G.fpOk (TR _) (G.hok.fresh (TR _))
 rcases q with⟨U,q⟩|⟨o,U,q⟩
 ·have ok:=(show ObjOk X.prog X.w H1 B.heap d (.dT kvs)from N.hok d _ U)
  obtain⟨lo,_,es,ep,⟨o,F,r2,W⟩,J,_⟩:=My.mE ok;have G:=My.uZ N U F;have Y:=(show ObjOk X.prog X.w _ B.heap d (.frz o (.dT kvs))from G.hok d _ aF);exact M o _ lo G F Y.2 (q o)
 ·have ok:=(show ObjOk X.prog X.w H1 B.heap d (.frz o (.dT kvs))from N.hok d _ U)
  obtain⟨lo,_⟩:=My.mE ok.2;exact M o H1 lo N ok.1 ok.2 q
theorem xN{a:Addr}{o:Obj}{xs:List (List Key×V)}{l:List (List Key×D)}(e:xs.map (·.1)=l.map (·.1)):v7 (My.QD a o xs) [.fz a o (.dT xs)] (l.map λp=>.tup (p.1.map AD)):=by
 intro A H U h i;have F:H a=some (.frz o (.dT xs)):=h _ (List.mem_singleton.mpr rfl);have W:xs.length=l.length:=by have:=congrArg V6 e;simpa using this
 refine⟨λhi=>⟨F,by rw[TL]at hi;lia⟩,λd B=>?_⟩;rw[T6]at B;obtain⟨p,q,rfl⟩:=map_some B;have hi:i<l.length:=(List.getElem?_eq_some_iff.mp q).1;refine⟨⟨F,by lia⟩,λx H' ⟨J,k,v,b,M,G,N⟩=>?_⟩;subst J G;have:k=p.1:=by
  have h1:(xs.map (·.1))[i]?=some k:=by rw[T6,M];rfl
  rw[e,T6,q]at h1;exact(UF h1).symm
 subst this;exact⟨Ext.refl _ _,.tup N (lW _)⟩
theorem F5(n:¬ A d)(B:H d=some u)(F:NM u)(G:¬ Kp u):Ext A H (upd H d (.frz o u)) where
 rd:=λb w r=>by
  by_cases e:b=d
  ·subst e
   rcases r with r|⟨q,r⟩
   ·rw[B]at r;cases r;exact .inr ⟨o,aF⟩
   ·rw[B]at r;cases r;exact F.elim
  ·exact c7 e r
 kp:=λb w k r=>by rw[aC (λz=>by subst z;rw[B]at r;cases r;exact G k)];exact r
 ow:=λb w J r=>by rw[aC (λz=>n (by rw[<- z];exact J))];exact r
 fz:=λb q w r=>by rw[aC (λz=>by subst z;rw[B]at r;cases r;exact F)];exact r
theorem G1(h:PD X O e f):PDI X O tg e (D8 f):=PI.mono (PI.or (PI.or (FC h) (JR h)) (BO h)) <| by
 rintro σ H R ⟨H0,A0,A,E,ρ,items,st,e,q⟩;obtain⟨d,J,e⟩:=bind_some e;cases d with
 | lst l=>
  cases e;refine .inl (.inl ⟨H0,A0,A,E,ρ,_,st,J,λv H1 G F=>?_⟩);obtain⟨a,xs,rfl,h1,M⟩:=RepB.lst_inv (.of F);exact⟨a,rfl,⟨xs,.inl h1⟩,q _ H1 [.rep (.lst items) (.ref a)] G (λp B=>by rw[List.mem_singleton.mp B];exact F) GK⟩
 | tup l=>
  cases e;refine .inl (.inr ⟨H0,A0,A,E,ρ,_,st,J,λv H1 G F=>?_⟩);obtain⟨a,xs,rfl,h1,M⟩:=RepB.tup_inv (.of F);exact⟨a,rfl,⟨xs,.inl (.inl h1)⟩,q _ H1 [.rep (.tup items) (.ref a)] G (λp B=>by rw[List.mem_singleton.mp B];exact F) JF⟩
 | dT l=>
  cases e;refine .inr ⟨H0,A0,A,E,ρ,_,st,J,λv H1 G F=>?_⟩;cases F with
  | @dT _ a xs n h ee M=>
   refine⟨a,xs,rfl,?_⟩;rcases h with h|⟨o,h⟩
   ·refine .inl ⟨h,λo=>q _ _ [.fz a o (.dT xs)] (G.trans (F5 n h trivial λz=>z)) (λp B=>by rw[List.mem_singleton.mp B];exact aF) (xN ee)⟩
   ·exact .inr ⟨o,h,q _ H1 [.fz a o (.dT xs)] G (λp B=>by rw[List.mem_singleton.mp B];exact h) (xN ee)⟩
 | _=>cases e
def iM(g:Gv)(body:Sv):List D->bJ->Option Out
 | [],ρ=>some (.nx ρ)
 | x::xs,ρ=>(g x ρ).bind λρ1=>(body ρ1).bind λo=>match o with
  | .nx ρ2=>iM g body xs ρ2
  | .ct ρ2=>iM g body xs ρ2
  | .bk ρ2=>some (.nx ρ2)
  | .rt d=>some (.rt d)
def nC(f:Lv)(g:Gv)(body:Sv):Sv:=λρ=>(f ρ).bind λitems=>iM g body items ρ
theorem ST.both(s:ST H0 A0 A E O σ H ρ)(h:∀p∈E1,p.Holds A H):ST H0 A0 A (E1++E) O σ H ρ:=
 {s with ext:=λp q=>by rcases List.mem_append.mp q with e|e;exact h p e;exact s.ext p e}
theorem HJ(hp:W6 (model X.prog X.w) X.A X.env X.xe)(hc:X.calm=true)(hi:PDI X O tg iter f)(hg:rF X O1 tg g)(hb:b7 X ⟨Ob,O1⟩ O1 body b O1)(h1:Sub O1 O=true)(h2:Sub O' O1=true)(h3:Sub O' Ob=true)
  (hs:∀x,VC iter X.env x=pure x:=by intro _;rfl):eJ X L O (.For tg iter body [] pos) (nC f g b) O':=PS.mono (JK hp hc hi hg hb hs) λT σ H ⟨H0,A0,A,E,ρ,Y,st,e,p⟩=>by
 obtain⟨items,e1,e⟩:=bind_some e;refine⟨H0,A0,A,E,ρ,items,st,e1,λJ H1 M x1 ae J1=>?_⟩;obtain⟨A1,ad⟩:=((st.mono x1).both ae).shut (Sub.mem h1);refine⟨λi m σ H=>m=items.length-i/\i<=items.length/\∃ρ A,ST H0 A0 A (M++E) O1 σ H ρ/\iM g b (items.drop i) ρ=some Y,⟨items.length,by simp,U4 _,ρ,A1,ad,e⟩,?_⟩;rintro i m σ H ⟨rfl,al,ρ,A,st,e⟩;have hE:∀p∈M,p.Holds A H:=λp hp=>st.ext p (W5 _ hp)
 obtain⟨W,go⟩:=J1 A H st.live hE i;have fin:∀ {O2:List Nat} {A:Av} {σ:L2.St} {H:Hp} {ρ:bJ},Sub O' O2=true->ST H0 A0 A (M++E) O2 σ H ρ->(∀A σ H,ST H0 A0 A E O' σ H ρ->T.nx σ H)->T.nx σ H:=λhs st k=>by
  obtain⟨B,ab⟩:=(st.less (E':=E) λq hq=>VU _ hq).shut (Sub.mem hs);exact k B _ _ ab
 by_cases F:i<items.length
 ·have ed:items[i]?=some items[i]:=by simp[F]
  obtain⟨ac,hy⟩:=go _ ed;rw[YM F]at e;obtain⟨ρ1,eg,e⟩:=bind_some e;obtain⟨o,eo,e⟩:=bind_some e;refine .inr ⟨ac,λN H'=>∃ρ2 B,ST H0 A0 B (M++E) O1 N H' ρ2/\iM g b (items.drop (i+1)) ρ2=some Y,λN H' ⟨ρ2,B,G,e2⟩=>⟨items.length-(i+1),by lia,rfl,F,ρ2,B,G,e2⟩,λx H' y=>?_⟩;obtain⟨x2,r2⟩:=hy x H' y;refine⟨H0,A0,A,M++E,ρ,_,ρ1,st.mono x2,r2,eg,λap s1=>⟨H0,A0,A,M++E,ρ1,o,s1,eo,?_⟩⟩;cases o with
  | nx ρ2=>exact λB U H2 G=>⟨ρ2,B,G,e⟩
  | ct ρ2=>exact λB U H2 G=>⟨ρ2,B,G,e⟩
  | bk ρ2=>cases e;exact λB U H2 G=>fin h3 G p
  | rt d=>cases e;exact p
 ·have aa:i=items.length:=by lia
  subst aa;rw[zas]at e;cases e;exact .inl ⟨W (TR _),fin h2 st p⟩
end
noncomputable def cM(cells:List (Str×Addr)):List (Str×V5)->List (Str×Addr)->List (Str×Addr)
 | [],cs=>cs
 | (x,k)::r,cs=>cM cells r (if k == .free then(x,(cells.lookup x).getD 0)::cs else cs)
theorem nI:∀(names:List (Str×V5)) (cs:List (Str×Addr)),(∀y∈names,y.2=.free->∃c,env.cells.lookup y.1=some c)->
  (forIn names cs (λ(p:Str×V5) (r:List (Str×Addr))=>if(p.2 == .free)=true then(do let c <- cellOf env p.1;pure (XI ((p.1,c)::r)))else(pure (XI r):Sem _)))=(pure (cM env.cells names cs):Sem _)
 | [],cs,_=>by simp[cM]
 | (x,k)::r,cs,h=>by
  have ih:=λcs=>nI r cs λy F=>h y (UG _ F)
  rw[List.forIn_cons];by_cases e:(k == WO)=true
  ·have G:k=.free:=by simpa using e
   obtain⟨c,B⟩:=h (x,k) (UL ..) G;have q:env.cells.lookup x=some c:=B;simp only[e,if_true,cM];have:cellOf env x=pure c:=by unfold cellOf;rw[q]
   rw[this];simp only[pure_bind,q,Option.getD_some];exact ih _
  ·simp only[e,cM]
   simp only[WN,if_false,pure_bind];exact ih _
theorem F6(h:∀y∈scope.names,y.2=.free->∃c,env.cells.lookup y.1=some c):closureFor scope env=pure (cM env.cells scope.names []):=by
 have:=nI scope.names [] h;unfold closureFor;simp only[bind_pure];exact this
theorem sX:∀ {names:List (Str×V5)} {cs:List (Str×Addr)} {c:Addr},(cM cells names cs).lookup x=some c->(∃q,cs.lookup x=some q/\c=q)\/((x,WO)∈names/\c=(cells.lookup x).getD 0)
 | [],cs,c,h=>.inl ⟨c,h,rfl⟩
 | (y,k)::r,cs,c,h=>by
  rw[cM]at h;rcases sX h with⟨q,h1,h2⟩|⟨h1,h2⟩
  ·by_cases e:(k == WO)=true
   ·rw[if_pos e,YN]at h1
    by_cases ex:(x == y)=true
    ·rw[ex]at h1
     have B:x=y:=by simpa using ex
     have F:k=.free:=by simpa using e
     subst B F;cases h1;exact .inr ⟨UL ..,h2⟩
    ·rw[YO]at ex
     rw[ex]at h1;exact .inl ⟨q,h1,h2⟩
   ·rw[if_neg e]at h1
    exact .inl ⟨q,h1,h2⟩
  ·exact .inr ⟨UG _ h1,h2⟩
theorem tJ:∀ {names:List (Str×V5)} {cs:List (Str×Addr)},((x,WO)∈names\/∃c,cs.lookup x=some c)->∃c,(cM cells names cs).lookup x=some c
 | [],cs,h=>h.elim (λh=>nomatch h) id
 | (y,k)::r,cs,h=>by
  rw[cM];apply tJ;rcases h with h|⟨c,h⟩
  ·rcases List.mem_cons.mp h with e|e
   ·cases e
    refine .inr ⟨(cells.lookup x).getD 0,?_⟩;simp[YN]
   ·exact .inl e
  ·right
   by_cases e:(k == WO)=true
   ·rw[if_pos e,YN]
    by_cases ex:(x == y)=true
    ·rw[ex];exact⟨_,rfl⟩
    ·rw[YO]at ex;rw[ex];exact⟨c,h⟩
   ·rw[if_neg e];exact⟨c,h⟩
theorem cT{q:Type}{v:q}:∀ {l:List (Str×q)},l.lookup x=some v->(x,v)∈l
 | (y,w)::r,h=>by
  rw[YN]at h;by_cases ex:(x == y)=true
  ·rw[ex]at h;cases h;rw[show x=y by simpa using ex];exact UL ..
  ·rw[YO]at ex;rw[ex]at h;exact UG _ (cT h)
noncomputable def oV(names q:List (Str×V5)):Bool:=
 names.all λy=>y.2 != .cell && (y.2 != .local || names.lookup y.1 == some .local) && (y.2 != .free || q.lookup y.1 == some .cell)
theorem mL{X:Cx}{N:List Str}{scope:Scope}{n:Nat}(hk:scope.kind=.function)(h:oV scope.names X.env.scope.names=true)(hc:X.env.cells=WI n X.env.scope.names []):My.Clo X N scope (cM X.env.cells scope.names []):=by
 have h':=List.all_eq_true.mp h;have Y:∀y∈scope.names,y.2≠.cell:=λy F=>by
  have:=h' y F;simp only[UE]at this;simpa using this.1.1
 have c2:∀y∈scope.names,y.2=.local->scope.names.lookup y.1=some .local:=λy F e=>by
  have:=h' y F;simp only[UE,zat]at this;rcases this.1.2 with z|z
  ·rw[e]at z;exact absurd z (by decide)
  ·simpa using z
 have c3:∀y∈scope.names,y.2=.free->∃c,X.env.cells.lookup y.1=some c:=λy F e=>by
  have:=h' y F;simp only[UE,zat]at this;rcases this.2 with z|z
  ·rw[e]at z;exact absurd z (by decide)
  ·rw[hc];exact l5 (sc:=X.env.scope) (by simpa using z)
 have B:∀x,((VY scope X.env).names.lookup x=some .cell\/(VY scope X.env).names.lookup x=some .free)->(x,WO)∈scope.names:=λx G=>by
  have M:∀U,(U=NameKind.cell\/U=WO)->(x,U)∈(VY scope X.env).names->(x,WO)∈scope.names:=λU W hm=>by
   obtain⟨⟨y,k⟩,F,e⟩:=List.mem_map.mp hm;dsimp only at e;by_cases q:(k == WO && X.env.scope.kind == .function && X.env.kindOf y == some .cell)=true
   ·rw[if_pos q]at e
    have:k=.free:=by simp only[UE]at q;simpa using q.1.1
    cases e;subst this;exact F
   ·rw[if_neg q]at e
    cases e;rcases W with z|z
    ·exact absurd z (Y _ F)
    ·subst z;exact F
  rcases G with G|G
  ·exact M _ (.inl rfl) (cT G)
  ·exact M _ (.inr rfl) (cT G)
 refine⟨F6 c3,hk,Y,c2,λx c e=>?_,λx G=>tJ (.inl (B x G))⟩;rcases sX e with⟨c',z,_⟩|⟨z1,z2⟩
 ·cases z
 ·obtain⟨c0,J⟩:=c3 _ z1 rfl
  have J:X.env.cells.lookup x=some c0:=J;rw[z2,J];rfl
noncomputable def bI(X:Cx)(scope:Scope):List Str->List (Option Nat)->Prop
 | [],[]=>True
 | _::N,none::ms=>bI X scope N ms
 | x::N,some i::ms=>(X.N[i]?=some x/\((VY scope X.env).names.lookup x == some NameKind.local)=false/\(X.env.kindOf x=some .cell\/X.env.kindOf x=some .free))/\bI X scope N ms
 | _,_=>False
noncomputable def i5{q:Type}(ms:List (Option Nat))(σ:List (Option q)):List (Option q):=ms.map λo=>o.bind λi=>(σ[i]?).join
theorem eL:∀ {N:List Str} {ms:List (Option Nat)},bI X scope N ms->ms.length=N.length/\∀(j:Nat) (x:Str) (i:Nat),N[j]?=some x->ms[j]?=some (some i)->X.N[i]?=some x/\(VY scope X.env).names.lookup x≠some .local/\(X.env.kindOf x=some .cell\/X.env.kindOf x=some .free)
 | [],[],_=>⟨rfl,λj x i h _=>by simp at h⟩
 | y::N,none::ms,h=>by
  obtain⟨l,g⟩:=eL (N:=N) (ms:=ms) h;refine⟨by simp[l],λj x i h1 h2=>?_⟩;cases j with
  | zero=>simp at h2
  | succ j=>exact g j x i (by simpa using h1) (by simpa using h2)
 | y::N,some k::ms,h=>by
  obtain⟨l,g⟩:=eL (N:=N) (ms:=ms) h.2;refine⟨by simp[l],λj x i h1 h2=>?_⟩;cases j with
  | zero=>simp at h1 h2;subst h1 h2;exact⟨h.1.1,λz=>by have:=h.1.2.1;rw[z]at this;exact absurd this (by decide),h.1.2.2⟩
  | succ j=>exact g j x i (by simpa using h1) (by simpa using h2)
 | [],_::_,h=>h.elim
 | _::_,[],h=>h.elim
theorem kJ{q:Type}{ms:List (Option Nat)}{σ:List (Option q)}{j:Nat}{v:q}(h:(i5 ms σ)[j]?=some (some v)):∃i:Nat,ms[j]?=some (some i)/\σ[i]?=some (some v):=by
 unfold i5 at h;rw[T6]at h;obtain⟨o,F,B⟩:=map_some h;cases o with
 | none=>cases B
 | some i=>exact⟨i,F,kX B⟩
theorem tI{N:List Str}{ms:List (Option Nat)}(h:bI X scope N ms)(σ:L2.St):My.Start X N scope σ (i5 ms σ):=by
 obtain⟨l,g⟩:=eL h;refine⟨by unfold i5;rw[TL];exact l,λj x v h1 h2 _=>?_⟩;obtain⟨i,q,B⟩:=kJ h2;obtain⟨a,b,c⟩:=g j x i h1 q;exact⟨b,i,a,B,c⟩
theorem ST.inner{E:List Fact}{O:List Nat}(s:ST H0 A0 A E O σ H ρ)(ms:List (Option Nat))(n:∀i,some i∈ms->i∉O):ST H0 A0 A E [] (i5 ms σ) H (i5 ms ρ) where
 ex:=s.ex
 sub:=s.sub
 l0:=s.l0
 live:=s.live
 len:=by simp[i5]
 val:=λj d h _=>by
  obtain⟨i,q,B⟩:=kJ h;obtain⟨v,F,r⟩:=s.val i d B (n i (U9 q));refine⟨v,?_,r⟩;unfold i5;rw[T6,q];show some ((σ[i]?).join)=_;rw[F];rfl
 own:=λj d _ h=>nomatch h
 inj:=λi j d d' a hi=>nomatch hi
 ext:=s.ext
def bF(g:Gv)(c:Bv)(f:Ev):List D->bJ->Option (List D)
 | [],_=>some []
 | x::xs,ρ=>(g x ρ).bind λρ1=>(c ρ1).bind λb=>if b=true then(f ρ1).bind λd=>(bF g c f xs ρ1).bind λds=>some (d::ds)else bF g c f xs ρ1
def eD(ms:List (Option Nat))(it:Lv)(g:Gv)(c:Bv)(f:Ev):Ev:=λρ=>(it ρ).bind λitems=>if aX items.length then(bF g c f items (i5 ms ρ)).map .lst else none
def mS:Bv:=λ_=>some true
theorem sQ:My.uE X [] (tDT O mS):=λpins s σ H Q I ⟨H0,A0,A,E,ρ,b,st,e,q⟩=>My.EW pins s σ H Q I (by cases e;exact q H (Ext.refl _ _))
theorem BL(h:i6 X O c g):My.uE X [c] (tDT O g):=My.G9 h
section
variable {X:Cx}{O:List Nat}
theorem g7(a3:bI X scope N ms)(hn:(ms.all λo=>match o with|some i=>!O.contains i|none=>true)=true)(σ:L2.St)(H:Hp)(Q:VK) :
  tF O (eD ms it g c f) σ H Q->My.xV (tDI O it) (tDG [] g) (tDT [] c) (tD Rep [] f) (My.Start X N scope) σ H Q:=λ⟨H0,A0,A,E,ρ,d,st,e,q⟩=>by
 obtain⟨items,e1,e⟩:=bind_some e;by_cases hz:aX items.length=true
 case neg=>rw[if_neg hz]at e;cases e
 rw[if_pos hz]at e;obtain⟨ds,e2,rfl⟩:=map_some e;have a1:∀i,some i∈ms->i∉O:=λi hi z=>by
  have:=List.all_eq_true.mp hn _ hi;simp only[Bool.not_eq_true']at this;have z':O.contains i=true:=by simpa using z
  rw[z']at this;cases this
 refine⟨i5 ms σ,tI a3 σ,H0,A0,A,E,ρ,items,st,e1,λJ H1 E1 x1 ba J1 D hD=>?_⟩;have ax:=(st.mono x1).live;have nA:¬ A D:=λz=>ax D z hD
 have n0:H D=none:=x1.free hD
 -- the state of the block: the list that grows stands outside all that is borne
 refine⟨λi m ai us H2=>m=items.length-i/\i<=items.length/\∃ρ2 done rest,ST H0 A0 (λb=>A b\/b=D) (E1++E) [] ai H2 ρ2/\H2 D=some (.lst us)/\Ext A H H2/\RepL (λb=>A b\/b=D) H2 done us/\bF g c f (items.drop i) ρ2=some rest/\done++rest=ds/\done.length<=i,⟨items.length,by simp,U4 _,i5 ms ρ,[],ds,?_,aF,x1.trans (Ext.new hD),.nil,e2,rfl,TR _⟩,?_⟩
 ·have s1:=((st.mono x1).both ba).inner ms a1
  have up:∀a,(A a\/a=D)->A a\/H1 a=none:=λa F=>F.imp id λz=>by rw[z];exact hD
  refine⟨s1.ex.trans (Ext.new hD),λa F=>.inl (s1.sub a F),s1.l0,λa F=>?_,s1.len,λi d h n=>?_,(λi d _ h=>nomatch h),(λi j d d' a hi=>nomatch hi),λp hp=>Fact.ext (Ext.new hD) (Fact.av up (s1.ext p hp))⟩
  ·rcases F with F|F
   ·rw[aC (λz=>by subst z;exact nA F)];exact s1.live a F
   ·subst F;rw[aF];exact λz=>nomatch z
  ·obtain⟨v,h1,h2⟩:=s1.val i d h n
   exact⟨v,h1,(h2.av up).ext (Ext.new hD)⟩
 ·rintro i m ai us H2 ⟨rfl,bj,ρ2,done,rest,s2,ag,x2,aa,G,ed,ay⟩
  obtain⟨al,go⟩:=J1 _ H2 s2.live (λp hp=>s2.ext p (W5 _ hp)) i;by_cases M:i<items.length
  ·have eg:items[i]?=some items[i]:=by simp[M]
   obtain⟨a2,hy⟩:=go _ eg;rw[YM M]at G;obtain⟨U,e3,G⟩:=bind_some G;obtain⟨b,e4,G⟩:=bind_some G;have aj:us.length<TK:=by
    rw[aa.length];exact YB ay (U2 M (dI hz))
   refine .inr ⟨a2,aj,λx H3 y=>?_⟩;obtain⟨x3,r3⟩:=hy x H3 y;refine⟨H0,A0,_,E1++E,ρ2,_,U,s2.mono x3,r3,e3,λbn s3=>⟨H0,A0,_,E1++E,U,b,s3,e4,λH5 x5=>?_⟩⟩;have Y:=x3.trans x5;have ak:H5 D=some (.lst us):=Y.ow D _ (.inr rfl) ag;have an:Ext A H H5:=x2.trans (Y.mono λa F=>.inl F);cases b with
   | false=>
    rw[if_neg TZ]at G;exact QU ⟨ak,items.length-(i+1),by lia,rfl,M,U,done,rest,s3.mono x5,ak,an,aa.ext Y,G,ed,by lia⟩
   | true=>
    rw[if_pos rfl]at G;refine P2 ?_;obtain⟨d,e6,G⟩:=bind_some G;obtain⟨af,e7,G⟩:=bind_some G;cases G;refine⟨H0,A0,_,E1++E,U,d,s3.mono x5,e6,λv H6 x6 r6=>?_⟩;have am:=Y.trans x6;have ab:H6 D=some (.lst us):=am.ow D _ (.inr rfl) ag;refine⟨ab,items.length-(i+1),by lia,rfl,M,U,done++[d],af,?_,aF,?_,((aa.ext am).append (.cons r6 .nil)).put (.inr rfl) ab trivial,e7,by rw[<- ed];simp,by rw[VN];show done.length+1<=i+1;lia⟩
    ·have W:=s3.mono (x5.trans x6)
     have a4:H0 D=none:=st.ex.free n0;have B:∀b,H0 b≠none->b≠D:=λb hb z=>hb (by rw[z];exact a4)
     refine⟨⟨λb w r=>c7 (B b (by rcases r with r|⟨_,r⟩ <;> (rw[r];exact λz=>nomatch z))) (W.ex.rd b w r),λb xs k r=>?_,λb w n r=>?_,λb q w r=>?_⟩,W.sub,W.l0,λa F=>?_,W.len,λi d h n=>?_,(λi d _ h=>nomatch h),(λi j d d' a hi=>nomatch hi),λp hp=>Fact.put (.inr rfl) ab trivial (W.ext p hp)⟩
     ·rw[aC (B b (by rw[r];exact λz=>nomatch z))];exact W.ex.kp b xs k r
     ·rw[aC (B b (by rw[r];exact λz=>nomatch z))];exact W.ex.ow b w n r
     ·rw[aC (B b (by rw[r];exact λz=>nomatch z))];exact W.ex.fz b q w r
     ·by_cases z:a=D
      ·subst z;rw[aF];exact λz=>nomatch z
      ·rw[aC z];exact W.live a F
     ·obtain⟨v,h1,h2⟩:=W.val i d h n
      exact⟨v,h1,h2.put (.inr rfl) ab trivial⟩
    ·have ac:Ext A H H6:=an.trans (x6.mono λa F=>.inl F)
     have B:∀b,H b≠none->b≠D:=λb hb z=>hb (by rw[z];exact n0)
     exact⟨λb w r=>c7 (B b (by rcases r with r|⟨_,r⟩ <;> (rw[r];exact λz=>nomatch z))) (ac.rd b w r),
      λb xs k r=>by rw[aC (B b (by rw[r];exact λz=>nomatch z))];exact ac.kp b xs k r,
      λb w n r=>by rw[aC (B b (by rw[r];exact λz=>nomatch z))];exact ac.ow b w n r,
      λb q w r=>by rw[aC (B b (by rw[r];exact λz=>nomatch z))];exact ac.fz b q w r⟩
  ·have aw:i=items.length:=by lia
   subst aw;rw[zas]at G;cases G;rw[W9]at ed;subst ed;exact .inl ⟨al (TR _),q D H2 x2 n0 nA (.lst ag aa)⟩
theorem EX
  (J:X.calm=true) (M:My.Clo X N scope cl) (q:bI X scope N ms) (U:(ms.all λo=>match o with|some i=>!O.contains i|none=>true)=true) (hi:PDI X O tg iter it) (F:∀C s H fp,rF (My.aL X N scope cl C s H fp) [] tg g)
  (B:∀C s H fp,My.uE (My.aL X N scope cl C s H fp) ifs (tDT [] c)) (G:∀C s H fp,PD (My.aL X N scope cl C s H fp) [] elt f) (hs:∀x,VC iter X.env x=pure x:=by intro _;rfl) :
  PF X O (.ListComp elt [⟨tg,iter,ifs,0⟩] scope pos) (eD ms it g c f):=PE.mono (My.G7 J M hi F B G hs) (g7 q U)
def aH(n:Nat)(ds:List D):bJ:=ds.map some++UA (n-ds.length) none
def bQ(n:Nat)(f:Sv)(ds:List D):Option D:=(f (aH n ds)).bind λo=>match o with
 | .rt d=>some d
 | .nx _=>some .non
 | _=>none
theorem ST.begun(q:Live A H)(r:RepL A H ds vs):ST H A A [] [] (L2.start N vs) H (aH N.length ds) where
 ex:=Ext.refl _ _
 sub:=λ_ h=>h
 l0:=q
 live:=q
 len:=by unfold L2.start aH;simp[r.length]
 val:=λi d h _=>by
  unfold aH at h;by_cases hi:i<ds.length
  ·rw[XA (by simpa using hi),T6]at h
   obtain⟨d',F,J⟩:=map_some h;cases J;obtain⟨v,M,B⟩:=r.get' F;refine⟨v,?_,B⟩;unfold L2.start;rw[XA (by rw[TL,r.length];exact hi),T6,M];rfl
  ·rw[Y1 (by simpa using hi),Z8]at h
   split at h <;> cases h
 own:=λi d _ h=>nomatch h
 inj:=λi j d d' a hi=>nomatch hi
 ext:=λp G=>nomatch G
theorem IZ{P:TJ}{w:World}{K:S9}{mg:Str->Option Value}{base:Heap}{x:Str}{st:Stmt}{N ps:List Str}{k:Nat}{f:Sv}{O':List Nat}(Df:My.DefAt K mg x st ps)(S:FnScope N ps (aE st))
  (h:∀(J:Addr) (F:Value) (A:TX) (B:List Env) (s:S8) (H:Hp) (E:XK),Room k (A.deeper (UX x (aE st) s.heap.objs.size J F))->∃g,b7 (iL uD P w K mg base N x (aE st) J F A B s H E).nox ⟨[],[]⟩ [] (a6 st) g O'/\g=f) :
  Fn P w K mg base x (k+1) ps (bQ N.length f):=by
 refine My.BodyOk.ok (λJ F A B s H vs Q E hr G=>?_) Df S (λvs H Q E G=>by obtain⟨A,ds,d,_,_,e,_⟩:=G;exact e);obtain⟨U,ds,d,W,r,e,eF,q⟩:=G;obtain⟨o,Y,M⟩:=bind_some eF;obtain⟨g,hg,rfl⟩:=h J F A B s H E hr;refine⟨_,hg,H,U,U,[],_,o,ST.begun W r,Y,?_⟩;cases o with
 | nx ρ=>cases M;exact λA2 ac H2 s2=>q .non H2 s2.ex .non
 | rt d'=>cases M;exact λv H2 x2 r2=>q v H2 x2 r2
 | bk _=>cases M
 | ct _=>cases M
noncomputable def C3(K:S9):Bool:=K.all λp=>match p.2.cls with
 | .type "list" => false
 | _=>true
theorem zW{K:S9}(h:C3 K=true){a:Addr}{o:Obj}(e:K.lookup a=some o):o.cls≠.type "list" := λz=>by
 have m:∀ {K:S9},K.lookup a=some o->(a,o)∈K:=by
  intro K;induction K with
  | nil=>intro e;cases e
  | cons p r ih=>
   intro e;rw[YN]at e;by_cases q:(a == p.1)=true
   ·rw[q]at e;cases e;rw[show a=p.1 by simpa using q];exact UL ..
   ·rw[YO]at q;rw[q]at e;exact UG _ (ih e)
 have:=List.all_eq_true.mp h _ (m e);dsimp only at this;rw[z]at this;exact absurd this (by decide)
theorem K1{P:TJ}{w:World}{K:S9}{mg:Str->Option Value}{base:Heap}{st:Stmt}{N:List Str}{k:Nat}{f:Sv}{O':List Nat}(hK:C3 K=true)
  (h:∀(J:Addr) (F:Value) (A:TX) (B:List Env) (s:S8) (H:Hp) (E:XK),Room k (A.deeper (UX "law" (aE st) s.heap.objs.size J F))->∃g,b7 (iL uD P w K mg base N "law" (aE st) J F A B s H E).nox ⟨[],[]⟩ [] (a6 st) g O'/\g=f)
  (hv:∀ns:List Int,ns.length<=63->bQ N.length f [.lst (ns.map .int)]=some (.bl true)):My.BodyOk P w K mg base "law" st N k (My.t6 K):=by
 refine λJ F A B s H vs Q E hr W=>?_
 obtain⟨a,ns,rfl,U,hl,q⟩:=W;have hR:Rd H a (.lst (ns.map V.int)):=by
  rcases U with U|⟨o,_,_,e,c,_⟩
  ·exact U
  ·exact absurd c (zW hK e)
 have Y:Live (λ_=>False) H:=λa h=>h.elim
 have G:∀ns:List Int,RepL (λ_=>False) H (ns.map .int) (ns.map V.int):=λns=>by
  induction ns with
  | nil=>exact .nil
  | cons n ns ih=>exact .cons (.int n) ih
 obtain⟨o,eo,M⟩:=bind_some (hv ns hl);obtain⟨g,hg,rfl⟩:=h J F A B s H E hr;refine⟨_,hg,H,λ_=>False,λ_=>False,[],_,o,ST.begun Y (.cons (.lst (λz=>z) hR (G ns)) .nil),eo,?_⟩;cases o with
 | nx ρ=>cases M
 | rt d'=>cases M;exact λv H2 x2 r2=>by cases r2;exact q _
 | bk _=>cases M
 | ct _=>cases M
end
mutual
def e8:D->Option My.Dx
 | .non=>some .non
 | .bl b=>some (.bl b)
 | .int i=>some (.int i)
 | .str x=>some (.str x)
 | .tup l=>(gM l).map .tup
 | .lst l=>(gM l).map .lst
 | .dK _=>none
 | .dT _=>none
def gM:List D->Option (List My.Dx)
 | []=>some []
 | d::ds=>(e8 d).bind λx=>(gM ds).bind λxs=>some (x::xs)
end
mutual
theorem j8:∀ {d e:D} {x:My.Dx},e8 d=some x->e8 e=some x->d=e
 | .non,e,x,h,k=>by cases h;cases e <;> simp[e8]at k <;> first|rfl|(obtain⟨_,_,z⟩:=k;cases z)
 | .bl b,e,x,h,k=>by cases h;cases e <;> simp[e8]at k <;> first|(rw[k])|(obtain⟨_,_,z⟩:=k;cases z)
 | .int b,e,x,h,k=>by cases h;cases e <;> simp[e8]at k <;> first|(rw[k])|(obtain⟨_,_,z⟩:=k;cases z)
 | .str b,e,x,h,k=>by cases h;cases e <;> simp[e8]at k <;> first|(rw[k])|(obtain⟨_,_,z⟩:=k;cases z)
 | .tup l,e,x,h,k=>by
  rw[e8]at h;obtain⟨xs,h1,rfl⟩:=map_some h;cases e with
  | tup m=>
   rw[e8]at k;obtain⟨ys,B,q⟩:=map_some k;cases q;rw[l7 h1 B]
  | lst m=>rw[e8]at k;obtain⟨ys,B,q⟩:=map_some k;cases q
  | _=>simp[e8]at k
 | .lst l,e,x,h,k=>by
  rw[e8]at h;obtain⟨xs,h1,rfl⟩:=map_some h;cases e with
  | lst m=>
   rw[e8]at k;obtain⟨ys,B,q⟩:=map_some k;cases q;rw[l7 h1 B]
  | tup m=>rw[e8]at k;obtain⟨ys,B,q⟩:=map_some k;cases q
  | _=>simp[e8]at k
 | .dK _,e,x,h,k=>by rw[e8]at h;cases h
 | .dT _,e,x,h,k=>by rw[e8]at h;cases h
theorem l7:∀ {d e:List D} {x:List My.Dx},gM d=some x->gM e=some x->d=e
 | [],e,x,h,k=>by
  rw[gM]at h;cases h;cases e with
  | nil=>rfl
  | cons e es=>
   rw[gM]at k;obtain⟨_,_,k⟩:=bind_some k;obtain⟨_,_,k⟩:=bind_some k;cases k
 | d::ds,e,x,h,k=>by
  rw[gM]at h;obtain⟨y,h1,h⟩:=bind_some h;obtain⟨ys,h2,h⟩:=bind_some h;cases h;cases e with
  | nil=>rw[gM]at k;cases k
  | cons e es=>
   rw[gM]at k;obtain⟨z,B,k⟩:=bind_some k;obtain⟨zs,q,k⟩:=bind_some k;cases k;rw[j8 h1 B,l7 h2 q]
end
mutual
theorem qC{K:S9}{A:Av}{H:Hp}:∀ {d:D} {x:My.Dx} {v:V},e8 d=some x->Rep A H d v->My.Rep K H x v
 | .non,x,v,h,r=>by cases h;cases r;rw[My.Rep]
 | .bl b,x,v,h,r=>by cases h;cases r;rw[My.Rep]
 | .int b,x,v,h,r=>by cases h;cases r;rw[My.Rep]
 | .str b,x,v,h,r=>by cases h;cases r;rw[My.Rep]
 | .tup l,x,v,h,r=>by
  rw[e8]at h;obtain⟨xs,h1,rfl⟩:=map_some h;cases r with
  | tup hh rl=>rw[My.Rep];exact⟨_,_,rfl,.inl (.inl hh),hV h1 rl⟩
 | .lst l,x,v,h,r=>by
  rw[e8]at h;obtain⟨xs,h1,rfl⟩:=map_some h;cases r with
  | lst n hh rl=>rw[My.Rep];exact⟨_,_,rfl,.inl hh,hV h1 rl⟩
 | .dK _,x,v,h,r=>by rw[e8]at h;cases h
 | .dT _,x,v,h,r=>by rw[e8]at h;cases h
theorem hV{K:S9}{A:Av}{H:Hp}:∀ {d:List D} {x:List My.Dx} {v:List V},gM d=some x->RepL A H d v->My.RepL K H x v
 | [],x,v,h,r=>by rw[gM]at h;cases h;cases r;rw[My.RepL]
 | d::ds,x,v,h,r=>by
  rw[gM]at h;obtain⟨y,h1,h⟩:=bind_some h;obtain⟨ys,h2,h⟩:=bind_some h;cases h;cases r with
  | cons r rs=>rw[My.RepL];exact⟨_,_,rfl,qC h1 r,hV h2 rs⟩
end
theorem eS{K:S9}{A:Av}{H:Hp}{d:D}{x:My.Dx}{v:V}(h:e8 d=some x)(r:RepB A H d v):My.Rep K H x v:=by
 cases r with
 | of r=>exact qC h r
 | lst hh rl=>
  rw[e8]at h;obtain⟨xs,h1,rfl⟩:=map_some h;rw[My.Rep];exact⟨_,_,rfl,.inl hh,hV h1 rl⟩
 | dK=>rw[e8]at h;cases h
 | dT=>rw[e8]at h;cases h
def gN(d:D):Bool:=match e8 d with
 | some x=>x.nb && decide (x.dep<=60)
 | none=>false
noncomputable def M9:D->Bool
 | .tup _=>true | .lst _=>true|_=>false
noncomputable def IX:D->D->Bool
 | .non,.non=>true | .non,.int _=>true | .int _,.non=>true | .non,.bl _=>true | .bl _,.non=>true | .non,.str _=>true | .str _,.non=>true
 | .int _,.int _=>true | .bl _,.bl _=>true | .str _,.str _=>true
 | .int _,.str _=>true | .str _,.int _=>true | .bl _,.str _=>true | .str _,.bl _=>true
 | _,_=>false
open Classical in
def AM(d e:D):Option Bool:=if IX d e=true\/(M9 d=true/\M9 e=true/\gN d=true/\gN e=true)then some (decide (d=e))else none
def pF(d e:D):Option D:=(AM d e).map .bl
def AI(d e:D):Option D:=(AM d e).map λb=>.bl (!b)
theorem DD(h:IX d e=true)(r:RepB A H d v)(s:RepB A H e w):M4 v w=true/\(v=w↔d=e):=by
 cases d <;> cases e <;> first
  | (cases h;done)
  | (have:=r.non_inv;subst this;have:=s.non_inv;subst this;exact⟨rfl,by simp⟩)
  | (have:=r.non_inv;subst this;have:=s.int_inv;subst this;exact⟨rfl,by simp⟩)
  | (have:=r.non_inv;subst this;have:=s.bl_inv;subst this;exact⟨rfl,by simp⟩)
  | (have:=r.non_inv;subst this;have:=s.str_inv;subst this;exact⟨rfl,by simp⟩)
  | (have:=r.int_inv;subst this;have:=s.non_inv;subst this;exact⟨rfl,by simp⟩)
  | (have:=r.int_inv;subst this;have:=s.int_inv;subst this;exact⟨rfl,by simp⟩)
  | (have:=r.int_inv;subst this;have:=s.str_inv;subst this;exact⟨rfl,by simp⟩)
  | (have:=r.bl_inv;subst this;have:=s.non_inv;subst this;exact⟨rfl,by simp⟩)
  | (have:=r.bl_inv;subst this;have:=s.bl_inv;subst this;exact⟨rfl,by simp⟩)
  | (have:=r.bl_inv;subst this;have:=s.str_inv;subst this;exact⟨rfl,by simp⟩)
  | (have:=r.str_inv;subst this;have:=s.non_inv;subst this;exact⟨rfl,by simp⟩)
  | (have:=r.str_inv;subst this;have:=s.int_inv;subst this;exact⟨rfl,by simp⟩)
  | (have:=r.str_inv;subst this;have:=s.bl_inv;subst this;exact⟨rfl,by simp⟩)
  | (have:=r.str_inv;subst this;have:=s.str_inv;subst this;exact⟨rfl,by simp⟩)
section
variable {X:Cx}{O:List Nat}
theorem OpR.orM(h:OpR X f r)(h':OpR X f r')(x:∀a b H Q,r2 a b H Q->r a b H Q\/r' a b H Q):OpR X f r2:=OpR.mono (OpR.or h h') x
theorem iW(h:gN d=true):∃x,e8 d=some x/\x.nb=true/\x.dep<=60:=by
 unfold gN at h;cases e:e8 d with
 | none=>rw[e]at h;cases h
 | some x=>rw[e]at h;simp only[UE,decide_eq_true_eq]at h;exact⟨x,rfl,h.1,h.2⟩
theorem yA(h:M9 d=true)(e:e8 d=some x):x.seq=true:=by
 cases d with
 | tup l=>rw[e8]at e;obtain⟨xs,_,rfl⟩:=map_some e;rfl
 | lst l=>rw[e8]at e;obtain⟨xs,_,rfl⟩:=map_some e;rfl
 | _=>cases h
theorem OO(hu:X.A.units+64<cLine):eI X (TY .Eq) pF:=OpR.orM N1 (My.MB hu) <| by
 rintro x y H Q ⟨A,dx,W,d,lv,N,U,e,q⟩;obtain⟨b,F,rfl⟩:=map_some e;unfold AM at F;split at F
 case isFalse=>cases F
 rename_i hc;cases F;rcases hc with hs|⟨s1,s2,k1,k2⟩
 ·left
  obtain⟨h1,h2⟩:=DD hs N U;refine⟨h1,?_⟩;have:decide (x=y)=@decide (dx=W) (WV _):=decide_eq_decide.mpr h2;rw[this];exact q _ H (Ext.refl _ _) (.bl _)
 ·right
  obtain⟨J,G,Y,a3⟩:=iW k1;obtain⟨M,B,b2,b3⟩:=iW k2;refine⟨J,M,eS G N,eS B U,yA s1 G,yA s2 B,Y,b2,a3,?_⟩;have:@decide (J=M) (WV _)=@decide (dx=W) (WV _):=decide_eq_decide.mpr ⟨λz=>j8 G (z ▸ B),λz=>by subst z;rw[G]at B;exact UF B⟩;show Q (.bl (@decide (J=M) (WV _))) H;rw[this];exact q _ H (Ext.refl _ _) (.bl _)
theorem O0(hu:X.A.units+64<cLine):eI X (TY .NotEq) AI:=OpR.orM N3 (My.J2 hu) <| by
 rintro x y H Q ⟨A,dx,W,d,lv,N,U,e,q⟩;obtain⟨b,F,rfl⟩:=map_some e;unfold AM at F;split at F
 case isFalse=>cases F
 rename_i hc;cases F;rcases hc with hs|⟨s1,s2,k1,k2⟩
 ·left
  obtain⟨h1,h2⟩:=DD hs N U;refine⟨h1,?_⟩;have:decide (x=y)=@decide (dx=W) (WV _):=decide_eq_decide.mpr h2;rw[this];exact q _ H (Ext.refl _ _) (.bl _)
 ·right
  obtain⟨J,G,Y,a3⟩:=iW k1;obtain⟨M,B,b2,b3⟩:=iW k2;refine⟨J,M,eS G N,eS B U,yA s1 G,yA s2 B,Y,b2,a3,?_⟩;have:@decide (J=M) (WV _)=@decide (dx=W) (WV _):=decide_eq_decide.mpr ⟨λz=>j8 G (z ▸ B),λz=>by subst z;rw[G]at B;exact UF B⟩;show Q (.bl (!@decide (J=M) (WV _))) H;rw[this];exact q _ H (Ext.refl _ _) (.bl _)
theorem Inv.lstR(I:Inv X pins σ H s)(B:Rd H l (.lst xs)):xs.length<=TK/\∃(q:List Value) (n:Nat),Vals xs q/\xs.length=q.length/\s.heap.get? l=some {cls:=.type "list",data:=.seq q.toArray n}:=by
 obtain⟨hz,q,n,r,e⟩:=(show ObjOk X.prog X.w H s.heap l (.lst xs)from B.ok I.hok);exact⟨hz,q,n,r,r.length,e⟩
def NY:R2:=λx y H Q=>∃l b xs zs,x=.ref l/\y=.ref b/\Rd H l (.lst xs)/\Rd H b (.lst zs)/\xs.length+zs.length<=TK/\∀p,H p=none->Q (.ref p) (upd H p (.lst (xs++zs)))
theorem GM:OpR X (UP .Add) NY:=by
 intro pins s σ H x y v u Q I J M h;obtain⟨l,b,xs,zs,rfl,rfl,G,Y,hz,q⟩:=h;cases J;cases M;obtain⟨z,F,n,r,hl,e⟩:=Inv.lstR I G;obtain⟨z2,B,n2,N,U,W⟩:=Inv.lstR I Y;refine PySem.P.add_list e W ?_ (by rw[T3,T3];lia);have ea:F.toArray++B.toArray=(F++B).toArray:=by simp
 rw[ea];exact⟨.ref _,_,I.lnew (t':=s.toks) (r.append N) (by rw[VN];lia),rfl,q _ I.fresh⟩
end
section
variable {X:Cx}{O:List Nat}
theorem RepL.nil_iff(r:RepL A H ds vs):vs=[]↔ds=[]:=by cases r <;> simp
def oP:D->D->Option D
 | .int i,.int j=>some (.int (i+j))
 | .str i,.str j=>if aX (i.length+j.length)then some (.str (i++j))else none
 | .lst l,.lst m=>if aX (l.length+m.length)then some (.lst (l++m))else none
 | .tup (a::l),.tup m=>if aX (l.length+1+m.length)then some (.tup (a::l++m))else none
 | _,_=>none
theorem MU:eI X (UP .Add) oP:=OpR.mono (OpR.or (OpR.or LS uY) (OpR.or GM FQ)) <| by
 rintro x y H Q ⟨A,dx,G,d,U,M,N,e,q⟩;cases dx with
 | int i=>
  cases G with
  | int j=>cases e;have:=M.int_inv;subst this;have:=N.int_inv;subst this;exact .inl (.inl ⟨i,j,rfl,rfl,q _ H (Ext.refl _ _) (.int _)⟩)
  | _=>cases e
 | str i=>
  cases G with
  | str j=>
   simp only[oP]at e;by_cases hz:aX (i.length+j.length)=true
   ·rw[if_pos hz]at e;cases e;have:=M.str_inv;subst this;have:=N.str_inv;subst this
    exact .inl (.inr ⟨i,j,rfl,rfl,dI hz,q _ H (Ext.refl _ _) (.str _)⟩)
   ·rw[if_neg hz]at e;cases e
  | _=>cases e
 | lst l=>
  cases G with
  | lst m=>
   simp only[oP]at e;by_cases hz:aX (l.length+m.length)=true
   ·rw[if_pos hz]at e;cases e
    obtain⟨a,xs,rfl,h1,B⟩:=M.lst_inv;obtain⟨b,ys,rfl,h2,F⟩:=N.lst_inv;exact .inr (.inl ⟨a,b,xs,ys,rfl,rfl,h1,h2,by rw[B.length,F.length];exact dI hz,λp J=>q _ _ (Ext.new J) (.lst (λz=>U p z J) (.inl aF) ((B.append F).ext (Ext.new J)))⟩)
   ·rw[if_neg hz]at e;cases e
  | _=>cases e
 | tup l=>
  cases l with
  | nil=>cases G <;> cases e
  | cons a0 l=>
   cases G with
   | tup m=>
    simp only[oP]at e;by_cases hz:aX (l.length+1+m.length)=true
    ·rw[if_pos hz]at e;cases e
     obtain⟨a,xs,rfl,h1,B⟩:=M.tup_inv;obtain⟨b,ys,rfl,h2,F⟩:=N.tup_inv;refine .inr (.inr ⟨a,b,xs,ys,rfl,rfl,.inl (.inl h1),.inl (.inl h2),λz=>(by have:=B.nil_iff.mp z;cases this),by rw[B.length,F.length];exact dI hz,λz=>?_,λ_ p J=>q _ _ (Ext.new J) (.tup aF ((B.append F).ext (Ext.new J)))⟩);refine q _ H (Ext.refl _ _) (.tup h1 ?_);have:=F.nil_iff.mp z;subst this;rw[W9];exact B
    ·rw[if_neg hz]at e;cases e
   | _=>cases e
 | _=>cases G <;> cases e
noncomputable def d7:List D->Option (List Int)
 | []=>some []
 | .int i::ds=>(d7 ds).map (i::·)
 | _=>none
theorem dY:∀ {ds:List D} {ns:List Int} {vs:List V},d7 ds=some ns->RepL A H ds vs->vs=ns.map V.int
 | [],ns,vs,h,r=>by cases h;cases r;rfl
 | .int i::ds,ns,vs,h,r=>by
  obtain⟨ms,h1,rfl⟩:=map_some h;cases r with
  | cons r rs=>cases r;rw[dY h1 rs];rfl
def R3:D->D->Option D
 | .int i,.int j=>some (.bl (decide (i<j)))
 | .tup l,.tup m=>(d7 l).bind λns=>(d7 m).map λms=>.bl (HT.lexLt ns ms)
 | _,_=>none
theorem J9(M:X.A.units<cLine):eI X (TY .Lt) R3:=OpR.mono (OpR.or OB (JY M)) <| by
 rintro x y H Q ⟨A,dx,B,d,Y,F,G,e,q⟩;cases dx with
 | int i=>
  cases B with
  | int j=>cases e;have:=F.int_inv;subst this;have:=G.int_inv;subst this;exact .inl ⟨i,j,rfl,rfl,q _ H (Ext.refl _ _) (.bl _)⟩
  | _=>cases e
 | tup l=>
  cases B with
  | tup m=>
   obtain⟨ns,N,e⟩:=bind_some e;obtain⟨ms,U,rfl⟩:=map_some e;obtain⟨a,xs,rfl,h1,W⟩:=F.tup_inv;obtain⟨b,ys,rfl,h2,J⟩:=G.tup_inv;have:=dY N W;subst this;have:=dY U J;subst this;exact .inr ⟨a,b,ns,ms,rfl,rfl,.inl (.inl h1),.inl (.inl h2),q _ H (Ext.refl _ _) (.bl _)⟩
  | _=>cases e
 | _=>cases B <;> cases e
open Classical in
def vZ(x y:D):Option Bool:=match y with
 | .dK _=>(bU y x).map (·.isSome)
 | .dT _=>(bU y x).map (·.isSome)
 | .lst l=>if gN x=true/\l.all gN=true then some (l.any λd=>decide (d=x))else none
 | .tup l=>if gN x=true/\l.all gN=true then some (l.any λd=>decide (d=x))else none
 | _=>none
def QM(x y:D):Option D:=(vZ x y).map .bl
def CP(x y:D):Option D:=(vZ x y).map λb=>.bl (!b)
open Classical in
theorem g9(I:Inv X pins σ H s)(hu:Ar.units+60<cLine)(kx:gN x=true)(rx:RepB A H x v)(ru:RelV v u)(kl:l.all gN=true)(rl:RepL A H l xs)(M:Vals xs B) :
  ∃f:Value->Bool,(∀y∈B,X8 Ar s y u (f y))/\B.any f=l.any λd=>decide (d=x):=by
 obtain⟨F,G,a2,a3⟩:=iW kx;have W:My.Rep X.K H F v:=eS G rx;let g:Value->Bool:=λy=>decide (∃w z,RelV w y/\My.Rep X.K H z w/\z=F)
 have one:∀ {d:D} {w:V} {y:Value},gN d=true->Rep A H d w->RelV w y->g y=decide (d=x)/\X8 Ar s y u (g y):=by
  intro d w y kd rd U;obtain⟨z,Y,b2,b3⟩:=iW kd;have N:My.Rep X.K H z w:=qC Y rd;have e:g y=decide (z=F):=by
   refine decide_eq_decide.mpr ⟨λ⟨w',z',q1,q2,q3⟩=>?_,λe=>⟨w,z,U,N,e⟩⟩;have:=RelV.inj U q1;subst this;rw[My.Rep.inj I _ _ _ N q2,q3]
  have J:decide (z=F)=decide (d=x):=decide_eq_decide.mpr ⟨λq=>j8 Y (q ▸ G),λq=>by subst q;rw[Y]at G;exact UF G⟩;refine⟨e.trans J,?_⟩;rw[e];exact My.p8 I 60 Ar z F w v y u b3 hu b2 a2 N W U ru
 refine⟨g,?_,?_⟩
 ·intro y hy
  obtain⟨j,hj⟩:=List.mem_iff_getElem?.mp hy;have ab:=M.length;have ai:j<B.length:=(List.getElem?_eq_some_iff.mp hj).1;have hx:xs[j]?=some (xs[j]'(by lia)):=UU (by lia);obtain⟨u',e1,r1⟩:=M.get hx;rw[hj]at e1;cases e1;obtain⟨d,J,r2⟩:=rl.get hx;exact(one (List.all_eq_true.mp kl _ (U9 J)) r2 r1).2
 ·have all:∀(l:List D) (xs:List V) (B:List Value),l.all gN=true->RepL A H l xs->Vals xs B->B.any g=l.any λd=>decide (d=x):=by
   intro l;induction l with
   | nil=>intro xs B _ r v;cases r;cases v;rfl
   | cons d l ih=>
    intro xs B k r v;cases r with
    | cons h t=>
     cases v with
     | cons r rs=>
      rw[XC,UE]at k;rw[VO,VO,(one k.1 h r).1,ih _ _ k.2 t rs]
  exact all l xs B kl rl M
theorem NZ(hu:X.A.units+64<cLine):eI X (TY .In) QM:=by
 intro pins s σ H x y v u Q I J N h;obtain⟨A,dx,dy,d,lv,rx,W,e,q⟩:=h;obtain⟨b,B,rfl⟩:=map_some e;have fin:∀k,k=b->EP X pins σ Q (.bool k) s:=λk hk=>⟨.bl b,H,I,by rw[hk];rfl,q _ H (Ext.refl _ _) (.bl _)⟩
 have Y:X.A.units+1<cLine:=by lia
 have dict:∀o,bU dy dx=some o->o.isSome=b->wpAny (model X.prog X.w) X.A (TY .In v u) (EP X pins σ Q) X.xe s:=λo F G=>by
  obtain⟨a,ov,rfl,_,g,e3⟩:=eV F W rx;cases N;refine QQ Y I g J λs' I'=>⟨.bl b,H,I',?_,q _ H (Ext.refl _ _) (.bl _)⟩
  have:ov.isSome=b:=by rw[<- G];rcases e3 with⟨rfl,rfl⟩|⟨_,_,rfl,rfl,_⟩ <;> rfl
  rw[this];rfl
 cases dy with
 | dK l=>obtain⟨o,F,G⟩:=map_some B;exact dict o F G
 | dT l=>obtain⟨o,F,G⟩:=map_some B;exact dict o F G
 | lst l=>
  simp only[vZ]at B;split at B
  case isFalse=>cases B
  rename_i hc;cases B;obtain⟨a,xs,rfl,h1,U⟩:=W.lst_inv;cases N;obtain⟨M,r,pl,hz⟩:=I.list (.inl h1);obtain⟨f,f1,f2⟩:=g9 (Ar:=X.A.in1) I (by show X.A.units+1+60<cLine;lia) hc.1 rx J hc.2 U r;refine SeqAt.in_listAt f (My.PlainL.isList pl) (λw hw=>f1 w (by simpa using hw)) (fin _ ?_);rw[<- f2];simp
 | tup l=>
  simp only[vZ]at B;split at B
  case isFalse=>cases B
  rename_i hc;cases B;obtain⟨a,xs,rfl,h1,U⟩:=W.tup_inv;cases N;obtain⟨M,r,pl,hz⟩:=I.tuple (.inl (.inl h1));obtain⟨f,f1,f2⟩:=g9 (Ar:=X.A.in1) I (by show X.A.units+1+60<cLine;lia) hc.1 rx J hc.2 U r;refine SeqAt.in_tupleAt f pl (λw hw=>f1 w (by simpa using hw)) (fin _ ?_);rw[<- f2];simp
 | _=>cases B
theorem A9(hu:X.A.units+64<cLine):eI X (TY .NotIn) CP:=by
 intro pins s σ H x y v u Q I J N h;obtain⟨A,dx,dy,d,lv,rx,W,e,q⟩:=h;obtain⟨b,B,rfl⟩:=map_some e;have fin:∀k,k=(!b)->EP X pins σ Q (.bool k) s:=λk hk=>⟨.bl (!b),H,I,by rw[hk];rfl,q _ H (Ext.refl _ _) (.bl _)⟩
 have Y:X.A.units+1<cLine:=by lia
 have dict:∀o,bU dy dx=some o->o.isSome=b->wpAny (model X.prog X.w) X.A (TY .NotIn v u) (EP X pins σ Q) X.xe s:=λo F G=>by
  obtain⟨a,ov,rfl,_,g,e3⟩:=eV F W rx;cases N;refine GL Y I g J λs' I'=>⟨.bl (!b),H,I',?_,q _ H (Ext.refl _ _) (.bl _)⟩
  have:ov.isSome=b:=by rw[<- G];rcases e3 with⟨rfl,rfl⟩|⟨_,_,rfl,rfl,_⟩ <;> rfl
  rw[this];rfl
 cases dy with
 | dK l=>obtain⟨o,F,G⟩:=map_some B;exact dict o F G
 | dT l=>obtain⟨o,F,G⟩:=map_some B;exact dict o F G
 | lst l=>
  simp only[vZ]at B;split at B
  case isFalse=>cases B
  rename_i hc;cases B;obtain⟨a,xs,rfl,h1,U⟩:=W.lst_inv;cases N;obtain⟨M,r,pl,hz⟩:=I.list (.inl h1);obtain⟨f,f1,f2⟩:=g9 (Ar:=X.A.in1) I (by show X.A.units+1+60<cLine;lia) hc.1 rx J hc.2 U r;refine SeqAt.notIn_listAt f (My.PlainL.isList pl) (λw hw=>f1 w (by simpa using hw)) (fin _ ?_);rw[<- f2];simp
 | tup l=>
  simp only[vZ]at B;split at B
  case isFalse=>cases B
  rename_i hc;cases B;obtain⟨a,xs,rfl,h1,U⟩:=W.tup_inv;cases N;obtain⟨M,r,pl,hz⟩:=I.tuple (.inl (.inl h1));obtain⟨f,f1,f2⟩:=g9 (Ar:=X.A.in1) I (by show X.A.units+1+60<cLine;lia) hc.1 rx J hc.2 U r;refine SeqAt.notIn_tupleAt f pl (λw hw=>f1 w (by simpa using hw)) (fin _ ?_);rw[<- f2];simp
 | _=>cases B
def dS:List D->Option D
 | [.lst l]=>some (.int l.length)
 | [.tup l]=>some (.int l.length)
 | [.str z]=>if aX z.length then some (.int z.length)else none
 | [.dK l]=>some (.int l.length)
 | _=>none
theorem K8:iK X (.builtin "len") dS:=by
 intro pins s σ H xs G Q I r h;obtain⟨A,ds,d,W,B,e,q⟩:=h
 match ds,B,e with
 | [.lst l],B,e=>
  cases e;obtain⟨v,rfl,h1⟩:=B.one;obtain⟨a,xs,rfl,h2,F⟩:=h1.lst_inv;exact l6 pins s σ H _ G Q I r ⟨_,_,rfl,.inl ⟨xs,.inl h2,rfl⟩,by rw[F.length];exact q _ H (Ext.refl _ _) (.int _)⟩
 | [.tup l],B,e=>
  cases e;obtain⟨v,rfl,h1⟩:=B.one;obtain⟨a,xs,rfl,h2,F⟩:=h1.tup_inv;exact l6 pins s σ H _ G Q I r ⟨_,_,rfl,.inr ⟨xs,.inl (.inl h2),rfl⟩,by rw[F.length];exact q _ H (Ext.refl _ _) (.int _)⟩
 | [.str z],B,e=>
  simp only[dS]at e;by_cases hz:aX z.length=true
  ·rw[if_pos hz]at e;cases e
   obtain⟨v,rfl,h1⟩:=B.one;have:=h1.str_inv;subst this;exact l6 pins s σ H _ G Q I r ⟨_,_,rfl,⟨dI hz,rfl⟩,q _ H (Ext.refl _ _) (.int _)⟩
  ·rw[if_neg hz]at e;cases e
 | [.dK l],B,e=>
  cases e;obtain⟨v,rfl,h1⟩:=B.one;obtain⟨a,xs,rfl,h2,N,F⟩:=h1.dK_inv;obtain⟨u,rfl,M⟩:=vals1 r;cases M;have J:xs.length=l.length:=by have:=congrArg V6 N;simpa using this
  exact OL I h2 λt s' U=>⟨.int xs.length,H,U,⟨t,rfl⟩,by rw[J];exact q _ H (Ext.refl _ _) (.int _)⟩
 | [],_,e=>cases e
 | [.non],_,e=>cases e
 | [.bl _],_,e=>cases e
 | [.int _],_,e=>cases e
 | [.dT _],_,e=>cases e
 | _::_::_,_,e=>simp[dS]at e
noncomputable def gG:List D->Option D
 | [.lst l]=>some (.tup l)
 | [.tup l]=>some (.tup l)
 | _=>none
noncomputable def oR:List D->Option D
 | [.lst l]=>some (.lst l)
 | [.tup l]=>some (.lst l)
 | _=>none
theorem wF{ds:List D}{g:List D->D}(h:(match ds with|[.lst l]=>some (g l)|[.tup l]=>some (g l)|_=>none)=some d):∃l,(ds=[.lst l]\/ds=[.tup l])/\d=g l:=by
 split at h
 ·cases h;exact⟨_,.inl rfl,rfl⟩
 ·cases h;exact⟨_,.inr rfl,rfl⟩
 ·cases h
theorem dR:iK X (.type "tuple") gG:=CallR.mono mW <| by
 rintro xs H Q ⟨A,ds,d,J,r,e,q⟩;obtain⟨l,G,rfl⟩:=wF (g:=.tup) e;rcases G with rfl|rfl
 ·obtain⟨v,rfl,h1⟩:=r.one
  obtain⟨a,xs,rfl,h2,B⟩:=h1.lst_inv;exact⟨a,xs,rfl,.inl ⟨.inl h2,λp F=>q _ _ (Ext.new F) (.tup aF (B.ext (Ext.new F)))⟩⟩
 ·obtain⟨v,rfl,h1⟩:=r.one
  obtain⟨a,xs,rfl,h2,B⟩:=h1.tup_inv;exact⟨a,xs,rfl,.inr ⟨.inl (.inl h2),q _ H (Ext.refl _ _) (.tup h2 B)⟩⟩
theorem F4:DR X (.type "list") oR:=CallR.mono pN <| by
 rintro xs H Q ⟨A,ds,d,G,r,e,q⟩;obtain⟨l,J,rfl⟩:=wF (g:=.lst) e;rcases J with rfl|rfl
 ·obtain⟨v,rfl,h1⟩:=r.one
  obtain⟨a,xs,rfl,h2,F⟩:=h1.lst_inv;exact⟨a,xs,rfl,.inl (.inl h2),λp B=>q p _ (Ext.new B) B (λz=>G p z B) (.lst aF (F.fresh B))⟩
 ·obtain⟨v,rfl,h1⟩:=r.one
  obtain⟨a,xs,rfl,h2,F⟩:=h1.tup_inv;exact⟨a,xs,rfl,.inr (.inl (.inl h2)),λp B=>q p _ (Ext.new B) B (λz=>G p z B) (.lst aF (F.fresh B))⟩
end
section
variable {X:Cx}{O:List Nat}
noncomputable def R1:D->String
 | .non => "NoneType" | .bl _ => "bool" | .int _ => "int" | .str _ => "str" | .tup _ => "tuple" | .lst _ => "list" | .dK _ => "dict" | .dT _ => "dict"
def RM(K:S9):List V->Hp->VK->Prop:=λxs H Q=>∃A d x n b,xs=[x,.ty n]/\RepB A H d x/\X6 K (.type (R1 d)) (.type n)=some b/\Q (.bl b) H
theorem BZ:CallR X (.builtin "isinstance") (RM X.K):=by
 intro pins s σ H xs J Q I r h;obtain⟨A,d,x,n,b,rfl,B,e,q⟩:=h;have go:∀t,TyOf X.K H x t->t=.type (R1 d)->wpAny (model X.prog X.w) X.A (call (.builtin "isinstance") J) (EP X pins σ Q) X.xe s:=λt M N=>by
  subst N;exact My.B6 pins s σ H _ J Q I r ⟨x,n,_,b,rfl,M,e,q⟩
 cases d with
 | non=>have:=B.non_inv;subst this;exact go _ .non rfl
 | bl c=>have:=B.bl_inv;subst this;exact go _ (.bl c) rfl
 | int c=>have:=B.int_inv;subst this;exact go _ (.int c) rfl
 | str c=>have:=B.str_inv;subst this;exact go _ (.str c) rfl
 | tup l=>obtain⟨a,xs,rfl,h1,_⟩:=B.tup_inv;exact go _ (.tup h1) rfl
 | lst l=>
  obtain⟨a,xs,rfl,h1,_⟩:=B.lst_inv;rcases h1 with h1|⟨o,h1⟩
  ·exact go _ (.lst h1) rfl
  ·exact go _ (.frz h1) rfl
 | dK l=>
  obtain⟨a,xs,rfl,h1,_⟩:=B.dK_inv;obtain⟨u,U,rfl,G,F⟩:=vals2 r;cases G;cases F;obtain⟨_,_,vs,_,p⟩:=(show ObjOk X.prog X.w H s.heap a (.dK xs)from h1.ok I.hok);obtain⟨o,es,ep,h1,h2,_⟩:=p;exact VM YX I.kIn ⟨o,h1,h2.1⟩ e (λz=>nomatch z) λtk=>⟨.bl b,H,I.tok tk,rfl,q⟩
 | dT l=>
  obtain⟨a,xs,rfl,h1,_⟩:=B.dT_inv;obtain⟨u,U,rfl,G,F⟩:=vals2 r;cases G;cases F;obtain⟨_,_,xs,_,o,es,ep,h1,h2,_⟩:=(show ObjOk X.prog X.w H s.heap a (.dT xs)from h1.ok I.hok);exact VM YX I.kIn ⟨o,h1,h2.1⟩ e (λz=>nomatch z) λtk=>⟨.bl b,H,I.tok tk,rfl,q⟩
noncomputable def t8(n:String)(d:D):Bool:=match d with
 | .non=>false
 | .bl _=>n == "bool" || n == "int"
 | .int _=>n == "int"
 | .str _=>n == "str"
 | .tup _=>n == "tuple"
 | .lst _=>n == "list"
 | .dK _=>n == "dict"
 | .dT _=>n == "dict"
def QG(n:String):Prop:=∀(K:S9) (d:D),X6 K (.type (R1 d)) (.type n)=some (t8 n d)
theorem GC:QG "int" := λK d=>by cases d <;> rfl
theorem AO:QG "bool" := λK d=>by cases d <;> rfl
theorem kit_tuple:QG "tuple" := λK d=>by cases d <;> rfl
def EA(n:String)(f:Ev):Ev:=λρ=>(f ρ).map λd=>.bl (t8 n d)
theorem vU(F:QG n)(W:Gl X "isinstance")(N:X.mg "isinstance" = none)(G:Gl X x)(B:X.mg x=none)(J:UJ x=some (.type n))(Y:PB X O e f)(hn:x ≠ "__name__" := by decide)(hd:(x == ("__debug__" : Str))=false:=by decide)
  (h1:TC [e,.Name x p2] X.env=(false,eval e X.env)::TC [.Name x p2] X.env:=by rfl) (h2:(T7 pos (TC [.Name x p2] X.env)).any (·.1)=false:=by rfl) (M:TC [.Name x p2] X.env=(false,eval (.Name x p2) X.env)::TC [] X.env:=by rfl) :
  PD X O (.Call (.Name "isinstance" p) [e,.Name x p2] [] pos) (EA n f):=
 PE.mono (lU BZ W N My.boot_isinstance (cH Y (cH (GV (v:=.ty n) G B J rfl hn hd) mB M) h1) (by decide) (by decide) h1 h2) <| by
  rintro σ H Q ⟨H0,A0,A,E,ρ,d,st,e,q⟩;obtain⟨x,ex,rfl⟩:=map_some e;exact⟨H0,A0,A,E,ρ,x,st,ex,λv H1 U r1=>⟨A,x,v,n,_,rfl,r1,F _ _,q _ H1 U (.bl _)⟩⟩
def mD:List Key->Option (List Int)
 | []=>some []
 | .inl i::ks=>(mD ks).map (i::·)
 | _=>none
theorem nT:∀ {k:List Key} {ns:List Int},mD k=some ns->k=ns.map T1
 | [],ns,h=>by cases h;rfl
 | .inl i::ks,ns,h=>by obtain⟨ms,h1,rfl⟩:=map_some h;rw[nT h1];rfl
theorem jA:∀ns:List Int,mD (ns.map T1)=some ns
 | []=>rfl
 | n::ns=>by rw[TU,mD,jA ns];rfl
def intKeys{α:Type}:List (List Key×α)->Option (List (List Int×α))
 | []=>some []
 | p::l=>(mD p.1).bind λns=>(intKeys l).map λr=>(ns,p.2)::r
def JD{α:Type}(p:List Int×α):List Key×α:=(p.1.map T1,p.2)
theorem lL{q:Type}:∀ {l:List (List Key×q)} {m:List (List Int×q)},intKeys l=some m->l=m.map JD
 | [],m,h=>by cases h;rfl
 | p::l,m,h=>by
  obtain⟨ns,h1,h⟩:=bind_some h;obtain⟨r,h2,rfl⟩:=map_some h;rw[TU,lL h2];congr 1;show p=(ns.map T1,p.2);rw[<- nT h1]
theorem jB{q:Type}:∀m:List (List Int×q),intKeys (m.map JD)=some m
 | []=>rfl
 | p::m=>by rw[TU,intKeys,show(JD p).1=p.1.map T1 from rfl,jA,jB m];rfl
theorem u4{xs:List (List Key×V)}{m:List (List Int×D)}(e:xs.map (·.1)=(m.map JD).map (·.1)):∃ps:List (List Int×V),xs=ps.map My.kI/\ps.map (·.1)=m.map (·.1):=by
 induction m generalizing xs with
 | nil=>cases xs with
  | nil=>exact⟨[],rfl,rfl⟩
  | cons _ _=>cases e
 | cons p m ih=>cases xs with
  | nil=>cases e
  | cons x xs=>
   rw[TU,TU,TU]at e;injection e with e1 e2
   obtain⟨ps,h1,h2⟩:=ih e2;refine⟨(p.1,x.2)::ps,?_,by rw[TU,TU,h2]⟩;rw[TU,<- h1];congr 1;show x=(p.1.map T1,x.2);rw[<- show x.1=p.1.map T1 from e1]
def ins{α:Type}(p:List Int×α):List (List Int×α)->List (List Int×α)
 | []=>[p]
 | q::r=>if HT.lexLt p.1 q.1=true then p::q::r else q::ins p r
def bP{α:Type}:List (List Int×α)->List (List Int×α)
 | []=>[]
 | p::r=>ins p (bP r)
theorem ins_map{B F:Type}(f:B->F)(p:List Int×B):∀l:List (List Int×B),(ins p l).map (λx=>(x.1,f x.2))=ins (p.1,f p.2) (l.map λx=>(x.1,f x.2))
 | []=>rfl
 | q::r=>by
  rw[ins,TU,ins];by_cases h:HT.lexLt p.1 q.1=true
  ·rw[if_pos h,if_pos h];rfl
  ·rw[if_neg h,if_neg h,TU,ins_map f p r]
theorem e9{q B:Type}(f:q->B):∀l:List (List Int×q),(bP l).map (λx=>(x.1,f x.2))=bP (l.map λx=>(x.1,f x.2))
 | []=>rfl
 | p::r=>by rw[bP,ins_map,e9 f r,TU,bP]
theorem lY{B:Type}(p:List Int×B):∀l:List (List Int×B),(ins p l).Perm (p::l)
 | []=>.refl _
 | q::r=>by
  rw[ins];by_cases h:HT.lexLt p.1 q.1=true
  ·rw[if_pos h]
  ·rw[if_neg h];exact((lY p r).cons q).trans (.swap ..)
theorem cW{q:Type}:∀l:List (List Int×q),(bP l).Perm l
 | []=>.refl _
 | p::r=>(lY p (bP r)).trans ((cW r).cons p)
def fF{q:Type}(l:List (List Int×q)):Prop:=l.Pairwise λa b=>HT.lexLt a.1 b.1=true
theorem k5{G:Type}(p:List Int×G):∀l:List (List Int×G),(∀q∈l,q.1≠p.1)->fF l->fF (ins p l)
 | [],_,_=>by rw[ins];exact List.pairwise_singleton _ _
 | q::r,hn,h=>by
  rw[ins];have F:=List.pairwise_cons.mp h;by_cases c:HT.lexLt p.1 q.1=true
  ·rw[if_pos c]
   refine List.pairwise_cons.mpr ⟨λx B=>?_,h⟩;rcases List.mem_cons.mp B with e|e
   ·rw[e];exact c
   ·exact My.qR _ _ _ c (F.1 x e)
  ·rw[if_neg c]
   refine List.pairwise_cons.mpr ⟨λx B=>?_,k5 p r (λy J=>hn y (UG _ J)) F.2⟩;rcases List.mem_cons.mp ((lY p r).subset B)with e|e
   ·rw[e]
    rcases My.pT p.1 q.1 (λz=>hn q (UL ..) z.symm)with z|z
    ·exact absurd z c
    ·exact z
   ·exact F.1 x e
theorem gR{B:Type}:∀l:List (List Int×B),(l.map (·.1)).Nodup->fF (bP l)
 | [],_=>List.Pairwise.nil
 | p::r,h=>by
  rw[TU,List.nodup_cons]at h;refine k5 p _ (λq F z=>h.1 ?_) (gR r h.2);exact List.mem_map.mpr ⟨q,(cW r).subset F,z⟩
theorem m6{q:Type}{l m:List (List Int×q)}(h1:fF l)(h2:fF m)(B:l.Perm m):l=m:=by
 refine List.Perm.eq_of_pairwise (le:=λ(a b:List Int×q)=>HT.lexLt a.1 b.1=true) (λa b _ _ x y=>?_) h1 h2 B;have:=My.qR _ _ _ x y;rw[My.qH]at this;cases this
theorem rO{m:List (List Int×D)}{ps B:List (List Int×V)}(G:(ps.map (·.1)).Nodup)(h:PP A H (m.map JD) (ps.map My.kI))(hs:My.qT B)(hp:B.Perm ps):UR (λ(p:List Int×D) (q:List Int×V)=>p.1=q.1/\Rep A H p.2 q.2) (bP m) B:=by
 -- both by one list of triples
 have J:∀ {m:List (List Int×D)} {ps:List (List Int×V)},PP A H (m.map JD) (ps.map My.kI)->∃ts:List (List Int×(D×V)),m=ts.map (λt=>(t.1,t.2.1))/\ps=ts.map (λt=>(t.1,t.2.2))/\∀t∈ts,Rep A H t.2.1 t.2.2:=by
  intro m;induction m with
  | nil=>intro ps h;cases ps with
   | nil=>exact⟨[],rfl,rfl,λ_ h=>nomatch h⟩
   | cons _ _=>cases h
  | cons p m ih=>intro ps h;cases ps with
   | nil=>cases h
   | cons q ps=>
    cases h with
    | cons h t=>
     obtain⟨ts,M,N,U⟩:=ih t;have ek:p.1=q.1:=My.iB.mp h.1;refine⟨(p.1,(p.2,q.2))::ts,by rw[TU,<- M],by rw[TU,<- N];congr 1;rw[ek],λt F=>?_⟩;rcases List.mem_cons.mp F with e|e
     ·rw[e];exact h.2
     ·exact U t e
 obtain⟨ts,M,N,U⟩:=J h;have Y:bP m=(bP ts).map λt=>(t.1,t.2.1):=by rw[M,e9]
 have W:B=(bP ts).map λt=>(t.1,t.2.2):=by
  have s1:fF (bP ps):=gR ps G;have:=m6 (l:=B) (m:=bP ps) hs s1 (hp.trans (cW ps).symm);rw[this,N,e9]
 rw[Y,W];refine My.d5 _ λt F=>⟨rfl,U t ((cW ts).subset F)⟩
theorem sH:∀ns:List Int,RepL A H (ns.map .int) (ns.map V.int)
 | []=>.nil
 | n::ns=>.cons (.int n) (sH ns)
theorem LA{o:Expr}{name:Str}{id:String}{r:V->List V->Hp->VK->Prop}{to:TE}{apos cpos:Pos}(F:Slot "dict" name id)(G:typeOf (.builtin id)=pure (.type "method_descriptor"))(hm:MtR X id r)(U:PE X o to)
  (B:WZ o name X.env (eval o X.env)=eval o X.env:=by rfl) (q:(apos.endLine == cpos.line)=true:=by rfl):PE X (.Call (.Attribute o name apos) [] [] cpos) (λσ H Q=>to σ H λx H1=>∃a,x=.ref a/\NH H1 a/\r x [] H1 Q):=by
 intro pins s σ H Q I h;refine wpAny_Call_method0_late B q (a7 (U pins s σ H _ I h) λv W ⟨x,H1,M,Y,a,ex,J,N⟩=>?_);subst ex;cases Y;obtain⟨h1,h2,_⟩:=vR M J;exact⟨"dict",id,zaj,F,G,h1,h2,Y7 rfl (PySem.evalArgs_none (hm pins W σ H1 (.ref a) [] (.ref a) [] Q M rfl .nil N))⟩
def oY(g:D->Option D)(f:Ev):Ev:=λρ=>(f ρ).bind g
def lX:D->Option D
 | .dT l=>(intKeys l).bind λm=>if m.length<64 then some (.lst ((bP m).map λp=>.tup [.tup (p.1.map .int),p.2]))else none
 | _=>none
theorem uU(hc:X.calm=true)(hu:X.A.units+64<cLine)(hg:Gl X "sorted")(hm:X.mg "sorted" = none)(ho:PB X O o f)
  (hp:∀ {to:TE},PE X o to->PE X (.Call (.Attribute o "items" apos) [] [] cpos) (λσ H Q=>to σ H λx H1=>∃a,x=.ref a/\NH H1 a/\My.CZ x [] H1 Q))
  (he:TC [.Call (.Attribute o "items" apos) [] [] cpos] X.env=(false,eval (.Call (.Attribute o "items" apos) [] [] cpos) X.env)::TC [] X.env:=by rfl) (ab:(T7 pos (TC [] X.env)).any (·.1)=false:=by rfl) :
  PF X O (.Call (.Name "sorted" p) [.Call (.Attribute o "items" apos) [] [] cpos] [] pos) (oY lX f):=by
 have G:CallR X (.builtin "sorted") (λxs H Q=>∃A r a ys m,xs=[.ref r]/\Live A H/\H r=some (.ext λh=>h.IsItemsView r a)/\Rd H a (.dT ys)/\ys.map (·.1)=(m.map JD).map (·.1)/\RepL A H ((m.map JD).map (·.2)) (ys.map (·.2))/\m.length<64/\∀a H',Ext A H H'->H a=none->¬ A a->Own (λb=>A b\/b=a) H' (.lst ((bP m).map λp=>.tup [.tup (p.1.map .int),p.2])) a->Q (.ref a) H'):=by
  intro pins s σ H xs F Q I r h;obtain⟨A,r',a,ys,m,rfl,lv,B,h2,N,r3,J,q⟩:=h;obtain⟨ps,rfl,e4⟩:=u4 N;obtain⟨_,_,W,_⟩:=My.CS I h2;have ae:ps.length=m.length:=by have:=congrArg V6 e4;simpa using this
  refine My.pG hc hu pins s σ H _ F Q I r ⟨r',a,ps,rfl,B,h2,by lia,λla F M H2 sm n0 h3 pr pm so=>?_⟩;have sb:=rO (A:=A) (H:=H) W (oU N r3) so pm;have up:∀ {d:D} {v:V},Rep A H d v->Rep (λb=>A b\/b=la) H2 d v:=λr=>by
   have r1:Rep (λb=>A b\/b=la) H _ _:=r.av λb hb=>hb.imp id λz=>by rw[z];exact n0
   exact r1.ext (Ext.same sm)
  have Y:∀ {ts:List (List Int×D)} {M:List (List Int×V)} {F:List V},UR (λ(p:List Int×D) (q:List Int×V)=>p.1=q.1/\Rep A H p.2 q.2) ts M->UR (My.SA H2) F M->RepL (λb=>A b\/b=la) H2 (ts.map λp=>.tup [.tup (p.1.map .int),p.2]) F:=by
   intro ts M F h;induction h generalizing F with
   | nil=>intro h;cases h;exact .nil
   | cons h t ih=>
    intro h';cases h' with
    | cons h' t'=>
     obtain⟨a,b,rfl,ha,hb⟩:=h';exact .cons (.tup ha (.cons (.tup hb (by rw[h.1];exact sH _)) (.cons (up h.2) .nil))) (ih t')
  exact q la H2 (Ext.same sm) n0 (λz=>lv la z n0) (.lst h3 (Y sb pr))
 refine PE.mono (lU G hg hm My.boot_sorted (cH (hp ho) mB he) (by decide) (by decide) he ab) λσ H Q ⟨H0,A0,A,E,ρ,d,st,e,q⟩=>?_
 obtain⟨x,ex,e⟩:=bind_some e;cases x with
 | dT l=>
  obtain⟨m,e1,e⟩:=bind_some e;split at e
  case isFalse=>cases e
  rename_i J;cases e;have el:=lL e1;subst el;refine⟨H0,A0,A,E,ρ,_,st,ex,λv H1 U r1=>?_⟩;obtain⟨a,ys,rfl,h2,N,r3⟩:=r1.dT_inv;refine⟨a,rfl,.inr ⟨ys,h2⟩,a,ys,rfl,rfl,h2,λr B=>⟨A,r,a,ys,m,rfl,Live.ext (st.mono U).live (Ext.new B),aF,c7 (λz=>?_) h2,N,r3.ext (Ext.new B),J,λa' H' x' n na o=>?_⟩⟩
  ·subst z;rcases h2 with h2|⟨_,h2⟩ <;> (rw[B]at h2;cases h2)
  ·have x2:=(U.trans (Ext.new B)).trans x'
   exact q a' H' x2 ((U.trans (Ext.new B)).free n) na o
 | _=>cases e
end
def fJ:D->Option Int->Option Int->Option D
 | .tup l,lo,hi=>some (.tup (cutD l lo hi))
 | .lst l,lo,hi=>some (.lst (cutD l lo hi))
 | _,_,_=>none
theorem QS:SlR X (rS fJ):=SlR.mono (SlR.or Q2 (SlR.mono RP λx lo hi H Q (h:rS P6 x lo hi H Q)=>by
  obtain⟨A,dx,d,B,F,e,q⟩:=h;exact⟨A,dx,d,B,F,e,λa H' x n G o=>q _ H' x ((o.av (A':=A) λb J=>.inl (.inl J)).rep G)⟩)) λx lo hi H Q ⟨A,dx,d,B,F,e,q⟩=>by
 cases dx with
 | tup l=>exact .inl ⟨A,_,d,B,F,e,q⟩
 | lst l=>exact .inr ⟨A,_,d,B,F,e,q⟩
 | _=>cases e
section
variable {ρ:bJ}{f g:Ev}{d x y:D}{i j:Int}{k:Nat}
@[simp] theorem q_seq{f g:Sv}:cG f g ρ=(f ρ).bind λo=>match o with | .nx ρ'=>g ρ'|o=>some o:=rfl
@[simp] theorem q_set:dM k f ρ=(f ρ).map λd=>.nx (ρ.set k (some d)):=rfl
@[simp] theorem q_if{c:Bv}{f g:Sv}:ED c f g ρ=(c ρ).bind λb=>if b=true then f ρ else g ρ:=rfl
@[simp] theorem q_rt:NQ f ρ=(f ρ).map .rt:=rfl
@[simp] theorem q_nx:JA ρ=some (.nx ρ):=rfl
@[simp] theorem q_bad:HQ ρ=none:=rfl
@[simp] theorem q_asg{g:Gv}:HR f g ρ=(f ρ).bind λd=>(g d ρ).map .nx:=rfl
@[simp] theorem q_for{f:Lv}{g:Gv}{b:Sv}:nC f g b ρ=(f ρ).bind λitems=>iM g b items ρ:=rfl
@[simp] theorem q_drop:DP f ρ=(f ρ).map λ_=>.nx ρ:=rfl
@[simp] theorem q_app:D6 k f ρ=(aD k ρ).bind λx=>match x with
 | .lst l=>(f ρ).bind λd=>if aX l.length then some (.nx (ρ.set k (some (.lst (l++[d])))))else none
 | _=>none:=rfl
@[simp] theorem q_put:AA k f g ρ=(g ρ).bind λe=>(aD k ρ).bind λx=>(f ρ).bind λq=>(rB x q e).map λd=>.nx (ρ.set k (some d)):=rfl
@[simp] theorem q_var:aD k ρ=(ρ[k]?).join:=rfl
@[simp] theorem q_c:eC d ρ=some d:=rfl
@[simp] theorem q_op:a8 o f g ρ=(f ρ).bind λx=>(g ρ).bind λy=>o x y:=rfl
@[simp] theorem q_call:bG F l ρ=(l ρ).bind F:=rfl
@[simp] theorem q_lnil:cN ρ=some []:=rfl
@[simp] theorem q_lcons:aQ f l ρ=(f ρ).bind λx=>(l ρ).bind λxs=>some (x::xs):=rfl
@[simp] theorem q_tup:nE l ρ=(l ρ).map .tup:=rfl
@[simp] theorem q_lst:uA l ρ=(l ρ).map .lst:=rfl
@[simp] theorem q_bind:oY o f ρ=(f ρ).bind o:=rfl
@[simp] theorem q_bof:fW f ρ=(f ρ).bind v9:=rfl
@[simp] theorem q_asB:v9 (.bl b)=some b:=rfl
@[simp] theorem q_asI:EF (.int i)=some i:=rfl
@[simp] theorem q_bnot:vW c ρ=(c ρ).map (!·):=rfl
@[simp] theorem q_band:qZ a b ρ=(a ρ).bind λx=>if x=true then b ρ else some false:=rfl
@[simp] theorem q_bor:NI a b ρ=(a ρ).bind λx=>if x=true then some true else b ρ:=rfl
@[simp] theorem q_and:PC f g ρ=(f ρ).bind λx=>(v9 x).bind λb=>if b=true then g ρ else some (.bl false):=rfl
@[simp] theorem q_not:PN f ρ=(f ρ).bind λx=>(v9 x).map λb=>.bl (!b):=rfl
@[simp] theorem q_neg:HY f ρ=(f ρ).bind λd=>(EF d).map λi=>.int (-i):=rfl
@[simp] theorem q_isi:EA n f ρ=(f ρ).map λd=>.bl (t8 n d):=rfl
@[simp] theorem q_get2:IJ a b c ρ=(a ρ).bind λd=>(b ρ).bind λk=>(c ρ).bind λe=>(bU d k).map λo=>o.getD e:=rfl
@[simp] theorem q_sl:IC o f a b ρ=(f ρ).bind λx=>(a ρ).bind λlo=>(b ρ).bind λhi=>o x lo hi:=rfl
@[simp] theorem q_oN:oT ρ=some none:=rfl
@[simp] theorem q_oS:jW f ρ=(f ρ).bind λd=>(EF d).map some:=rfl
@[simp] theorem q_lR:lR o l ρ=(l ρ).bind o:=rfl
@[simp] theorem q_lSeq:D8 f ρ=(f ρ).bind λd=>match d with
 | .lst l=>some l
 | .tup l=>some l
 | .dT l=>some (l.map λp=>.tup (p.1.map AD))
 | _=>none:=rfl
@[simp] theorem q_comp{ms:List (Option Nat)}{it:Lv}{g:Gv}{c:Bv}:eD ms it g c f ρ=(it ρ).bind λitems=>if aX items.length then(bF g c f items (i5 ms ρ)).map .lst else none:=rfl
@[simp] theorem q_yes:mS ρ=some true:=rfl
@[simp] theorem q_name:aJ k d ρ=some (ρ.set k (some d)):=rfl
@[simp] theorem q_gnil:fV [] ρ=some ρ:=rfl
@[simp] theorem q_gcons{g:Gv}{h:yD}{ds:List D}:aR g h (d::ds) ρ=(g d ρ).bind λρ'=>h ds ρ':=rfl
@[simp] theorem q_gtup:jX n h (.tup l) ρ=if l.length=n then h l ρ else none:=rfl
@[simp] theorem q_sub:HW (.int i) (.int j)=some (.int (i-j)):=rfl
@[simp] theorem q_addI:oP (.int i) (.int j)=some (.int (i+j)):=rfl
@[simp] theorem q_ltI:R3 (.int i) (.int j)=some (.bl (decide (i<j))):=rfl
@[simp] theorem q_gtI:D9 (.int i) (.int j)=some (.bl (decide (j<i))):=rfl
@[simp] theorem q_geI:M3 (.int i) (.int j)=some (.bl (decide (j<=i))):=rfl
@[simp] theorem q_eqI:pF (.int i) (.int j)=some (.bl (decide (i=j))):=by
 unfold pF AM;rw[if_pos (.inl rfl)];simp
@[simp] theorem q_neI:AI (.int i) (.int j)=some (.bl (!decide (i=j))):=by
 unfold AI AM;rw[if_pos (.inl rfl)];simp
@[simp] theorem q_eqB:pF (.bl a) (.bl b)=some (.bl (decide (a=b))):=by
 unfold pF AM;rw[if_pos (.inl rfl)];simp
@[simp] theorem q_neB:AI (.bl a) (.bl b)=some (.bl (!decide (a=b))):=by
 unfold AI AM;rw[if_pos (.inl rfl)];simp
theorem bX(h:0<j):eG (.int i) (.int j)=some (.int (i%j)):=if_pos h
theorem pA(h:0<j)(h2:j<1073741824):vX (.int i) (.int j)=some (.int (i/j)):=if_pos ⟨h,h2⟩
theorem tW(h:0<=j)(h2:j<=1000000)(q:i.natAbs<2^64):v6 (.int i) (.int j)=some (.int (i^j.toNat)):=if_pos ⟨h,h2,q⟩
@[simp] theorem q_lenL:dS [.lst l]=some (.int l.length):=rfl
@[simp] theorem q_lenT:dS [.tup l]=some (.int l.length):=rfl
@[simp] theorem q_tuL:gG [.lst l]=some (.tup l):=rfl
@[simp] theorem q_tuT:gG [.tup l]=some (.tup l):=rfl
@[simp] theorem q_liL:oR [.lst l]=some (.lst l):=rfl
@[simp] theorem q_liT:oR [.tup l]=some (.lst l):=rfl
@[simp] theorem q_slT{l:List D}{lo hi:Option Int}:fJ (.tup l) lo hi=some (.tup (cutD l lo hi)):=rfl
@[simp] theorem q_slL{l:List D}{lo hi:Option Int}:fJ (.lst l) lo hi=some (.lst (cutD l lo hi)):=rfl
@[simp] theorem q_itL:aI (.lst l) (.int i)=dW l i:=rfl
@[simp] theorem q_itT:aI (.tup l) (.int i)=dW l i:=rfl
@[simp] theorem q_itD:aI (.dT l) d=(bU (.dT l) d).join:=rfl
@[simp] theorem isi_int_int:t8 "int" (.int i)=true:=rfl
@[simp] theorem isi_bool_int:t8 "bool" (.int i)=false:=rfl
@[simp] theorem isi_tuple_tup:t8 "tuple" (.tup l)=true:=rfl
@[simp] theorem isi_list_lst:t8 "list" (.lst l)=true:=rfl
end
def turn(g:Gv)(b:Sv)(x:D):Sv:=λρ=>(g x ρ).bind b
theorem gE(I:Nat->bJ->Prop)(h0:I 0 ρ)(hs:∀i x ρ,items[i]?=some x->I i ρ->∃ρ',turn g b x ρ=some (.nx ρ')/\I (i+1) ρ'):∃ρ',iM g b items ρ=some (.nx ρ')/\I items.length ρ':=by
 have B:∀(m:List D) (k:Nat) (ρ:bJ),items.drop k=m->k<=items.length->I k ρ->∃ρ',iM g b m ρ=some (.nx ρ')/\I items.length ρ':=by
  intro m;induction m with
  | nil=>
   intro k ρ e M h;have:items.length<=k:=by rw[List.drop_eq_nil_iff]at e;exact e
   have:k=items.length:=by lia
   subst this;exact⟨ρ,rfl,h⟩
  | cons x m ih=>
   intro k ρ e M h;have q:k<items.length:=by
    rcases Nat.lt_or_ge k items.length with z|z
    ·exact z
    ·rw[List.drop_eq_nil_iff.mpr z]at e;cases e
   rw[YM q]at e;injection e with e1 e2
   obtain⟨ρ',h1,h2⟩:=hs k x ρ (by rw[<- e1];simp[q]) h;obtain⟨ρ2,G,F⟩:=ih (k+1) ρ' e2 q h2;refine⟨ρ2,?_,F⟩;unfold turn at h1;obtain⟨ρ1,J,N⟩:=bind_some h1;unfold iM;rw[J];show(b ρ1).bind _=_;rw[N];exact G
 exact B items 0 ρ rfl (U4 _) h0
theorem bB(h:f (aH n ds)=some (.rt d)):bQ n f ds=some d:=by
 unfold bQ;rw[h];rfl
theorem LN(h:f (aH n ds)=some (.nx ρ)):bQ n f ds=some .non:=by
 unfold bQ;rw[h];rfl
theorem aN(h:f ρ=some (.nx ρ')):cG f g ρ=g ρ':=by
 unfold cG;rw[h];rfl
theorem bN(h:f ρ=some d):dM k f ρ=some (.nx (ρ.set k (some d))):=by
 unfold dM;rw[h];rfl
theorem PR(h:f ρ=some d):NQ f ρ=some (.rt d):=by
 unfold NQ;rw[h];rfl
theorem d6{f:Lv}{g:Gv}{b rest:Sv}{ρ:bJ}{items:List D}{q:Option Out}(B:f ρ=some items)(I:Nat->bJ->Prop)(h0:I 0 ρ)(hs:∀i x ρ,items[i]?=some x->I i ρ->∃ρ',turn g b x ρ=some (.nx ρ')/\I (i+1) ρ')(k:∀ρ',I items.length ρ'->rest ρ'=q):cG (nC f g b) rest ρ=q:=by
 obtain⟨ρ',e,h⟩:=gE (g:=g) (b:=b) I h0 hs;rw[aN (by rw[q_for,B];exact e)];exact k ρ' h
open My (look put bM mR mQ)
def kD(t:My.Tm):List Key×D:=(t.1.map T1,.int t.2)
noncomputable def tupI(k:List Int):D:=.tup (k.map .int)
def j3(t:My.Tm):D:=.tup [tupI t.1,.int t.2]
theorem nP:∀k:List Int,D3 (k.map .int)=some (k.map T1)
 | []=>rfl
 | i::k=>by rw[TU,D3,nP k];rfl
@[simp] theorem asT_tupI(k:List Int):IE (tupI k)=some (k.map T1):=nP k
theorem LZ(cs:List My.Tm)(k:List Int):c9 (cs.map kD) (k.map T1:List Key)=(look cs k).map D.int:=by
 induction cs with
 | nil=>rfl
 | cons t cs ih=>
  rw[TU];by_cases e:t.1=k
  ·have:(kD t).1=k.map T1:=by show t.1.map T1=_;rw[e]
   simp[c9,look,VP,this,e,kD]
  ·have:¬ (kD t).1=k.map T1:=by show ¬ t.1.map T1=_;rw[My.iB];exact e
   have a:c9 (kD t::cs.map kD) (k.map T1)=c9 (cs.map kD) (k.map T1):=by simp[c9,VP,this]
   rw[a,ih];simp[look,VP,e]
theorem JG(cs:List My.Tm)(k:List Int)(c:Int):putD (cs.map kD) (k.map T1:List Key) (.int c)=(put cs k c).map kD:=by
 unfold putD put;have e:((cs.map kD).any λB=>decide (B.1=(k.map T1:List Key)))=cs.any λt=>decide (t.1=k):=by
  rw[List.any_map];congr 1;funext t;exact decide_eq_decide.mpr (My.iB (a:=t.1) (b:=k))
 rw[e];by_cases h:(cs.any λt=>decide (t.1=k))=true
 ·rw[if_pos h,if_pos h,VQ,VQ]
  congr 1;funext t;show(if t.1.map T1=(k.map T1:List Key)then((t.1.map T1:List Key),D.int c)else kD t)=kD (if t.1=k then(t.1,c)else t);by_cases z:t.1=k
  ·rw[if_pos z,if_pos (My.iB.mpr z)];rfl
  ·rw[if_neg z,if_neg (λq=>z (My.iB.mp q))]
 ·rw[if_neg h,if_neg h,VE]
  rfl
@[simp] theorem look_kD(cs:List My.Tm)(k:List Int):bU (.dT (cs.map kD)) (tupI k)=some ((look cs k).map D.int):=by
 show(IE (tupI k)).map _=_;rw[asT_tupI,TH,LZ]
theorem FX(k:List Int)(c:Int)(h:cs.length<=1000000):rB (.dT (cs.map kD)) (tupI k) (.int c)=some (.dT ((put cs k c).map kD)):=by
 show(IE (tupI k)).bind _=_;rw[asT_tupI,TF,if_pos (by rw[aX,TL];exact decide_eq_true h),JG]
theorem u7(cs:List My.Tm):intKeys (cs.map kD)=some (cs.map λt=>(t.1,D.int t.2)):=by
 have:=jB (cs.map λt=>(t.1,D.int t.2));rw[VQ]at this;exact this
theorem uX(h:cs.length<64):lX (.dT (cs.map kD))=some (.lst ((bP cs).map j3)):=by
 show(intKeys (cs.map kD)).bind _=_;rw[u7,TF,if_pos (by rw[TL];exact h)];have:(bP (cs.map λt=>(t.1,D.int t.2)))=(bP cs).map λt=>(t.1,D.int t.2):=(e9 D.int cs).symm
 rw[this,VQ];rfl
theorem tL{ns:List Int}{k:Int}(h0:0<=k)(h:k<(ns.length:Int)):∃c,dW (ns.map D.int) k=some (.int c)/\ns[k.toNat]?=some c:=by
 obtain⟨j,rfl⟩:∃j:Nat,k=(j:Int):=⟨k.toNat,by lia⟩;have q:j<ns.length:=by lia
 exact⟨ns[j],bZ (by simp[q]),by simp[q]⟩
noncomputable def pC:D->Option (List D)
 | .lst l=>some l
 | .tup l=>some l
 | _=>none
theorem FD{A:Av}{H:Hp}{K:S9}{d:D}{l:List D}{v:V}(h:pC d=some l)(r:Rep A H d v):∃t a xs,v=.ref a/\My.II K t H a xs/\RepL A H l xs/\∀A' H',Rep A' H' d v->∃ys,My.II K t H' a ys/\RepL A' H' l ys:=by
 cases d with
 | lst m=>
  cases h;obtain⟨a,xs,rfl,h1,q⟩:=RepB.lst_inv (.of r);refine⟨false,a,xs,rfl,.inl h1,q,λA' H' B=>?_⟩;obtain⟨G,ys,e,h2,F⟩:=RepB.lst_inv (.of B);cases e;exact⟨ys,.inl h2,F⟩
 | tup m=>
  cases h;obtain⟨a,xs,rfl,h1,q⟩:=RepB.tup_inv (.of r);refine⟨true,a,xs,rfl,.inl (.inl h1),q,λA' H' B=>?_⟩;obtain⟨G,ys,e,h2,F⟩:=RepB.tup_inv (.of B);cases e;exact⟨ys,.inl (.inl h2),F⟩
 | _=>cases h
@[simp] theorem q_seqL:pC (.lst l)=some l:=rfl
@[simp] theorem q_seqT:pC (.tup l)=some l:=rfl
theorem KP(h1:-A<a)(h2:a<A)(F:-B<b)(q:b<B):-(A*B)<a*b/\a*b<A*B:=by
 have e:(a*b).natAbs<(A*B).natAbs:=by
  rw[Int.natAbs_mul,Int.natAbs_mul];exact Nat.mul_lt_mul_of_lt_of_le (by lia) (by lia) (by lia)
 have G:0<=A*B:=Int.mul_nonneg (by lia) (by lia)
 lia
end P
namespace P
end P
namespace P
open PySem PySem.Spec PyProof.Rows L2
@[simp] theorem q_chain:d8 g g' fa fb fc ρ=(fa ρ).bind λx=>(fb ρ).bind λy=>(g x y).bind λz=>(v9 z).bind λb=>if b=true then(fc ρ).bind λw=>g' y w else some (.bl false):=rfl
noncomputable def pick{α:Type}(l:List α)(lo hi st:Option Int):List α:=(sliceRange (WD lo hi st l.length).1 (WD lo hi st l.length).2.1 (WD lo hi st l.length).2.2).filterMap (l[·]?)
section
variable {X:Cx}{O:List Nat}
end
end P
namespace My
open PySem PySem.Spec PyProof.Rows L2 PySem.SeqAt
section
variable {X:Cx}
theorem Inv.gone(I:Inv X pins σ H s)(f:fH X pins H C)(hs:UM C s.heap h'):Inv X pins σ H {s with heap:=h'}:=by
 obtain⟨f0,J,Y,W,M,G⟩:=f;refine I.call' (s':={s with heap:=h'}) (ch:=[C]) rfl ⟨λb o e n F B=>?_,λb o e n F B=>?_,λ_ _ _ n _=>n,λb o e B=>?_,λ_ _ q=>q,λ_ _ _ q=>q,λ_ ps q=>⟨#[],by simpa using q⟩⟩ ?_ I.bare λb F=>?_
 ·exact(hs.2 b (λz=>B (z ▸ List.mem_singleton.mpr rfl))).trans e
 ·exact⟨o.slots,(hs.2 b (λz=>B (z ▸ List.mem_singleton.mpr rfl))).trans e⟩
 ·exact⟨o,(hs.2 b (λz=>B (z ▸ List.mem_singleton.mpr rfl))).trans e⟩
 ·intro b U e
  refine(I.hok b U e).stay (λc w' N q=>(hs.2 c ?_).trans q) (λ_ q=>q) λ_ _ q=>q
  rintro rfl;rcases N with z|z
  ·subst z;rw[f0]at e;cases e
  ·rw[f0]at z;cases z
 ·rw[List.mem_singleton.mp F]
  exact⟨W,J,M,G⟩
theorem j7(hN:X.N.Nodup)(Y:X.N[i]?=some x)(hx:Loc X.env.scope x)
  (hc:X.calm=true) (F:Clo X N scope cl) (hi:PI X tg iter wi) (hg:∀C s H fp,PG (aL X N scope cl C s H fp) tg g) (ht:∀C s H fp,uE (aL X N scope cl C s H fp) ifs tt) (he:∀C s H fp,PE (aL X N scope cl C s H fp) elt te)
  (hs:∀x,VC iter X.env x=pure x:=by intro _;rfl) (U:UD (.ListComp elt [⟨tg,iter,ifs,0⟩] scope pos) (some (.Name x pos')) spos.line X.env=pure true:=by rfl)
  (hf:X.fn x=true\/X.env.scope.names.lookup x=some .local:=by first|exact .inl rfl|exact .inr rfl) :
  PS X (.Assign [.Name x pos'] (.ListComp elt [⟨tg,iter,ifs,0⟩] scope pos) spos) (t7 (xV wi g tt te (Start X N scope)) (eZ i)):=by
 intro pins s σ H D I h;obtain⟨ak,sS,hw⟩:=h;rw[exec_Assign_Name_used _ _ _ _ U];refine S7 (X2 (S7 ?_));show wpAny _ X.A (do let _ <- comprehension (.ListComp elt [⟨tg,iter,ifs,0⟩] scope pos) scope X.env _ (newList []) false (eval iter X.env) (some (U6 (.Name x pos') X.env))) _ _ s;refine S7 (U3 (wpAny_comprehension_free (use:=some (U6 (.Name x pos') X.env)) (Q:=λ_ s'=>SP X pins D .next s') rfl hs F.clos F.kind F.names
  (a7 (hi pins s σ H _ I hw) λv s1 h1=>a7 h1 λaw s2 h2=>?_)) (λ_ s' hq=>TB (TB hq)) λ_ _ e=>e)
 obtain⟨it,fp,tn,J,H2,e,I2,T,M,f2,q2⟩:=h2;subst e;refine nU (wi:=wi) (Q:=λv H1=>eZ i v σ H1 D.nx) (RR:=λab C=>compPost (model X.prog X.w) X.A X.xe (some (U6 (.Name x pos') X.env)) (λ_ s'=>SP X pins D .next s') ab C) hc F hg ht he I2 T M f2 sS q2 ?_
 intro s3 s5 H3 H5 ay D1 I3 f3 W q;obtain⟨m,hn,_⟩:=id W.loc;have I6:Inv X pins σ H5 s5:=comp_back I3 f3 W (Heap.SameBut.refl _ _);have fc:fH X pins H5 s3.heap.objs.size:=I3.fpOk (TR _) W.free;show wpAny _ X.A (U6 (.Name x pos') X.env (.ref D1)) _ _ s5;refine wpAny_assign_Name (nG (v:=.ref D1) I6 hN Y hx rfl (λs7 I7 ⟨a,G,B⟩=>?_) hf);have ne:s3.heap.objs.size≠a:=λz=>by
  rcases B with B|B
  ·exact fc.2.1 (z.trans B)
  ·exact fc.2.2.2.2.1 x a B z.symm
 exact⟨m,Heap.Ns.sameBut hn G ne,λh' aa=>⟨_,H5,Inv.gone I7 fc aa,q⟩⟩
end
end My
namespace P
open PySem PySem.Spec PyProof.Rows L2 PySem.SeqAt
section
variable {X:Cx}{O O':List Nat}{L:Lp}
theorem u0(N:PS X (.Assign [.Name x pos'] e pos) (t7 (tD Rep O f) (eZ i)))(h:Sub O' (O.filter (· != i))=true):eJ X L O (.Assign [.Name x pos'] e pos) (dM i f) O':=
 PS.mono N <| by
  rintro T σ H ⟨H0,A0,A,E,ρ,G,st,e,p⟩;obtain⟨d,M,rfl⟩:=map_some e;refine⟨H0,A0,A,E,ρ,d,st,M,λv H' x r=>?_⟩;have F:=(st.mono x).more r;obtain⟨A',B⟩:=F.shut (O':=O') λj J=>(Sub.er h J).1
  exact p A' _ H' ((B.put (B.ext _ (UL ..)) λz=>(Sub.er h z).2 rfl).less λq U=>UG _ U)
theorem rM(N:PS X (.Assign [.Name x pos'] e pos) (t7 (tF O f) (eZ i)))(h:Sub O' (i::O)=true)(U:O.contains i=false):eJ X L O (.Assign [.Name x pos'] e pos) (dM i f) O':=
 PS.mono N <| by
  rintro T σ H ⟨H0,A0,A,E,ρ,F,st,e,p⟩;obtain⟨d,M,rfl⟩:=map_some e;refine⟨H0,A0,A,E,ρ,d,st,M,λa H' x n J o=>?_⟩;have B:i∉O:=λz=>by
   have:O.contains i=true:=by simpa using z
   rw[U]at this;cases this
  obtain⟨G,q⟩:=(st.own_put x n J o B).shut (Sub.mem h);exact p G _ H' q
theorem IK:tD Rep O f σ H Q->tF O f σ H Q:=λ⟨H0,A0,A,E,ρ,d,st,e,q⟩=>
 ⟨H0,A0,A,E,ρ,d,st,e,λa H' x n B o=>q _ H' x ((o.av (A':=A) λb F=>.inl (.inl F)).rep B)⟩
theorem CL(M:X.N.Nodup)(B:X.N[i]?=some x)(G:Loc X.env.scope x)
  (Y:X.calm=true) (cc:My.Clo X N scope cl) (F:bI X scope N ms) (hn:(ms.all λo=>match o with|some i=>!O.contains i|none=>true)=true) (hi:PDI X O tg iter it) (U:∀C s H fp,rF (My.aL X N scope cl C s H fp) [] tg g)
  (J:∀C s H fp,My.uE (My.aL X N scope cl C s H fp) ifs (tDT [] c)) (W:∀C s H fp,PD (My.aL X N scope cl C s H fp) [] elt f) (h:Sub O' (O.filter (· != i))=true:=by rfl) (hs:∀x,VC iter X.env x=pure x:=by intro _;rfl)
  (q:UD (.ListComp elt [⟨tg,iter,ifs,0⟩] scope pos) (some (.Name x pos')) spos.line X.env=pure true:=by rfl) (hf:X.fn x=true\/X.env.scope.names.lookup x=some .local:=by first|exact .inl rfl|exact .inr rfl) :
  eJ X L O (.Assign [.Name x pos'] (.ListComp elt [⟨tg,iter,ifs,0⟩] scope pos) spos) (dM i (eD ms it g c f)) O':=
 u0 (PS.mono (My.j7 M B G Y cc hi U J W hs q hf) λT σ H w=>g7 F hn _ _ _ (IK w)) h
theorem yE(U:X.N.Nodup)(F:X.N[i]?=some x)(J:Loc X.env.scope x)
  (hc:X.calm=true) (cc:My.Clo X N scope cl) (G:bI X scope N ms) (hn:(ms.all λo=>match o with|some i=>!O.contains i|none=>true)=true) (hi:PDI X O tg iter it) (W:∀C s H fp,rF (My.aL X N scope cl C s H fp) [] tg g)
  (M:∀C s H fp,My.uE (My.aL X N scope cl C s H fp) ifs (tDT [] c)) (Y:∀C s H fp,PD (My.aL X N scope cl C s H fp) [] elt f) (h:Sub O' (i::O)=true:=by rfl) (B:O.contains i=false:=by rfl) (hs:∀x,VC iter X.env x=pure x:=by intro _;rfl)
  (q:UD (.ListComp elt [⟨tg,iter,ifs,0⟩] scope pos) (some (.Name x pos')) spos.line X.env=pure true:=by rfl) (hf:X.fn x=true\/X.env.scope.names.lookup x=some .local:=by first|exact .inl rfl|exact .inr rfl) :
  eJ X L O (.Assign [.Name x pos'] (.ListComp elt [⟨tg,iter,ifs,0⟩] scope pos) spos) (dM i (eD ms it g c f)) O':=
 rM (PS.mono (My.j7 U F J hc cc hi W M Y hs q hf) λT σ H w=>g7 G hn _ _ _ w) h B
end
end P
namespace My
open PySem PySem.Spec PyProof.Rows L2 PySem.SeqAt
def MZ(K:S9)(n:Nat)(t:ID):TG:=λv σ H Q=>∃a xs,v=.ref a/\(SqT K H a xs\/SqL K H a xs)/\xs.length=n/\t xs σ H Q
theorem iY(G:X.calm=true)(h:PGs X es t)
  (N:(UN es X.env).length=n:=by rfl) (B:(UN es X.env).findIdx? (·.1)=none:=by rfl):PG X (.Tuple es k pos) (MZ X.K n t):=by
 intro pins s σ H v u Q I r hw;obtain⟨a,xs,e1,q,M,hw⟩:=hw;subst e1;rcases q with q|q
 ·exact DG G h N B pins s σ H _ u Q I r ⟨a,xs,rfl,q,M,hw⟩
 ·cases r
  obtain⟨F,J,Y,hz⟩:=I.list q;have hsz:(UN es X.env).length=F.toArray.size:=by simp[N,<- M,J.length]
  rw[assign_Tuple];refine S7 (X2 ?_);unfold unpack;rw[hsz,B];refine S7 (VL (PySem.W.kun_itemsOf (I.ok.hd G) (My.PlainL.isList Y) λh' U=>?_));have I1:Inv X pins σ H {s with heap:=h'}:=I.kept (t':=s.toks) λb o e=>U b o (T9 (TQ e)) e
  exact h pins _ σ H xs _ Q I1 (by simpa using J) hw
end My
namespace P
open PySem PySem.Spec PyProof.Rows L2 PySem.SeqAt
def b9(n:Nat)(k:yD):Gv:=λd ρ=>match d with
 | .tup l=>if l.length=n then k l ρ else none
 | .lst l=>if l.length=n then k l ρ else none
 | _=>none
theorem iC(G:PG X tg (My.MZ X.K n (tDGs O k))):rF X O tg (b9 n k):=PG.mono G <| by
 rintro v σ H Q ⟨H0,A0,A,E,ρ,d,ρ',st,r,e,q⟩;cases d with
 | tup l=>
  obtain⟨a,xs,rfl,h,F⟩:=RepB.tup_inv (.of r);by_cases B:l.length=n
  ·simp only[b9,if_pos B]at e
   exact⟨a,xs,rfl,.inl (.inl (.inl h)),by rw[F.length];exact B,H0,A0,A,E,ρ,l,ρ',st,F,e,q⟩
  ·simp only[b9,if_neg B]at e;cases e
 | lst l=>
  obtain⟨a,xs,rfl,h,F⟩:=RepB.lst_inv (.of r);by_cases B:l.length=n
  ·simp only[b9,if_pos B]at e
   exact⟨a,xs,rfl,.inr (.inl h),by rw[F.length];exact B,H0,A0,A,E,ρ,l,ρ',st,F,e,q⟩
  ·simp only[b9,if_neg B]at e;cases e
 | _=>cases e
@[simp] theorem q_gseqT:b9 n h (.tup l) ρ=if l.length=n then h l ρ else none:=rfl
@[simp] theorem q_gseqL:b9 n h (.lst l) ρ=if l.length=n then h l ρ else none:=rfl
end P
namespace P
open PySem PySem.Spec PyProof.Rows L2
def cf(q:List My.Tm)(k:List Int):Int:=(My.look q k).getD 0
theorem qU{f:Lv}{g:Gv}{b rest:Sv}{ρ:bJ}{items:List D}{R:D->Prop}(q:f ρ=some items)(I:Nat->bJ->Prop)(h0:I 0 ρ)(hs:∀i x ρ,items[i]?=some x->I i ρ->∃ρ',turn g b x ρ=some (.nx ρ')/\I (i+1) ρ')(k:∀ρ',I items.length ρ'->∃d,rest ρ'=some (.rt d)/\R d):∃d,cG (nC f g b) rest ρ=some (.rt d)/\R d:=by
 obtain⟨ρ',e,h⟩:=gE (g:=g) (b:=b) I h0 hs;rw[aN (by rw[q_for,q];exact e)];exact k ρ' h
theorem gI{n:Nat}{ds:List D}{R:D->Prop}(h:∃d,f (aH n ds)=some (.rt d)/\R d):∃d,bQ n f ds=some d/\R d:=by
 obtain⟨d,e,r⟩:=h;exact⟨d,bB e,r⟩
end P
namespace My
open PySem PySem.Spec PyProof.Rows L2 PySem.SeqAt
end My
namespace P
open PySem PySem.Spec PyProof.Rows L2 PySem.SeqAt
section
variable {X:Cx}
end
end P
namespace My
open PySem PySem.Spec PyProof.Rows L2 PySem.SeqAt
end My
namespace P
open PySem PySem.Spec PyProof.Rows L2 PySem.SeqAt
theorem ST.aside(s:ST H0 A0 A E O σ H ρ)(F:H p=none)(o:HO):ST H0 A0 (λb=>A b\/b=p) E O σ (upd H p o) ρ:=by
 have G:∀a,(A a\/a=p)->A a\/H a=none:=λa B=>B.imp id λz=>by rw[z];exact F
 refine⟨s.ex.trans (Ext.new F),λa B=>.inl (s.sub a B),s.l0,λa B=>?_,s.len,λi d h n=>?_,λi d h n=>?_,s.inj,λq W=>Fact.ext (Ext.new F) (Fact.av G (s.ext q W))⟩
 ·rcases B with B|B
  ·rw[aC (λz=>by subst z;exact s.live _ B F)];exact s.live a B
  ·subst B;rw[aF];exact λz=>nomatch z
 ·obtain⟨v,h1,h2⟩:=s.val i d h n
  exact⟨v,h1,(h2.av G).ext (Ext.new F)⟩
 ·obtain⟨a,N,J,U,M⟩:=s.own i d h n
  exact⟨a,N,.inl J,U,Own.ext (Ext.new F) (.inl J) (M.av G)⟩
end P
namespace My
open PySem PySem.Spec PyProof.Rows L2
section
variable {X:Cx}
theorem CF{ns:List Int}{q:List Value}(r:Vals (ns.map V.int) q){i:Nat}(h:q[i]?=some v):∃t,v=.int ((ns[i]?).getD 0) t:=by
 have B:=r.length;rw[TL]at B;have hi:i<ns.length:=by rw[B];exact(List.getElem?_eq_some_iff.mp h).1
 have e:(ns.map V.int)[i]?=some (.int ns[i]):=by simp[hi]
 obtain⟨u,F,G⟩:=r.get e;rw[h]at F;cases F;obtain⟨t,rfl⟩:=G;exact⟨t,by simp[hi]⟩
theorem GI:OpR X (UP .Add) (λx y H Q=>∃a b ys,x=.ref a/\y=.ref b/\SqT X.K H a []/\SqT X.K H b ys/\Q (.ref b) H):=by
 intro pins s σ H x y v u Q I rx ry h;obtain⟨a,b,ys,rfl,rfl,ha,hb,q⟩:=h;cases rx;cases ry;obtain⟨W,r1,p1,_⟩:=I.tuple ha;obtain⟨B,r2,p2,_⟩:=I.tuple hb;have e1:W=[]:=r1.nil_iff.mpr rfl;subst e1;obtain⟨⟨cls,dd,data,sl⟩,ho,hc,n,hd⟩:=p1;obtain⟨⟨J,ab,F,aa⟩,G,Y,n2,ad⟩:=p2;have U:cls=.type "tuple" := hc;have ac:data=.seq #[] n:=hd;have N:J=.type "tuple" := Y;have M:F=.seq B.toArray n2:=ad;subst U ac N M;exact concat_meets ⟨_,ho,rfl⟩ ⟨_,G,rfl⟩ Z9 seq_tuple_add zaa zab (zac _ _)
  (tuple_addW0 a b #[] B.toArray n n2 dd ab sl aa rfl) ⟨ho,G,.ref b,H,I,rfl,q⟩
def OK:R2:=λx y H Q=>∃l k xs,x=.ref l/\y=.int k/\Rd H l (.lst xs)/\-(2^63)<=k/\k<2^63/\xs.length*k.toNat<=TK /\
 ∀p,H p=none->Q (.ref p) (upd H p (.lst (UA k.toNat xs).flatten))
theorem FA:OpR X (UP .Mult) OK:=by
 intro pins s σ H x y v u Q I rx ry h;obtain⟨l,k,xs,rfl,rfl,hH,h1,h2,hz,q⟩:=h;cases rx;obtain⟨t,rfl⟩:=ry;obtain⟨z,B,n,r,hl,e⟩:=P.Inv.lstR I hH;have J:B.toArray.size*k.toNat<=TK:=by rw[T3,<- hl];exact hz
 have W:¬ B.toArray.size*k.toNat>(2^63-1)/8:=by
  have:(TK:Nat)<=(2^63-1)/8:=by decide
  lia
 have N:¬ (!Builtin.List.listFitsIndex k)=true:=by
  rw[fitsIndex_both h1 h2];exact TZ
 have G:¬ zaf (B.toArray.size*k.toNat)=true:=by
  rw[A6 J];exact TZ
 have M:List.foldl (λY x2=>Y++x2) #[] (UA (if B.toArray.isEmpty=true then 0 else k.toNat) B.toArray)=(UA k.toNat B).flatten.toArray:=by
  have f0:∀m:Nat,List.foldl (λY x2=>Y++x2) #[] (UA m B.toArray)=(UA m B).flatten.toArray:=λm=>by
   have:=foldl_rep B m [];rw[zau]at this;exact this
  rw[f0];cases B with
  | nil=>simp
  | cons a r'=>rw[if_neg (by simp)]
 refine wpAny_binaryOp_repeat_ref (T := "list") (U := "int") (by decide) ⟨_,e,rfl⟩ (λs'=>X9 s' k t) noFill_list_mul F.fills_int_mul F.slot_int_rmul repeat_list F.slot_int_index.lookup
  (call_meets F.slot_int_rmul (X9 s k t) F.entry_int_rmul (F.args_int_rmul_2 _ _) (int___rmul___int_list k t l B.toArray n)
   ⟨e,rfl,⟨_,e,rfl⟩,call_meets F.slot_list_mul ⟨_,e,rfl⟩ F.entry_list_mul (F.args_list_mul_2 _ _) (AutoListH.list___mul___list_int_3 l B.toArray n k t N W G) ⟨e,?_⟩⟩)
 rw[M];exact⟨.ref _,_,I.lnew (t':=s.toks) (r.rep k.toNat) (by rw[len_rep,Nat.mul_comm];exact hz),rfl,q _ I.fresh⟩
end
end My
namespace P
open PySem PySem.Spec PyProof.Rows L2
theorem aA{q B:Type}(a:q)(f:q->Option B):(some a).bind f=f a:=by rw[TF]
theorem aB{q B:Type}(a:q)(f:q->B):(some a).map f=some (f a):=by rw[TH]
section
variable {X:Cx}{O O':List Nat}{L:Lp}
noncomputable def AH:List D->Option D
 | [.int i]=>some (.int i)
 | [.bl b]=>some (.int (if b then 1 else 0))
 | _=>none
theorem JS:iK X (.type "int") AH:=CallR.mono zC <| by
 rintro xs H Q ⟨A,ds,d,F,r,e,q⟩;unfold AH at e;split at e
 ·cases e
  obtain⟨v,rfl,B⟩:=r.one;cases B.int_inv;exact .inl ⟨_,rfl,q _ H (Ext.refl _ _) (.int _)⟩
 ·cases e
  obtain⟨v,rfl,B⟩:=r.one;cases B.bl_inv;exact .inr ⟨_,rfl,q _ H (Ext.refl _ _) (.int _)⟩
 ·cases e
@[simp] theorem q_intB:AH [.bl b]=some (.int (if b then 1 else 0)):=rfl
@[simp] theorem q_intI:AH [.int i]=some (.int i):=rfl
theorem jG:∀ns:List Int,d7 (ns.map .int)=some ns
 | []=>rfl
 | n::ns=>by rw[TU,d7,jG ns];rfl
def MY:D->D->Option D
 | .lst l,.int k=>if bT k=true/\aX (l.length*k.toNat)=true then some (.lst (UA k.toNat l).flatten)else none
 | _,_=>none
theorem RepL.rep(r:RepL A H ds vs):∀k:Nat,RepL A H (UA k ds).flatten (UA k vs).flatten
 | 0=>.nil
 | k+1=>by rw[WT,WT,W0,W0];exact r.append (RepL.rep r k)
theorem CU(ha:PB X O a fa)(B:PB X O b fb):PF X O (.BinOp a .Mult b pos) (a8 MY fa fb):=
 PE.mono (IM My.FA ha B) <| by
  rintro σ H Q ⟨H0,A0,A,E,ρ,d,st,e,q⟩;obtain⟨x,ex,e⟩:=bind_some e;obtain⟨y,U,e⟩:=bind_some e;refine⟨H0,A0,A,E,ρ,x,st,ex,λv H1 F Y=>⟨H0,A0,A,E,ρ,y,st.mono F,U,λw H2 G W=>?_⟩⟩;unfold MY at e;split at e
  ·rename_i _ l k _
   by_cases hz:bT k=true/\aX (l.length*k.toNat)=true
   ·rw[if_pos hz]at e
    cases e;obtain⟨p,xs,rfl,M,J⟩:=(Y.ext G).lst_inv;cases W.int_inv;have hk:=cX hz.1;refine⟨p,k,xs,rfl,rfl,M,by lia,by lia,by rw[J.length];exact dI hz.2,λb B=>?_⟩;have n0:H b=none:=(F.trans G).free B;have N:¬ A b:=λz=>(st.mono (F.trans G)).live b z B
    exact q b _ ((F.trans G).trans (Ext.new B)) n0 N (.lst aF ((J.rep k.toNat).fresh B))
   ·rw[if_neg hz]at e;cases e
  ·cases e
@[simp] theorem q_rep:MY (.lst l) (.int k)=if bT k=true/\aX (l.length*k.toNat)=true then some (.lst (UA k.toNat l).flatten)else none:=rfl
def pS(F q:Ev):Ev:=λρ=>(F ρ).bind λk=>(q ρ).bind λv=>(NR k).map λB=>.dK [(B,v)]
@[simp] theorem q_dispK1:pS fk fv ρ=(fk ρ).bind λk=>(fv ρ).bind λv=>(NR k).map λq=>.dK [(q,v)]:=rfl
theorem yL(hk:PB X O k fk)(hv:PD X O v fv):PF X O (.Dict [some k] [v] pos) (pS fk fv):=
 PE.mono (G5 (BE hk hv FW) rfl rfl (by simp) (by simp)) <| by
  rintro σ H Q ⟨H0,A0,A,E,ρ,d,st,e,q⟩;obtain⟨dk,ek,e⟩:=bind_some e;obtain⟨dv,ev,e⟩:=bind_some e;obtain⟨kk,et,rfl⟩:=map_some e;intro p J;have U:=st.aside J (.dK []);have na:¬ A p:=λz=>st.live p z J
  refine⟨H0,A0,_,E,ρ,dk,U,ek,λx H1 M r1=>⟨H0,A0,_,E,ρ,dv,U.mono M,ev,λy H2 N r2=>?_⟩⟩;have Y:=kA et (r1.ext N);subst Y;have G:H2 p=some (.dK []):=(M.trans N).ow p _ (.inr rfl) aF;have B:Ext A H H2:=(Ext.new J).trans ((M.trans N).mono λa W=>.inl W);have F:∀b,H b≠none->b≠p:=λb hb z=>hb (by rw[z];exact J)
  refine⟨G,[(kk,y)],rfl,by simp,q p _ ?_ J na (.dK aF rfl (.cons (r2.put (.inr rfl) G trivial) .nil))⟩;exact⟨λb w r=>c7 (F b (by rcases r with r|⟨_,r⟩ <;> (rw[r];exact λz=>nomatch z))) (B.rd b w r),
      λb xs k r=>by rw[aC (F b (by rw[r];exact λz=>nomatch z))];exact B.kp b xs k r,
      λb w n r=>by rw[aC (F b (by rw[r];exact λz=>nomatch z))];exact B.ow b w n r,
      λb q w r=>by rw[aC (F b (by rw[r];exact λz=>nomatch z))];exact B.fz b q w r⟩
def bD(x y:D):Option D:=match x,y with
 | .tup l,.tup m=>if aX (l.length+m.length)then some (.tup (l++m))else none
 | x,y=>oP x y
theorem j6:eI X (UP .Add) bD:=OpR.mono (OpR.or MU My.GI) <| by
 rintro x y H Q ⟨A,dx,N,d,G,B,F,e,q⟩;unfold bD at e;split at e
 ·rename_i l m
  cases l with
  | nil=>
   by_cases hz:aX (([]:List D).length+m.length)=true
   ·rw[if_pos hz]at e
    cases e;obtain⟨a,xs,rfl,h1,M⟩:=B.tup_inv;obtain⟨b,ys,rfl,h2,J⟩:=F.tup_inv;cases M;exact .inr ⟨a,b,ys,rfl,rfl,.inl (.inl h1),.inl (.inl h2),q _ H (Ext.refl _ _) (.tup h2 J)⟩
   ·rw[if_neg hz]at e;cases e
  | cons a l=>
   refine .inl ⟨A,_,_,d,G,B,F,?_,q⟩;rw[<- e];rfl
 ·exact .inl ⟨A,_,_,d,G,B,F,e,q⟩
@[simp] theorem q_addAI:bD (.int i) (.int j)=some (.int (i+j)):=rfl
@[simp] theorem q_addAT:bD (.tup l) (.tup m)=if aX (l.length+m.length)then some (.tup (l++m))else none:=rfl
@[simp] theorem q_addAL:bD (.lst l) (.lst m)=if aX (l.length+m.length)then some (.lst (l++m))else none:=rfl
@[simp] theorem q_addAS:bD (.str l) (.str m)=if aX (l.length+m.length)then some (.str (l++m))else none:=rfl
def IY(fd q:Ev):Ev:=λρ=>(fd ρ).bind λd=>(q ρ).bind λk=>(bU d k).map λo=>o.getD .non
theorem E4(Y:X.A.units+1<cLine)(ho:PB X O o fd)(he:PB X O e fk)(m:M1 X o "get" apos e cpos):PD X O (.Call (.Attribute o "get" apos) [e] [] cpos) (IY fd fk):=
 PE.mono (AZ Y ho he m) <| by
  rintro σ H Q ⟨H0,A0,A,E,ρ,d,st,e,q⟩;obtain⟨x,ex,e⟩:=bind_some e;obtain⟨y,ey,e⟩:=bind_some e;obtain⟨ov,M,rfl⟩:=map_some e;refine⟨H0,A0,A,E,ρ,x,st,ex,λv H1 B W=>?_⟩;obtain⟨a,N,G⟩:=C7 y M W;refine⟨a,N,G,H0,A0,A,E,ρ,y,st.mono B,ey,λw H2 F r2=>?_⟩;obtain⟨a',J,U,_,g,e3⟩:=eV M (W.ext F) r2;rw[N]at U;cases U;refine⟨J,g,?_⟩;rcases e3 with⟨rfl,rfl⟩|⟨z',v',rfl,rfl,r4⟩
  ·exact q _ H2 (B.trans F) .non
  ·exact q v' H2 (B.trans F) r4
@[simp] theorem q_get1:IY fd fk ρ=(fd ρ).bind λd=>(fk ρ).bind λk=>(bU d k).map λo=>o.getD .non:=rfl
def eX(c:Bv)(b:Sv):Nat->bJ->Option Out
 | 0,_=>none
 | n+1,ρ=>(c ρ).bind λt=>if t=true then(b ρ).bind λo=>match o with
   | .nx ρ'=>eX c b n ρ'
   | .ct ρ'=>eX c b n ρ'
   | .bk ρ'=>some (.nx ρ')
   | .rt d=>some (.rt d)
  else some (.nx ρ)
def mK(c:Bv)(b:Sv):Sv:=λρ=>eX c b 100000 ρ
theorem zP(hp:W6 (model X.prog X.w) X.A X.env X.xe)(hc:i6 X O1 c g)(Y:b7 X ⟨Ob,O1⟩ O1 body b O1)(h1:Sub O1 O=true)(h2:Sub O' O1=true)(h3:Sub O' Ob=true) :
  eJ X L O (.While c body [] pos) (mK g b) O':=PS.mono (CD hp hc Y) λT σ H ⟨H0,A0,A,E,ρ,F,st,e,p⟩=>by
 obtain⟨A1,N⟩:=st.shut (Sub.mem h1);refine⟨λm σ H=>∃ρ A,ST H0 A0 A E O1 σ H ρ/\eX g b m ρ=some F,⟨100000,ρ,A1,N,e⟩,?_⟩;rintro m σ H ⟨ρ,A,st,e⟩;cases m with
 | zero=>cases e
 | succ m=>
  obtain⟨t,et,e⟩:=bind_some e;refine⟨H0,A0,A,E,ρ,t,st,et,λH1 U=>?_⟩;have fin:∀ {O2:List Nat} {A:Av} {σ:L2.St} {H:Hp} {ρ:bJ},Sub O' O2=true->ST H0 A0 A E O2 σ H ρ->(∀A σ H,ST H0 A0 A E O' σ H ρ->T.nx σ H)->T.nx σ H:=λhs st k=>by
   obtain⟨q,M⟩:=st.shut (Sub.mem hs);exact k q _ _ M
  cases t with
  | true=>
   rw[if_pos rfl]at e;dsimp only;rw[if_pos rfl];obtain⟨o,W,e⟩:=bind_some e;refine⟨λG H'=>∃ρ2 q,ST H0 A0 q E O1 G H' ρ2/\eX g b m ρ2=some F,λG H' ⟨ρ2,q,B,e2⟩=>⟨m,zav m,ρ2,q,B,e2⟩,H0,A0,A,E,ρ,o,st.mono U,W,?_⟩;cases o with
   | nx ρ2=>exact λq J H2 B=>⟨ρ2,q,B,e⟩
   | ct ρ2=>exact λq J H2 B=>⟨ρ2,q,B,e⟩
   | bk ρ2=>cases e;exact λq J H2 B=>fin h3 B p
   | rt d=>cases e;exact p
  | false=>
   rw[if_neg TZ]at e;dsimp only;rw[if_neg TZ];cases e;exact fin h2 (st.mono U) p
end
theorem FR{P:TJ}{w:World}{K:S9}{mg:Str->Option Value}{base:Heap}{x:Str}{st:Stmt}{N ps:List Str}{k:Nat}(M:My.DefAt K mg x st ps)(S:FnScope N ps (aE st)):Fn P w K mg base x (k+1) ps (λ_=>none):=
 My.BodyOk.ok (k:=k) (N:=N) (λW J A F s H vs Q E Y ⟨G,ds,d,U,r,e,B,q⟩=>nomatch B) M S (λvs H Q E ⟨G,ds,d,_,_,e,B,_⟩=>nomatch B)
def m8(n:Nat)(b:(List D->Option D)->Sv):Nat->List D->Option D
 | 0=>λ_=>none
 | m+1=>bQ n (b (m8 n b m))
end P
namespace My
open PySem PySem.Spec PyProof.Rows L2
open AutoSeq1 (wpAny_loadPart')
theorem yJ(l:Addr)(items:Array Value)(n:Nat)(F:Option Addr)(J:Array (Option Value)) :
  Meets (WK.«enumerate.__new__» ⟨[.type "enumerate",.ref l],[]⟩) (λ_ R s=>s.heap.get? l=some {cls:=.type "tuple",dict:=F,data:=.seq items n,slots:=J} /\
   R (.ok (.ret (.ref (s.heap.push {cls:=.type "tuple_iterator",data:=.fields #[.ref l,.int 0 0]}).objs.size)))
    {s with heap:=(s.heap.push {cls:=.type "tuple_iterator",data:=.fields #[.ref l,.int 0 0]}).push {cls:=.type "enumerate",data:=.fields #[.none,.bool false,.ref s.heap.objs.size,UT 0,.none,.none]} }):=
 .of_wp λprog w A R s h=>by
  obtain⟨M,g,d,tk,os⟩:=s;obtain⟨q,h⟩:=h;have G:=sub_enumerate;have B:Heap.IsTuple (Shared.heap ⟨M,g,d,tk,os⟩) l items:=⟨_,q,rfl,n,rfl⟩
  wp_walk using WJ q
  refine wpAny_stack_any λst=>TB ?_
  split
  ·rename_i c _ _ _ _ _
   cases(c == WQ "enumerate")
   ·wp_walk using WJ q,X4 B
    exact⟨_,rfl,h⟩
   ·wp_walk using WJ q,X4 B
    exact⟨_,rfl,h⟩
  ·wp_walk using WJ q,X4 B
   exact⟨_,rfl,h⟩
section
variable {prog:TJ}{w:World}{A:TX}{E:Value->S8->Prop}{s:S8}
theorem zA(Y:SSq t s.heap l xs)
  (h:∀h',V2 h' (s.heap.objs.size+1) s.heap.objs.size 0 .none->SIt t h' s.heap.objs.size l 0->(∀b o,s.heap.get? b=some o->h'.get? b=some o)->Q (.ref (s.heap.objs.size+1)) {s with heap:=h'}) :
  wpAny (model prog w) A (call (.type "enumerate") [.ref l]) Q E s:=by
 obtain⟨⟨cls,J,data,W⟩,U,hc,n,hd⟩:=Y;have M:cls=.type (SH t):=hc;have N:data=.seq xs n:=hd;subst M N;have hz:(s.heap.push (R5 t l)).objs.size=s.heap.objs.size+1:=YI ..;have fin:V2 ((s.heap.push (R5 t l)).push {cls:=.type "enumerate",data:=.fields #[.none,.bool false,.ref s.heap.objs.size,UT 0,.none,.none]}) (s.heap.objs.size+1) s.heap.objs.size 0 .none:=by
  have:=T8 (s.heap.push (R5 t l)) (o:={cls:=.type "enumerate",data:=.fields #[.none,.bool false,.ref s.heap.objs.size,UT 0,.none,.none]}) rfl;rw[hz]at this;exact this
 have q:=h _ fin ⟨_,TV _ (T8 _ rfl),rfl,rfl⟩ λb o x=>TV _ (TV _ x)
 cases t with
 | false=>
  refine callType_new F.called_enumerate (by decide) (F.typeCall_enumerate_1 _) (F.newCall_enumerate_1 _) (λG=>F.args_object_init_2 G _) F.entry_enumerate_new (meets_enumerate_newL l xs n J W) ⟨U,?_⟩;have B:(s.heap.push {cls:=.type "list_iterator",data:=.fields #[.ref l,.int 0 0]}).objs.size=s.heap.objs.size+1:=hz;show _/\_;rw[B];exact⟨⟨_,fin,rfl⟩,q⟩
 | true=>
  refine callType_new F.called_enumerate (by decide) (F.typeCall_enumerate_1 _) (F.newCall_enumerate_1 _) (λG=>F.args_object_init_2 G _) F.entry_enumerate_new (yJ l xs n J W) ⟨U,?_⟩;have B:(s.heap.push {cls:=.type "tuple_iterator",data:=.fields #[.ref l,.int 0 0]}).objs.size=s.heap.objs.size+1:=hz;show _/\_;rw[B];exact⟨⟨_,fin,rfl⟩,q⟩
theorem yI{t:Bool}{e it l:Addr}{i:Nat}{items:Array Value}{x al:Value}{Q:Value->S8->Prop}
  (he:V2 s.heap e it i al) (ax:SIt t s.heap it l i) (hl:SSq t s.heap l items) (hx:items[i]?=some x) (ak:e≠it)
  (hQ:∀h', IsEnumOut h' e it ((i:Int)+1) x s.heap.objs.size -> SIt t h' it l (i+1) ->
   h'.get? s.heap.objs.size=some {cls:=.type "tuple",data:=.seq #[.int i s.toks,x]}->h'.objs.size=s.heap.objs.size+1->
   (∀b o,b≠e->b≠it->s.heap.get? b=some o->h'.get? b=some o)->Q (.ref s.heap.objs.size) {s with heap:=h',toks:=s.toks+1}) :
  wpAny (model prog w) A (WK.«enumerate.__next__» ⟨[.ref e],[]⟩) (λfin s'=>∃v,fin=.done (.ret v)/\Q v s') E s:=by
 obtain⟨hp,g,d,tk,os⟩:=s;show wpAny _ _ (field (.ref e) 2 >>= _) _ _ _;refine S7 (U0 he rfl (x:=.ref it) rfl ?_);refine S7 (next_item ax hl hx λU aj F=>?_);replace F:UM it hp U:=F;have ab:V2 U e it i al:=(F.2 e ak).trans he;show wpAny _ _ (field (.ref e) 3 >>= _) _ _ ⟨U,g,d,tk,os⟩;refine S7 (U0 ab rfl (x:=UT i) rfl ?_);show wpAny _ _ (field (.ref e) 4 >>= _) _ _ ⟨U,g,d,tk,os⟩;refine S7 (U0 ab rfl (x:=.none) rfl ?_);show wpAny _ _ (mkInt i >>= _) _ _ ⟨U,g,d,tk,os⟩;refine S7 (wpAny_mkInt ?_);show wpAny _ _ (XQ (.ref e) 3 (UT ((i:Int)+1)) >>= _) _ _ ⟨U,g,d,tk+1,os⟩;refine S7 (V1 ab (by simp) λad Y M=>?_);replace M:UM e U ad:=M;replace Y:V2 ad e it ((i:Int)+1) al:=Y;show wpAny _ _ (XQ (.ref e) 4 .none >>= _) _ _ ⟨ad,g,d,tk+1,os⟩;refine S7 (V1 Y (by simp) λW ac G=>?_);replace G:UM e ad W:=G;replace ac:V2 W e it ((i:Int)+1) al:=ac;show wpAny _ _ (newTuple [.int i tk,x] >>= _) _ _ ⟨W,g,d,tk+1,os⟩;refine S7 (ZN ?_);have aa:V2 (W.push {cls:=.type "tuple",data:=.seq #[.int i tk,x]}) e it ((i:Int)+1) al:=TV _ ac;generalize hh₄:W.push {cls:=.type "tuple",data:=.seq #[.int i tk,x]}=h₄ at aa;have hsz:W.objs.size=hp.objs.size:=by rw[G.1,M.1,F.1]
 have ar:e<hp.objs.size:=TQ he;have aq:h₄.get? hp.objs.size=some {cls:=.type "tuple",data:=.seq #[.int i tk,x]}:=by rw[<- hh₄,<- hsz];exact T8 _ rfl
 have aw:h₄.objs.size=hp.objs.size+1:=by rw[<- hh₄,YI,hsz]
 have au:∀b o,b≠e->b≠it->hp.get? b=some o->h₄.get? b=some o:=λb o ae as hb=>by
  rw[<- hh₄];exact TV _ (G.extBut b o ae (M.extBut b o ae (F.extBut b o as hb)))
 have ao:SIt t h₄ it l (i+1):=by
  rw[<- hh₄];exact aj.to λo q=>TV _ (G.extBut it o (UB ak) (M.extBut it o (UB ak) q))
 show wpAny _ _ (zaJ (.ref e) >>= _) _ _ ⟨h₄,g,d,tk+1,os⟩;rw[hsz];clear hh₄ ac G Y M ab F aj hsz W ad U;refine S7 ?_
 ·unfold zaJ
  refine S7 (U0 aa rfl (x:=.none) rfl (TB ?_));simp only[if_true];refine S7 (X3 ?_);refine S7 (U0 aa rfl (x:=al) rfl ?_);refine S7 (V1 aa (by simp) λai ah B=>?_);replace B:UM e h₄ ai:=B;replace ah:V2 ai e it ((i:Int)+1) x:=ah;show wpAny _ _ (zaK (.ref e) (.ref hp.objs.size) >>= _) _ _ ⟨ai,g,d,tk+1,os⟩;refine S7 ?_
  ·unfold zaK
   refine S7 (V1 ah (by simp) λan af J=>?_);replace J:UM e ai an:=J;replace af:IsEnumOut an e it ((i:Int)+1) x hp.objs.size:=af;refine V1 af (by simp) λam ag N=>?_
   replace N:UM e an am:=N;replace ag:IsEnumOut am e it ((i:Int)+1) x hp.objs.size:=ag;refine S7 (XS (TB ⟨_,rfl,hQ am ag ?_ ?_ ?_ ?_⟩))
   ·exact ao.to λo q=>N.extBut it o (UB ak) (J.extBut it o (UB ak) (B.extBut it o (UB ak) q))
   ·exact N.extBut _ _ (US ar) (J.extBut _ _ (US ar) (B.extBut _ _ (US ar) aq))
   ·rw[N.1,J.1,B.1,aw]
   ·exact λb o ae as hb=>N.extBut b o ae (J.extBut b o ae (B.extBut b o ae (au b o ae as hb)))
theorem zZ{t:Bool}{e it l:Addr}{i:Nat}{items:Array Value}{x q:Value}{Q:Option Value->S8->Prop}
  (J:V2 s.heap e it i q) (G:SIt t s.heap it l i) (U:SSq t s.heap l items) (M:items[i]?=some x) (B:e≠it)
  (N:∀h', IsEnumOut h' e it ((i:Int)+1) x s.heap.objs.size -> SIt t h' it l (i+1) ->
   h'.get? s.heap.objs.size=some {cls:=.type "tuple",data:=.seq #[.int i s.toks,x]}->h'.objs.size=s.heap.objs.size+1->
   (∀b o,b≠e->b≠it->s.heap.get? b=some o->h'.get? b=some o)->Q (some (.ref s.heap.objs.size)) {s with heap:=h',toks:=s.toks+1}) :
  wpAny (model prog w) A (UW (.ref e)) Q E s:=by
 have hT:s.TypeIs (.ref e) "enumerate" := ⟨_,J,rfl⟩;unfold UW;exact S7 (XO (V9 (name:=WA "__next__") hT ZT
  (VI ZT hT F.entry_enumerate_next
   (yI J G U M B λh' a b c d k=>TB (N h' a b c d k)) (F.args_enumerate_next_1 _))))
theorem AN{t:Bool}{i:Nat}{items:Array Value}{Q:Option Value->S8->Prop}(N:A.handled=none)
  (J:V2 s.heap e it i old) (G:SIt t s.heap it l i) (hl:SSq t s.heap l items) (M:items[i]?=none)
  (Y:∀h',YH it s.heap h'->Q none {s with heap:=h'}):wpAny (model prog w) A (UW (.ref e)) Q E s:=by
 have hT:s.TypeIs (.ref e) "enumerate" := ⟨_,J,rfl⟩;unfold UW;refine S7 (XO (V9 (name:=WA "__next__") hT ZT
  (VI ZT hT F.entry_enumerate_next ?_ (F.args_enumerate_next_1 _))))
 show wpAny _ _ (field (.ref e) 2 >>= _) _ _ _;refine S7 (U0 J rfl (x:=.ref it) rfl ?_);refine S7 (next_end N G hl M λh' x q B=>?_);obtain⟨o,U,W⟩:=B;refine S7 (zao (T := "StopIteration") (b:=true) ⟨o,U,W⟩ isSubtype_stop ?_);exact TB (Y _ q)
end
def SI(K:S9)(t:Bool)(l:Addr):It:=
 ⟨λi H => ∃xs, II K t H l xs /\ i<xs.length, λi H x H' => ∃p u, x = .ref p /\ H p = none /\ H' = upd H p (.tup [.int (i:Int), u]) /\ ∀xs, II K t H l xs -> xs[i]? = some u,
  λi H=>∃xs,II K t H l xs/\xs.length<=i⟩
theorem zT{P:TJ}{w:World}{K:S9}{Y:List Expr}{x1}{tp:Pos}(t:Bool){e it l:Addr}(ab:e≠it) :
  Turn P w K (.Tuple Y x1 tp) (SI K t l) [e,it] e (λi h=>(∃J,V2 h e it (i:Nat) J)/\SIt t h it l i) where
 mem:=by simp
 obj:=by
  rintro i h ⟨⟨J,M⟩,⟨o1,e1,_,d1⟩⟩ c B;simp only[UH,UI,or_false]at B;rcases B with rfl|rfl
  ·exact⟨_,M,λv q=>by cases q⟩
  ·exact⟨o1,e1,λv q=>by rw[d1]at q;cases q⟩
 keep:=λi h h' ⟨⟨J,M⟩,N⟩ k=>⟨⟨J,k e (by simp) _ M⟩,N.to λo q=>k it (by simp) o q⟩
 item:=by
  intro X hP hw hK B i pins s σ H E I hf st hg;subst hP hw hK;obtain⟨⟨J,M⟩,N⟩:=st;obtain⟨xs,q1,an⟩:=hg;obtain⟨ac,r1,p1⟩:=vS I q1;have e1:xs[i]?=some xs[i]:=by simp[an]
  obtain⟨u,eu,ru⟩:=r1.get e1;refine zZ M N p1 (x:=u) (by simpa using eu) ab λh' a1 a2 a3 a4 U=>⟨_,rfl,?_⟩
  refine wpAny_letOwnedTupleGo_enum (s:={s with heap:=h',toks:=s.toks+1}) a1 λh2 af sb=>?_
  have zz:∀c,c∈[e,it]->c<s.heap.objs.size:=λc B=>by
   simp only[UH,UI,or_false]at B;rcases B with rfl|rfl
   ·exact TQ M
   ·obtain⟨o,q,_⟩:=N;exact TQ q
  have W:∀c o,c≠e->h'.get? c=some o->h2.get? c=some o:=λc o B q=>sb.extBut _ _ B q
  have I1:Inv X pins σ H {s with heap:=h2,toks:=s.toks+1}:=lD I hf λc o B q=>by
   simp only[UH,UI,or_false,not_or]at B;exact W c o B.1 (U c o B.1 B.2 q)
  have F:H s.heap.objs.size=none:=I.fresh;have ah:h2.get? s.heap.objs.size=some {cls:=.type "tuple",data:=.seq #[.int i s.toks,u]}:=W _ _ (US (zz e (by simp))) a3;have I2:Inv X pins σ (upd H s.heap.objs.size (.tup [.int (i:Int),xs[i]])) {s with heap:=h2,toks:=s.toks+1}:=by
   have am:HOk X.prog X.w (upd H s.heap.objs.size (.tup [.int (i:Int),xs[i]])) h2:=λc ob q=>by
    by_cases B:c=s.heap.objs.size
    ·subst B;rw[aF]at q;cases q
     exact⟨by show 2<=TK;decide,[.int i s.toks,u],.cons ⟨_,rfl⟩ (.cons ru .nil),_,ah,rfl,0,rfl,rfl⟩
    ·rw[aC B]at q
     exact(I1.hok c ob q).stay (λ_ _ _ q=>q) (λd q=>by rw[aC (aW q F)];exact q) λd ak q=>by rw[aC (aW q F)];exact q
   refine I.call' (s':={s with heap:=h2,toks:=s.toks+1}) (ch:=[e,it]) rfl ⟨λc o q _ _ G=>?_,λc o q _ _ G=>⟨o.slots,?_⟩,λc o q n G=>by rw[aC (T9 (TQ q))];exact n,λc o q G=>⟨o,?_⟩,λc ak q=>by rw[aC (aW q F)];exact q,λc o' u' q=>by rw[aC (aW q F)];exact q,λc ps q=>⟨#[],by rw[aC (aW q F),q];simp⟩⟩ am I.bare λb hb=>?_
   ·simp only[UH,UI,or_false,not_or]at G
    exact W c o G.1 (U c o G.1 G.2 q)
   ·simp only[UH,UI,or_false,not_or]at G
    exact W c o G.1 (U c o G.1 G.2 q)
   ·simp only[UH,UI,or_false,not_or]at G
    exact W c o G.1 (U c o G.1 G.2 q)
   ·obtain⟨_,f1,_,f3,f4,f5⟩:=hf b hb
    exact⟨f3,f1,f4,f5⟩
  refine⟨.ref s.heap.objs.size,_,I2,rfl,⟨_,_,rfl,F,rfl,λbc g1=>by rw[<- GA I q1 g1];exact e1⟩,⟨⟨_,af⟩,a2.to λo q=>W _ o (UB ab) q⟩,λc B=>?_⟩;rw[aC (T9 (zz c B))];exact(hf c B).1
 done:=by
  intro X hP hw hK B i pins s σ H E I hf st hg;subst hP hw hK;obtain⟨⟨J,M⟩,N⟩:=st;obtain⟨xs,q1,ap⟩:=hg;obtain⟨ac,r1,p1⟩:=vS I q1;have n1:=r1.length;refine AN (I.ok.hd B) M N p1 (by simp;lia) λh' U=>⟨rfl,lD (t':=s.toks) I hf λc o B q=>?_⟩
  simp only[UH,UI,or_false,not_or]at B;exact U c o B.2 q
 self:=λ_ _ _ _ _ st h=>let ⟨⟨_,M⟩,_⟩:=st;wpAny_pyIter_enum M h
theorem boot_enumerate:UJ "enumerate" = some (.type "enumerate"):=by first|rfl|decide +kernel
def OJ(K:S9)(ta:TA):TI:=λσ H R=>ta σ H λvs H1=>∃t l xs,vs=[.ref l]/\II K t H1 l xs/\R (SI K t l) H1
theorem F9{X:Cx}{B:List Expr}{x1}{tp:Pos}{a:Expr}{ta:TA}{p pos:Pos}(hg:Gl X "enumerate")(hm:X.mg "enumerate" = none)(ha:PA X [a] ta)(hs:TC [a] X.env=[(false,eval a X.env)]:=by rfl) :
  PI X (.Tuple B x1 tp) (.Call (.Name "enumerate" p) [a] [] pos) (OJ X.K ta):=by
 intro pins s σ H R I h;refine Call_ (gF I hg hm boot_enumerate (X5 (a7 (ha pos pins s σ H _ I h) λus M ⟨vs,H1,G,r1,J⟩=>?_) (by rw[hs];rfl) rfl));obtain⟨t,l,xs,rfl,J,q⟩:=J;obtain⟨u,rfl,Y⟩:=vals1 r1;cases Y;obtain⟨W,_,p1⟩:=vS G J;refine zA p1 λh' U N k=>?_
 refine wpAny_pyIter_enum U ?_;have D:M.heap.objs.size+1≠M.heap.objs.size:=by lia
 refine⟨_,[_,_],_,_,H1,rfl,G.kept (t':=M.toks) k,zT t D,⟨⟨_,U⟩,N⟩,λc F=>G.fpOk ?_ (G.hok.fresh ?_),q⟩
 ·simp only[UH,UI,or_false]at F
  rcases F with rfl|rfl <;> lia
 ·simp only[UH,UI,or_false]at F
  rcases F with rfl|rfl <;> lia
end My
namespace P
open PySem PySem.Spec PyProof.Rows L2
noncomputable def eE:Nat->List D->List D
 | _,[]=>[]
 | k,x::xs=>.tup [.int (k:Int),x]::eE (k+1) xs
def xX(f:Lv):Lv:=λρ=>(f ρ).bind λds=>match ds with
 | [a]=>(pC a).map (eE 0)
 | _=>none
theorem fB:∀ {xs:List D} {k i:Nat} {d:D},(eE k xs)[i]?=some d->∃x,xs[i]?=some x/\d=.tup [.int ((k+i:Nat):Int),x]
 | [],k,i,d,h=>by simp[eE]at h
 | x::xs,k,0,d,h=>by simp[eE]at h;exact⟨x,rfl,h.symm⟩
 | x::xs,k,i+1,d,h=>by
  obtain⟨y,q,B⟩:=fB (xs:=xs) (k:=k+1) (i:=i) (by simpa[eE]using h);exact⟨y,by simpa using q,by rw[B];congr 4;lia⟩
theorem iR:∀(xs:List D) (k:Nat),(eE k xs).length=xs.length
 | [],_=>rfl
 | x::xs,k=>by simp[eE,iR xs]
theorem AQ{M}(hg:Gl X "enumerate")(hm:X.mg "enumerate" = none)(ha:pE X O [a] f)(hs:TC [a] X.env=[(false,eval a X.env)]:=by rfl) :
  PDI X O (.Tuple elts M tp) (.Call (.Name "enumerate" p) [a] [] pos) (xX f):=PI.mono (My.F9 hg hm ha hs) λσ H R ⟨H0,A0,A,E,ρ,items,st,e,q⟩=>by
 obtain⟨ds,e1,e⟩:=bind_some e;refine⟨H0,A0,A,E,ρ,ds,st,e1,λvs H1 M r1=>?_⟩;split at e
 case h_2=>cases e
 rename_i da;obtain⟨xs,e2,rfl⟩:=map_some e;obtain⟨v,rfl,U⟩:=r1.one;obtain⟨t1,G,us,rfl,q1,_,k1⟩:=FD (K:=X.K) e2 U;refine⟨t1,G,us,rfl,q1,q _ H1 [.rep da (.ref G)] M (λp hp=>?_) ?_⟩
 ·rw[List.mem_singleton.mp hp];exact U
 ·intro A' H' lv hE i
  have a1:Rep A' H' da (.ref G):=hE (.rep da (.ref G)) (UL ..);obtain⟨B,J,F⟩:=k1 A' H' a1;refine⟨λhi=>⟨B,J,by rw[F.length];rw[iR]at hi;exact hi⟩,λd hd=>?_⟩;obtain⟨x,ex,rfl⟩:=fB hd;obtain⟨u,W,ru⟩:=F.get' ex;refine⟨⟨B,J,(List.getElem?_eq_some_iff.mp W).1⟩,λx' H2 ⟨p,u',Y,n,e5,e6⟩=>?_⟩;subst Y e5;have N:=e6 B J;rw[W]at N;cases N;rw[Nat.zero_add];exact⟨Ext.new n,.tup aF (.cons (.int _) (.cons (ru.ext (Ext.new n)) .nil))⟩
@[simp] theorem q_enum:xX f ρ=(f ρ).bind λds=>match ds with
 | [a]=>(pC a).map (eE 0)
 | _=>none:=rfl
end P
namespace P
open L2
structure Ro where
 j:Int
 k:Int
 a:Int
 b:Int
 p:Int
structure GR(M many:Int)(rs:List Ro):Prop where
 len:rs.length<=12
 jk:∀r∈rs,0<=r.j/\r.j<r.k/\r.k<many
 ab:∀r∈rs,(0<=r.a/\r.a<M)/\0<=r.b/\r.b<M
 pr:∀r∈rs,0<=r.p/\r.p<=10^30
noncomputable def dA(q:List Ro)(n:Int):Option Ro:=if 0<=n then q[n.toNat]? else none
theorem dH(h:dA rs n=some r):r∈rs:=by
 unfold dA at h;split at h
 ·exact U9 h
 ·cases h
theorem gJ(h:dA rs n=some r):0<=n/\n<(rs.length:Int):=by
 unfold dA at h;split at h
 ·rename_i h0
  have:=(List.getElem?_eq_some_iff.mp h).1
  lia
 ·cases h
def gw(rs:List Ro):Int->List Int->Option Int
 | at_,[]=>some at_
 | at_,n::w=>(dA rs n).bind λr=>if r.j=at_ then gw rs r.k w else none
theorem iT:∀ {at_:Int} {v w:List Int},gw rs at_ (v++w)=(gw rs at_ v).bind λe=>gw rs e w
 | at_,[],w=>rfl
 | at_,n::v,w=>by
  show((dA rs n).bind λr=>if r.j=at_ then gw rs r.k (v++w)else none)=_;cases e:dA rs n with
  | none=>simp[gw,e]
  | some r=>
   by_cases h:r.j=at_
   ·simp[gw,e,h,iT (v:=v) (w:=w)]
   ·simp[gw,e,h]
theorem G4(h:gw rs at_ w=some e)(q:dA rs n=some r)(B:r.j=e):gw rs at_ (w++[n])=some r.k:=by
 rw[iT,h];simp[gw,q,B]
theorem vH(g:GR M many rs):∀ {at_ e:Int} {w:List Int},gw rs at_ w=some e->at_+(w.length:Int)<=e
 | at_,e,[],h=>by cases h;simp
 | at_,e,m::w,h=>by
  unfold gw at h;cases er:dA rs m with
  | none=>rw[er]at h;cases h
  | some r=>
   rw[er]at h;simp only[ZU]at h;split at h
   ·have:=vH g h
    have:=(g.jk r (dH er)).2.1;simp only[UK];lia
   ·cases h
def Rch(q:List Ro)(x k:Int):Prop:=∃w,gw q x w=some k
theorem Rch.refl(q:List Ro)(k:Int):Rch q k k:=⟨[],rfl⟩
theorem Rch.inv(h:Rch rs x k):x=k\/∃n r,dA rs n=some r/\r.j=x/\Rch rs r.k k:=by
 obtain⟨w,hw⟩:=h;cases w with
 | nil=>cases hw;exact .inl rfl
 | cons n w=>
  unfold gw at hw;cases er:dA rs n with
  | none=>rw[er]at hw;cases hw
  | some r=>
   rw[er]at hw;simp only[ZU]at hw;split at hw
   ·rename_i hj
    exact .inr ⟨n,r,er,hj,w,hw⟩
   ·cases hw
theorem Rch.le(g:GR M many rs)(h:Rch rs x k):x<=k:=by
 obtain⟨w,hw⟩:=h;have:=vH g hw
 lia
def IsF(rs:List Ro)(k:Int):Int->List Int->Prop
 | x,[]=>x=k
 | x,n::w=>∃r,dA rs n=some r/\r.j=x/\IsF rs k r.k w/\∀m r',m<n->dA rs m=some r'->r'.j=x->¬ Rch rs r'.k k
theorem IsF.way:∀ {x:Int} {w:List Int},IsF rs k x w->gw rs x w=some k
 | x,[],h=>by rw[show x=k from h];rfl
 | x,n::w,⟨r,hr,hj,h,_⟩=>by simp[gw,hr,hj,IsF.way h]
theorem IsF.rch(h:IsF rs k x w):Rch rs x k:=⟨w,h.way⟩
noncomputable def aZ(ds:List (Int×List Int))(x:Int):Option (List Int):=(ds.find? λp=>decide (p.1=x)).map (·.2)
theorem gC(h:aZ ds x=none):aZ (ds++[(x,w)]) y=if y=x then some w else aZ ds y:=by
 unfold aZ at h ⊢;rw[List.find?_append];by_cases e:y=x
 ·subst e
  rw[if_pos rfl];have:(ds.find? λp=>decide (p.1=y))=none:=by
   cases z:ds.find? λp=>decide (p.1=y)with
   | none=>rfl
   | some p=>rw[z]at h;cases h
  rw[this];simp
 ·rw[if_neg e]
  have q:¬ x=y:=λz=>e z.symm
  simp[q]
structure FI(rs:List Ro)(k c:Int)(ds:List (Int×List Int)):Prop where
 it:∀x w,aZ ds x=some w->c<=x/\x<=k/\IsF rs k x w
 no:∀x,c<=x->x<=k->aZ ds x=none->¬ Rch rs x k
structure FJ(rs:List Ro)(k c:Int)(i:Nat)(ds:List (Int×List Int)):Prop where
 it:∀x w,aZ ds x=some w->c<=x/\x<=k/\IsF rs k x w
 no:∀x,c<x->x<=k->aZ ds x=none->¬ Rch rs x k
 me:aZ ds c=none->∀m r,m<(i:Int)->dA rs m=some r->r.j=c->¬ Rch rs r.k k
theorem FI.start(q:List Ro)(k:Int):FI q k k [(k,[])]:=by
 refine⟨λx w h=>?_,λx h1 h2 h=>?_⟩
 ·unfold aZ at h
  simp at h;obtain⟨e,rfl⟩:=h;subst e;exact⟨Int.le_refl _,Int.le_refl _,rfl⟩
 ·have e:x=k:=by lia
  subst e;simp[aZ]at h
theorem FI.go(h:FI rs k (c+1) ds):FJ rs k c 0 ds:=
 ⟨λx w e=>by have:=h.it x w e;exact⟨by lia,this.2⟩,λx h1 h2 e=>h.no x (by lia) h2 e,λ_ m r B q=>by have:=(gJ q).1;lia⟩
theorem FJ.skip(g:GR M many rs)(h:FJ rs k c i ds)(G:dA rs (i:Int)=some r)(J:¬ (r.j=c/\(aZ ds r.k).isSome=true/\aZ ds c=none)):FJ rs k c (i+1) ds:=by
 refine⟨h.it,h.no,λe m N U q B=>?_⟩;by_cases z:m<(i:Int)
 ·exact h.me e m N z q B
 ·have:m=(i:Int):=by lia
  subst this;rw[G]at q;cases q;cases e2:aZ ds r.k with
  | some w=>exact absurd ⟨B,by rw[e2];rfl,e⟩ J
  | none=>
   have:=(g.jk r (dH G)).2.1;by_cases F:r.k<=k
   ·exact h.no r.k (by lia) F e2
   ·exact λz=>F (z.le g)
theorem FJ.put(h:FJ rs k c i ds)(U:c<k)(M:dA rs (i:Int)=some r)(J:r.j=c)(hw:aZ ds r.k=some w)(q:aZ ds c=none):FJ rs k c (i+1) (ds++[(c,(i:Int)::w)]):=by
 refine⟨λx v e=>?_,λx h1 h2 e=>?_,λe=>?_⟩
 ·rw[gC q]at e
  by_cases z:x=c
  ·rw[if_pos z]at e
   cases e;subst z;exact⟨Int.le_refl _,by lia,r,M,J,(h.it _ _ hw).2.2,λm N G B F=>h.me q m N G B F⟩
  ·rw[if_neg z]at e
   exact h.it x v e
 ·rw[gC q,if_neg (by lia)]at e
  exact h.no x h1 h2 e
 ·rw[gC q,if_pos rfl]at e
  cases e
theorem FJ.done(h:FJ rs k c rs.length ds)(G:c<k):FI rs k c ds:=by
 refine⟨h.it,λx h1 h2 e=>?_⟩;by_cases z:x=c
 ·subst z
  intro q;rcases q.inv with z|⟨n,r,B,F,q⟩
  ·lia
  ·exact h.me e n r (gJ B).2 B F q
 ·exact h.no x (by lia) h2 e
theorem FI.end(g:GR M many rs)(h:FI rs k c ds)(q:c<=j):(∀w,aZ ds j=some w->IsF rs k j w)/\(aZ ds j=none->¬ Rch rs j k):=by
 refine⟨λw e=>(h.it j w e).2.2,λe z=>?_⟩;exact h.no j q (z.le g) e z
noncomputable def fl{α:Type}(h:Nat->Ro->List α):Nat->List Ro->List α
 | _,[]=>[]
 | m,r::rs=>h m r++fl h (m+1) rs
noncomputable def sg(q:Nat->Ro->Int):Nat->List Ro->Int
 | _,[]=>0
 | m,r::rs=>q m r+sg q (m+1) rs
end P
namespace P
open PySem PySem.Spec PyProof.Rows L2
theorem yW{n:Nat}(h:n<=1000000):bH [.int (n:Int)]=some (aG 0 1 n):=by
 show(if bT (n:Int)then _ else _)=_;rw[if_pos (by simp only[bT,UE,decide_eq_true_eq];lia)];simp
theorem aY(h0:0<=y)(h:y<=1000000):bH [.int y]=some (aG 0 1 y.toNat):=by
 show(if bT y then _ else _)=_;rw[if_pos (by simp only[bT,UE,decide_eq_true_eq];lia)]
theorem CI(h:v.length+w.length<=1000000):bD (tupI v) (tupI w)=some (tupI (v++w)):=by
 unfold tupI;rw[q_addAT,if_pos (by simp only[aX,TL];exact decide_eq_true h),VE]
noncomputable def bA(r:Ro):D:=.tup [.int r.j,.int r.k,.int r.a,.int r.b,.int r.p]
theorem qL(h:dA rs n=some r):dW (rs.map bA) n=some (bA r):=by
 have q:=gJ h;obtain⟨j,rfl⟩:∃j:Nat,n=(j:Int):=⟨n.toNat,by lia⟩;unfold dA at h;rw[if_pos (by lia)]at h;refine bZ ?_;rw[T6];simp at h;rw[h];rfl
theorem at0:dW (a::l) 0=some a:=bZ (j:=0) rfl
theorem at1:dW (a::b::l) 1=some b:=bZ (j:=1) rfl
theorem NA:aI (bA r) (.int 0)=some (.int r.j):=by simp[bA,at0]
theorem HZ:aI (bA r) (.int 1)=some (.int r.k):=by simp[bA,at1]
theorem u9(G:-1000<=a)(q:a<=1000)(F:-1000<=b)(B:b<=1000):kC [.int a,.int b,.int (-1)]=some (aG a (-1) (a-b).toNat):=by
 have e:My.rsz a b (-1)=(a-b).toNat:=by
  unfold My.rsz WF;rw[if_neg (by decide)];by_cases h:a>b
  ·rw[if_pos h,show -(-1:Int)=1 from rfl,Int.ediv_one];lia
  ·rw[if_neg h];lia
 have s:XH a b (-1)=true:=by
  unfold XH WF;simp only[Builtin.Range.rangeFitsLong,UE,zat,decide_eq_true_eq,beq_iff_eq];rw[if_neg (by decide),show -(-1:Int)=1 from rfl,Int.ediv_one];have t:(if(-1:Int)>0 then decide (-2^63<=b+(-1-1)) && decide (b+(-1-1)<2^63)else decide (-2^63<=b+(-1+1)) && decide (b+(-1+1)<2^63))=true:=by
   rw[if_neg (by decide),UE];exact⟨decide_eq_true (by lia),decide_eq_true (by lia)⟩
  rw[t];refine⟨?_,.inr rfl⟩;split <;> lia
 show(if(-1:Int)≠0/\(-1:Int).natAbs<1000/\XH a b (-1)=true then some (aG a (-1) (My.rsz a b (-1)))else none)=_;rw[if_pos ⟨by decide,by decide,s⟩,e]
def fK(p:Int×List Int):Key×D:=(.inl p.1,tupI p.2)
theorem MV(ds:List (Int×List Int))(x:Int):c9 (ds.map fK) (.inl x:Key)=(aZ ds x).map tupI:=by
 unfold c9 aZ;induction ds with
 | nil=>rfl
 | cons p ds ih=>
  rw[TU,VP,VP];by_cases e:p.1=x
  ·have q:(fK p).1=(T1 x:Key):=by show(T1 p.1:Key)=_;rw[e]
   simp[e,q,fK]
  ·have q:¬ (fK p).1=(T1 x:Key):=λz=>e (by injection z)
   simp only[e,q,decide_false];exact ih
theorem p9(ds:List (Int×List Int))(x:Int):bU (.dK (ds.map fK)) (.int x)=some ((aZ ds x).map tupI):=by
 show some (c9 (ds.map fK) (.inl x:Key))=_;rw[MV]
theorem LJ(h:aZ ds x=none)(hz:ds.length<=1000000):rB (.dK (ds.map fK)) (.int x) (tupI w)=some (.dK ((ds++[(x,w)]).map fK)):=by
 show(if aX (ds.map fK).length then some (D.dK (putD (ds.map fK) (.inl x:Key) (tupI w)))else none)=_;rw[if_pos (by simp only[aX,TL];exact decide_eq_true hz)];have F:((ds.map fK).any λp=>decide (p.1=(T1 x:Key)))=false:=by
  rw[List.any_eq_false];intro p G;obtain⟨q,B,rfl⟩:=List.mem_map.mp G;have:q.1≠x:=λz=>by
   have:(ds.find? λp=>decide (p.1=x))≠none:=λy=>by
    rw[List.find?_eq_none]at y;exact y q B (by simp[z])
   unfold aZ at h;cases y:ds.find? λp=>decide (p.1=x)with
   | none=>exact this y
   | some p=>rw[y]at h;cases h
  simp[fK,this]
 unfold putD;rw[F,VE];rfl
noncomputable def bY(K:Nat)(p:Int->Bool):D:=.lst ((T2 K).map λ(k:Nat)=>.bl (p (k:Int)))
def a9(K:Nat)(P:Int->Int->Bool):D:=.lst ((T2 K).map λ(x:Nat)=>bY K (P (x:Int)))
theorem gH{K:Nat}{p:Int->Bool}{k:Int}(h0:0<=k)(h:k<(K:Int)):aI (bY K p) (.int k)=some (.bl (p k)):=by
 obtain⟨j,rfl⟩:∃j:Nat,k=(j:Int):=⟨k.toNat,by lia⟩;exact bZ (by simp[show j<K by lia])
theorem iX{K:Nat}{P:Int->Int->Bool}{k:Int}(h0:0<=k)(h:k<(K:Int)):aI (a9 K P) (.int k)=some (bY K (P k)):=by
 obtain⟨j,rfl⟩:∃j:Nat,k=(j:Int):=⟨k.toNat,by lia⟩;exact bZ (by simp[show j<K by lia])
noncomputable def PH(K:Nat)(f:Int->D):D:=.lst ((T2 K).map λ(x:Nat)=>f (x:Int))
theorem FH{K:Nat}{f:Int->D}{c:Int}{d:D}(h0:0<=c)(h:c<(K:Int)):rB (PH K f) (.int c) d=some (PH K λx=>if x=c then d else f x):=by
 have B:rG ((T2 K).map λ(x:Nat)=>f (x:Int)).length c=some c.toNat:=by
  unfold rG;rw[if_pos h0,if_pos (by simpa using h)]
 show((EF (.int c)).bind λk=>(rG _ k).map λj=>D.lst (VJ _ j d))=_;simp only[q_asI,ZU];rw[B];show some (D.lst _)=some (D.lst _);congr 2;refine YD (by simp) λi h1 h2=>?_
 rw[List.getElem_set];by_cases e:c.toNat=i
 ·have q:((i:Nat):Int)=c:=by lia
  simp[e,q]
 ·have q:¬ ((i:Nat):Int)=c:=by lia
  simp[e,q]
theorem A7(K:Nat):aG 0 1 K=(T2 K).map λ(k:Nat)=>D.int (k:Int):=by
 unfold aG;exact zaw λi _=>by simp
theorem sG{K:Nat}{f:Ev}{rest:List (Option D)}{F:Int->D}(h:∀k:Int,0<=k->k<(K:Int)->f (some (.int k)::rest)=some (F k)):∀(l:List Nat) (o:Option D),(∀k∈l,k<K)->bF (aJ 0) mS f (l.map λ(k:Nat)=>D.int (k:Int)) (o::rest)=some (l.map λ(k:Nat)=>F (k:Int))
 | [],o,_=>rfl
 | k::l,o,hl=>by
  have ih:=sG h l (some (.int (k:Int))) λm B=>hl m (UG _ B)
  have q:=h (k:Int) (by lia) (by have:=hl k (UL ..);lia);simp[bF,q,ih]
theorem oC(h1:-1000<=a)(h2:a<=1000)(B:-1000<=b)(q:b<=1000000):fD [.int a,.int b]=some (aG a 1 (b-a).toNat):=by
 show(if(bT a && bT b)=true then _ else _)=_;rw[if_pos (by simp only[bT,UE,decide_eq_true_eq];lia)]
end P
namespace My
open PySem PySem.Spec PyProof.Rows L2
noncomputable def PM(a:Bool):String:=if a=true then "str_ascii_iterator" else "str_iterator"
noncomputable def R9(x:Str):It:=⟨λi H=>i<x.cps.size,λi H y H'=>H'=H/\∃c,x.cps[i]?=some c/\y=.str ⟨#[c]⟩,λi H=>x.cps.size<=i⟩
theorem BB{P:TJ}{w:World}{K:S9}{tg:Expr}(a:Bool)(x:Str)(t:Tok)(it:Addr):Turn P w K tg (R9 x) [it] it (λi h=>h.IsStrIter it (PM a) x t i) where
 mem:=by simp
 obj:=λi h st b q=>by
  have e:b=it:=by simpa using q
  subst e;obtain⟨o,e,c,d⟩:=st;exact⟨o,e,λv z=>by rw[d]at z;cases z⟩
 keep:=λi h h' st k=>let ⟨o,ho,r⟩:=st;⟨o,k it (by simp) o ho,r⟩
 item:=by
  intro X hP hw Y hc i pins s σ H E I N st hg;subst hP hw Y;obtain⟨f0,M,f2,U,J,G⟩:=N it (by simp);have hi:i<x.cps.size:=hg;have F:x.cps[i]?=some x.cps[i]:=by simp[hi]
  cases a with
  | true=>
   refine wpAny_pyNext_ascii_item st F λh' B W=>?_
   have I1:Inv X pins σ H {s with heap:=h',toks:=s.toks+1}:=I.turned (t':=s.toks+1) (λb o q e=>(W.2 b q).trans e) f0 M U J G;obtain⟨o,e,c,d⟩:=id B;exact⟨_,rfl,mN (s:={s with heap:=h',toks:=s.toks+1}) e c d (by decide) ⟨.str ⟨#[x.cps[i]]⟩,H,I1,⟨_,rfl⟩,⟨rfl,_,F,rfl⟩,B,λb q=>(N b q).1⟩⟩
  | false=>
   refine wpAny_pyNext_wide_item st F λh' B W=>?_
   have I1:Inv X pins σ H {s with heap:=h',toks:=s.toks+1}:=I.turned (t':=s.toks+1) (λb o q e=>(W.2 b q).trans e) f0 M U J G;obtain⟨o,e,c,d⟩:=id B;exact⟨_,rfl,mN (s:={s with heap:=h',toks:=s.toks+1}) e c d (by decide) ⟨.str ⟨#[x.cps[i]]⟩,H,I1,⟨_,rfl⟩,⟨rfl,_,F,rfl⟩,B,λb q=>(N b q).1⟩⟩
 done:=by
  intro X hP hw Y hc i pins s σ H E I N st hg;subst hP hw Y;obtain⟨f0,M,f2,U,J,G⟩:=N it (by simp);have hi:x.cps.size<=i:=hg;have F:x.cps[i]?=none:=by simp[hi]
  cases a with
  | true=>exact wpAny_pyNext_ascii_end (I.ok.hd hc) st F λh' eb=>⟨rfl,I.turned (t':=s.toks) (λb o q e=>eb b o q e) f0 M U J G⟩
  | false=>exact wpAny_pyNext_wide_end (I.ok.hd hc) st F λh' eb=>⟨rfl,I.turned (t':=s.toks) (λb o q e=>eb b o q e) f0 M U J G⟩
 self:=λ_ _ _ _ _ st h=>by
  cases a with
  | true=>exact wpAny_pyIter_striter_ascii st h
  | false=>exact wpAny_pyIter_striter_wide st h
def Q3(tl:TE):TI:=λσ H R=>tl σ H λx H1=>∃y,x=.str y/\R (R9 y) H1
section
variable {X:Cx}{tg:Expr}
theorem MW{l:Expr}{tl:TE}(G:PE X l tl):PI X tg l (Q3 tl):=by
 intro pins s σ H R I h;refine a7 (G pins s σ H _ I h) λv B ⟨x,H1,F,N,M⟩=>?_
 obtain⟨y,rfl,q⟩:=M;obtain⟨t,rfl⟩:=N;have fin:∀a:Bool,PIE X pins σ tg R (.ref B.heap.objs.size) {B with heap:=B.heap.push {cls:=.type (PM a),data:=.fields #[.str y t,.int 0 0]} }:=λa=>by
  refine⟨B.heap.objs.size,[B.heap.objs.size],_,_,H1,rfl,F.kept (t':=B.toks) λb o e=>TV _ e,BB a y t _,⟨_,T8 _ rfl,rfl,rfl⟩,λb J=>?_,q⟩;have e:b=B.heap.objs.size:=by simpa using J
  subst e;exact F.fpOk (TR _) (F.hok.fresh (TR _))
 cases ha:y.cps.all (·<128)
 ·exact wpAny_pyIter_wide ha (fin false)
 ·exact wpAny_pyIter_ascii ha (fin true)
theorem zN:OpR X (TY .LtE) (λx y H Q=>∃i j,x=.str i/\y=.str j/\Q (.bl (!decide (j.cps.toList<i.cps.toList))) H):=by
 intro pins s σ H x y v u Q I B F h;obtain⟨i,j,rfl,rfl,q⟩:=h;obtain⟨t,rfl⟩:=B;obtain⟨t',rfl⟩:=F;exact PySem.P.le_str ⟨.bl _,H,I,rfl,q⟩
theorem LP{bs:List Bool}{q:List Value}(r:Vals (bs.map V.bl) q):TruthOf P w A (λi v=>q.toArray[i]?=some v) (λi=>(bs[i]?).getD false):=by
 intro i v s Q E B F;have B:q[i]?=some v:=by simpa using B
 have J:=r.length;rw[TL]at J;have hi:i<bs.length:=by rw[J];exact(List.getElem?_eq_some_iff.mp B).1
 have e:(bs.map V.bl)[i]?=some (.bl bs[i]):=by simp[hi]
 obtain⟨u,G,M⟩:=r.get e;rw[B]at G;cases G;cases M;have:(bs[i]?).getD false=bs[i]:=by simp[hi]
 dsimp only at F;rw[this]at F;exact VS F
theorem range_all(bs:List Bool):(T2 bs.length).all (λi=>(bs[i]?).getD false)=bs.all id:=by
 rw[W7,YC,YC];constructor
 ·intro h b q
  obtain⟨i,hi,rfl⟩:=List.getElem_of_mem q;have:=h i (List.mem_range.mpr hi);simpa[hi]using this
 ·intro h i hi
  have hi:=List.mem_range.mp hi;simpa[hi]using h bs[i] (XX hi)
theorem yY(hc:X.calm=true):CallR X (.builtin "all") (λxs H Q=>∃(p:Addr) (bs:List Bool),xs=[.ref p]/\SqL X.K H p (bs.map V.bl)/\Q (.bl (bs.all id)) H):=by
 intro pins s σ H xs us Q I r h;obtain⟨p,bs,rfl,hq,q⟩:=h;obtain⟨u,rfl,U⟩:=vals1 r;cases U;obtain⟨F,M,Y,hz⟩:=I.list hq;have J:s.heap.IsList p F.toArray:=Y.isList;obtain⟨o,ho,N,n,hd⟩:=id J;have G:p≠s.heap.objs.size:=T9 (TQ ho);refine call_all_walk (wpAny_pyIter_list J ?_);refine⟨s.heap.objs.size,_,_,_,_,_,_,rfl,Walks.list (prog:=X.prog) (w:=X.w) (A:=X.A.in1) (I.ok.hd hc) s.heap.objs.size p G F.toArray,⟨⟨_,T8 _ rfl,rfl,rfl⟩,J.at λo e=>TV _ e⟩,LP M,λh' tk hm=>?_⟩;have hk:∀b o,s.heap.get? b=some o->h'.get? b=some o:=λb o e=>hm b o (λW=>absurd (TQ e) ((List.mem_singleton.mp W) ▸ VR _)) (TV _ e)
 have B:=M.length;rw[TL]at B;refine⟨.bl (bs.all id),H,I.kept (t':=tk) hk,?_,q⟩;rw[T3,<- B,range_all];rfl
theorem tR:∀ {ss:List Str} {its:List Value},Vals (ss.map V.str) its->StrsAre its ss
 | [],_,.nil=>.nil
 | x::ss,_,.cons r t=>by
  obtain⟨k,rfl⟩:=r;exact .cons x k (tR t)
def rJoin(K:S9):V->List V->Hp->VK->Prop:=λx vs H Q=>∃(sep:Str) (p:Addr) (ss:List Str),x=.str sep/\vs=[.ref p]/\SqL K H p (ss.map V.str)/\(ss.map (·.length)).sum+ss.length*sep.length<=16777216/\Q (.str (Txt.join sep ss)) H
theorem F2:SD X "str.join" (rJoin X.K):=by
 intro pins s σ H x vs v W Q I F M h;obtain⟨sep,p,ss,rfl,rfl,N,hz,q⟩:=h;obtain⟨t,rfl⟩:=F;obtain⟨u,rfl,G⟩:=M.one;cases G;obtain⟨B,U,J,_⟩:=I.list N;exact join_list (items:=B.toArray) J.isList (by simpa using tR U) hz λt' k=>⟨.str (Txt.join sep ss),H,I.kept (t':=k) λ_ _ e=>e,⟨_,rfl⟩,q⟩
end
end My
namespace P
open PySem PySem.Spec PyProof.Rows L2
section
variable {X:Cx}{O O':List Nat}{L:Lp}
noncomputable def EB:List D->Option (List Bool)
 | []=>some []
 | .bl b::l=>(EB l).map (b::·)
 | _=>none
theorem sR:∀ {ds:List D} {ns:List Bool} {vs:List V},EB ds=some ns->RepL A H ds vs->vs=ns.map V.bl
 | [],_,_,e,.nil=>by cases e;rfl
 | d::ds,ns,_,e,.cons h t=>by
  cases d with
  | bl b=>
   obtain⟨m,q,rfl⟩:=map_some e;cases RepB.bl_inv (.of h);rw[sR q t];rfl
  | _=>cases e
theorem tK:∀bs:List Bool,EB (bs.map .bl)=some bs
 | []=>rfl
 | b::bs=>by rw[TU,EB,tK bs];rfl
def AE:List D->Option D
 | [.lst l]=>(EB l).map λbs=>.bl (bs.all id)
 | _=>none
theorem DE(B:X.calm=true):iK X (.builtin "all") AE:=CallR.mono (My.yY B) <| by
 rintro xs H Q ⟨A,ds,d,M,r,e,q⟩;unfold AE at e;split at e
 ·obtain⟨bs,F,rfl⟩:=map_some e
  obtain⟨v,rfl,G⟩:=r.one;obtain⟨a,N,rfl,h1,J⟩:=G.lst_inv;rw[sR F J]at h1;exact⟨a,bs,rfl,.inl h1,q _ H (Ext.refl _ _) (.bl _)⟩
 ·cases e
@[simp] theorem q_all{bs:List Bool}:AE [.lst (bs.map .bl)]=some (.bl (bs.all id)):=by unfold AE;simp only[tK];rfl
noncomputable def EC:List D->Option (List Str)
 | []=>some []
 | .str b::l=>(EC l).map (b::·)
 | _=>none
theorem sM:∀ {ds:List D} {ns:List Str} {vs:List V},EC ds=some ns->RepL A H ds vs->vs=ns.map V.str
 | [],_,_,e,.nil=>by cases e;rfl
 | d::ds,ns,_,e,.cons h t=>by
  cases d with
  | str b=>
   obtain⟨m,q,rfl⟩:=map_some e;cases RepB.str_inv (.of h);rw[sM q t];rfl
  | _=>cases e
theorem nO:∀bs:List Str,EC (bs.map .str)=some bs
 | []=>rfl
 | b::bs=>by rw[TU,EC,nO bs];rfl
def oS:D->D->Option D
 | .str sep,.lst l=>(EC l).bind λss=>if(ss.map (·.length)).sum+ss.length*sep.length<=16777216 then some (.str (Txt.join sep ss))else none
 | _,_=>none
theorem E8(J:PB X O o fo)(M:PB X O e fe)(Y:∀ {to:TE} {t:TA},PE X o to->PA X [e] t->PE X (.Call (.Attribute o "join" apos) [e] [] cpos) (RZ X.K "str" (My.rJoin X.K) to t))(hs:TC [e] X.env=(false,eval e X.env)::TC [] X.env:=by rfl):PD X O (.Call (.Attribute o "join" apos) [e] [] cpos) (a8 oS fo fe):=
 PE.mono (Y J (sE M fE hs)) <| by
  rintro σ H Q ⟨H0,A0,A,E,ρ,d,st,e,q⟩;obtain⟨x,ex,e⟩:=bind_some e;obtain⟨y,W,e⟩:=bind_some e;refine⟨H0,A0,A,E,ρ,x,st,ex,λv H1 F r1=>?_⟩;unfold oS at e;split at e
  ·rename_i sep l _
   obtain⟨ss,es,e⟩:=bind_some e;by_cases hz:(ss.map (·.length)).sum+ss.length*sep.length<=16777216
   ·rw[if_pos hz]at e
    cases e;cases r1.str_inv;refine⟨rfl,H0,A0,A,E,ρ,[.lst l],st.mono F,by unfold aQ cN;rw[W];rfl,λvs H2 U N=>?_⟩;obtain⟨w,rfl,B⟩:=N.one;obtain⟨p,us,rfl,h1,G⟩:=B.lst_inv;rw[sM es G]at h1;exact⟨sep,p,ss,rfl,rfl,.inl h1,hz,q _ H2 (F.trans U) (.str _)⟩
   ·rw[if_neg hz]at e;cases e
  ·cases e
theorem ML(h:(ss.map (·.length)).sum+ss.length*sep.length<=16777216):oS (.str sep) (.lst (ss.map .str))=some (.str (Txt.join sep ss)):=by
 unfold oS;simp only[nO,ZU];rw[if_pos h]
noncomputable def uC:D->D->Option D
 | .int i,.int j=>some (.bl (decide (i<=j)))
 | .str i,.str j=>some (.bl (!decide (j.cps.toList<i.cps.toList)))
 | _,_=>none
theorem K4:eI X (TY .LtE) uC:=OpR.mono (OpR.or NU My.zN) <| by
 rintro x y H Q ⟨A,dx,J,d,G,B,F,e,q⟩;unfold uC at e;split at e
 ·cases e
  cases B.int_inv;cases F.int_inv;exact .inl ⟨_,_,rfl,rfl,q _ H (Ext.refl _ _) (.bl _)⟩
 ·cases e
  cases B.str_inv;cases F.str_inv;exact .inr ⟨_,_,rfl,rfl,q _ H (Ext.refl _ _) (.bl _)⟩
 ·cases e
@[simp] theorem q_leAI:uC (.int i) (.int j)=some (.bl (decide (i<=j))):=rfl
@[simp] theorem q_leAS:uC (.str i) (.str j)=some (.bl (!decide (j.cps.toList<i.cps.toList))):=rfl
def AF(x y:D):Option D:=match x,y with
 | .str i,.str j=>some (.bl (!(YW j i 0 j.length 1).isEmpty))
 | x,y=>QM x y
def iE(x y:D):Option D:=match x,y with
 | .str i,.str j=>some (.bl (!(!(YW j i 0 j.length 1).isEmpty)))
 | x,y=>CP x y
theorem JL(J:X.A.units+64<cLine):eI X (TY .In) AF:=OpR.mono (OpR.or (NZ J) zE) <| by
 rintro x y H Q ⟨A,dx,M,d,G,B,F,e,q⟩;unfold AF at e;split at e
 ·cases e
  cases B.str_inv;cases F.str_inv;exact .inr ⟨_,_,rfl,rfl,q _ H (Ext.refl _ _) (.bl _)⟩
 ·exact .inl ⟨A,_,_,d,G,B,F,e,q⟩
theorem yS(J:X.A.units+64<cLine):eI X (TY .NotIn) iE:=OpR.mono (OpR.or (A9 J) pJ) <| by
 rintro x y H Q ⟨A,dx,M,d,G,B,F,e,q⟩;unfold iE at e;split at e
 ·cases e
  cases B.str_inv;cases F.str_inv;exact .inr ⟨_,_,rfl,rfl,q _ H (Ext.refl _ _) (.bl _)⟩
 ·exact .inl ⟨A,_,_,d,G,B,F,e,q⟩
noncomputable def signs(x:Str):List D:=x.cps.toList.map λc=>.str ⟨#[c]⟩
theorem LW:v7 (My.R9 x) [] (signs x):=by
 intro A H N U i;have B:(signs x).length=x.cps.size:=by simp[signs]
 refine⟨λhi=>by rw[B]at hi;exact hi,λd q=>?_⟩;have hi:i<x.cps.size:=by rw[<- B];exact(List.getElem?_eq_some_iff.mp q).1
 refine⟨hi,λy H' ⟨e,c,J,G⟩=>?_⟩;subst e G;have:d=.str ⟨#[c]⟩:=by
  unfold signs at q;rw[T6]at q;obtain⟨F,M,rfl⟩:=map_some q;have:x.cps[i]?=some F:=by rw[<- YL];exact M
  rw[J]at this;cases this;rfl
 subst this;exact⟨Ext.refl _ _,.str _⟩
def jY(f:Ev):Lv:=λρ=>(f ρ).bind λd=>match d with
 | .lst l=>some l
 | .tup l=>some l
 | .dT l=>some (l.map λp=>.tup (p.1.map AD))
 | .str x=>some (signs x)
 | _=>none
@[simp] theorem q_lSeqA:jY f ρ=(f ρ).bind λd=>match d with
 | .lst l=>some l
 | .tup l=>some l
 | .dT l=>some (l.map λp=>.tup (p.1.map AD))
 | .str x=>some (signs x)
 | _=>none:=rfl
theorem BJ(h:PD X O e f):PDI X O tg e (jY f):=PI.mono (PI.or (G1 h) (My.MW h)) <| by
 rintro σ H R ⟨H0,A0,A,E,ρ,items,st,e,q⟩;obtain⟨d,B,e⟩:=bind_some e;cases d with
 | str x=>
  cases e;refine .inr ⟨H0,A0,A,E,ρ,_,st,B,λv H1 F G=>?_⟩;cases RepB.str_inv (.of G);exact⟨x,rfl,q _ H1 [] F (λp J=>nomatch J) LW⟩
 | lst l=>exact .inl ⟨H0,A0,A,E,ρ,items,st,by unfold D8;rw[B];exact e,q⟩
 | tup l=>exact .inl ⟨H0,A0,A,E,ρ,items,st,by unfold D8;rw[B];exact e,q⟩
 | dT l=>exact .inl ⟨H0,A0,A,E,ρ,items,st,by unfold D8;rw[B];exact e,q⟩
 | _=>cases e
end
structure GTup(K:S9)(mg:Str->Option Value)(x:Str)(ss:List Str):Prop where
 ex:∃a,mg x=some (.ref a)/\∃(o:Obj) (its:Array Value) (n:Nat),K.lookup a=some o/\o.cls=.type "tuple" /\ o.data=.seq its n/\its.size<=TK/\Vals (ss.map V.str) its.toList
structure GInt(mg:Str->Option Value)(x:Str)(i:Int):Prop where
 ex:∃t,mg x=some (.int i t)
section
variable {X:Cx}{O:List Nat}
theorem iF(g:GInt X.mg x i)(B:Gl X x)(F:(x == ("__debug__" : Str))=false:=by decide):PD X O (.Name x p) (eC (.int i)):=by
 obtain⟨t,e⟩:=g.ex;exact PE.mono (xQ (v:=.int i) B e ⟨t,rfl⟩ F) λσ H Q ⟨H0,A0,A,E,ρ,d,st,e,q⟩=>by cases e;exact q _ H (Ext.refl _ _) (.int _)
noncomputable def IB(neg:Bool)(ss:List Str):D->Option D
 | .str s=>some (.bl (if neg then !ss.contains s else ss.contains s))
 | _=>none
theorem tE(s:Str):∀ss:List Str,inV (.str s) (ss.map V.str)=ss.contains s
 | []=>rfl
 | y::ss=>by
  have ih:=tE s ss;unfold inV at ih ⊢;rw[TU,VO,ih,List.contains_cons];congr 1;show decide (y=s)=(s == y);by_cases h:y=s
  ·subst h;simp
  ·have:¬ s=y:=λz=>h z.symm
   simp[h,this]
theorem oG:∀ss:List Str,(ss.map V.str).all iI=true
 | []=>rfl
 | y::ss=>by rw[TU,XC,oG ss];rfl
theorem FS{neg:Bool}{ss:List Str}{f:Ev}{a:Addr}{K:S9}(F:∃(o:Obj) (its:Array Value) (n:Nat),K.lookup a=some o/\o.cls=.type "tuple" /\ o.data=.seq its n/\its.size<=TK/\Vals (ss.map V.str) its.toList){σ:L2.St}{H:Hp}{Q:VK}(h:tD Rep O (oY (IB neg ss) f) σ H Q):NS (SK K neg) (tD RepB O f) (tC (.ref a)) σ H Q:=by
 obtain⟨H0,A0,A,E,ρ,d,st,e,q⟩:=h;obtain⟨x,ex,e⟩:=bind_some e;refine⟨H0,A0,A,E,ρ,x,st,ex,λv H1 B G=>?_⟩;cases x with
 | str s=>
  cases e;cases G.str_inv;refine⟨a,ss.map V.str,rfl,.inr (.inr F),rfl,oG ss,?_⟩;rw[tE];exact q _ H1 B (.bl _)
 | _=>cases e
theorem FE(g:GTup X.K X.mg x ss)(q:Gl X x)(B:PB X O e f)(G:(x == ("__debug__" : Str))=false:=by decide)(M:WG .In (.Name x p)=false:=by rfl):i6 X O (.Compare e [.In] [.Name x p] pos) (fW (oY (IB false ss) f)):=by
 obtain⟨a,F,J⟩:=g.ex;exact PT.mono (w9 zY B (xQ (v:=.ref a) q F rfl G) M) λσ H Q h=>FS J (eU h)
end
@[simp] theorem q_inG:IB neg ss (.str s)=some (.bl (if neg then !ss.contains s else ss.contains s)):=rfl
@[simp] theorem DN:pF (.str a) (.str b)=some (.bl (decide (a=b))):=by
 unfold pF AM;rw[if_pos (.inl rfl)];by_cases h:a=b
 ·subst h;simp
 ·have h2:¬ D.str a=D.str b:=λz=>h (by injection z)
  simp[h]
@[simp] theorem q_neS:AI (.str a) (.str b)=some (.bl (!decide (a=b))):=by
 unfold AI AM;rw[if_pos (.inl rfl)];by_cases h:a=b
 ·subst h;simp
 ·have h2:¬ D.str a=D.str b:=λz=>h (by injection z)
  simp[h]
theorem xU{f rest:Sv}{ρ:bJ}{R:D->Prop}(W:bJ->Prop)(h:∃ρ',f ρ=some (.nx ρ')/\W ρ')(k:∀ρ',W ρ'->∃d,rest ρ'=some (.rt d)/\R d):∃d,cG f rest ρ=some (.rt d)/\R d:=by
 obtain⟨ρ',e,w⟩:=h;rw[aN e];exact k ρ' w
theorem JV(h0:0<=k)(h:k<(l.length:Int)):rB (.lst l) (.int k) e=some (.lst (l.set k.toNat e)):=by
 show(rG l.length k).map _=_;unfold rG;rw[if_pos h0,if_pos h];rfl
theorem at_of(h0:0<=k)(h:l[k.toNat]?=some d):dW l k=some d:=by
 obtain⟨j,rfl⟩:∃j:Nat,k=(j:Int):=⟨k.toNat,by lia⟩;exact bZ (by simpa using h)
theorem mO(h0:0<=k)(h:k<(l.length:Int)):∃d,d∈l/\l[k.toNat]?=some d/\dW l k=some d:=by
 have q:k.toNat<l.length:=by lia
 have e:l[k.toNat]?=some l[k.toNat]:=UU q;exact⟨l[k.toNat],XX q,e,at_of h0 e⟩
theorem pU(I:Nat->bJ->Prop)(J:bJ->Prop)(h:∀n ρ,I n ρ->(c ρ=some true/\∃m ρ',m<n/\b ρ=some (.nx ρ')/\I m ρ')\/(c ρ=some false/\J ρ)):∀(fuel n:Nat) (ρ:bJ),n<fuel->I n ρ->∃ρ',eX c b fuel ρ=some (.nx ρ')/\J ρ'
 | 0,n,ρ,hn,_=>absurd hn (Nat.not_lt_zero n)
 | fuel+1,n,ρ,hn,hi=>by
  rcases h n ρ hi with⟨F,m,ρ',M,G,q⟩|⟨F,B⟩
  ·obtain⟨ρ2,e,B⟩:=pU I J h fuel m ρ' (by lia) q
   refine⟨ρ2,?_,B⟩;unfold eX;rw[F,aA,if_pos rfl,G,aA];exact e
  ·refine⟨ρ,?_,B⟩
   unfold eX;rw[F,aA,if_neg TZ]
theorem oB{c:Bv}{b rest:Sv}{ρ:bJ}{R:D->Prop}(I:Nat->bJ->Prop)(J:bJ->Prop)(n:Nat)(B:n<100000)(h0:I n ρ)(h:∀n ρ,I n ρ->(c ρ=some true/\∃m ρ',m<n/\b ρ=some (.nx ρ')/\I m ρ')\/(c ρ=some false/\J ρ))(k:∀ρ',J ρ'->∃d,rest ρ'=some (.rt d)/\R d):∃d,cG (mK c b) rest ρ=some (.rt d)/\R d:=by
 obtain⟨ρ',e,F⟩:=pU I J h 100000 n ρ B h0;have q:mK c b ρ=some (.nx ρ'):=e;rw[aN q];exact k ρ' F
theorem PD.pe(h:PD X O e f):PE X e (tD Rep O f):=h
noncomputable def isStar:Expr->Bool
 | .Starred ..=>true
 | _=>false
theorem cE(h:isStar e=false):TC (e::es) env=(false,eval e env)::TC es env:=by
 cases e <;> first|rfl|cases h
theorem iG:∀ {es:List Expr},(es.all λe=>!isStar e)=true->(T7 pos (TC es env)).any (·.1)=false
 | [],_=>by simp[TC,T7]
 | e::es,h=>by
  rw[XC,UE]at h;have q:isStar e=false:=by cases z:isStar e;rfl;rw[z]at h;exact absurd h.1 (by decide)
  have ih:=iG (pos:=pos) (env:=env) (es:=es) h.2;rw[cE q];simp only[T7,TU,VO,Bool.false_or]at ih ⊢;exact ih
end P
namespace My
open PySem PySem.Spec PyProof.Rows L2 PySem.SeqAt
noncomputable def NN(val:Nat->Int):Nat->Nat->Int->Int
 | 0,_,m=>m
 | k+1,j,m=>NN val k (j+1) (if val j>m then val j else m)
section
variable {prog:TJ}{w:World}{A:TX}{R:Result->S8->Prop}{I S:Addr}{fp wr:List Addr}{n:Nat}{P:Nat->Value->Prop}{St:Nat->Heap->Prop}{kw:List (Str×Value)}
theorem iQ(W:Walks prog w A.in1 I fp wr n P St)(val:Nat->Int)(hv:∀j v,P j v->∃t,v=.int (val j) t)(Y:S∉fp):∀(k j:Nat) (s:S8) (m:Int) (t:Tok) (c:Nat),n-j=k->j<=n->St j s.heap->
  s.heap.get? S=some {cls:=.type "list",dict:=none,data:=.seq #[.int m t,.int m t] c,slots:=#[]}->
  (∀t' h' tk,(∀b o,b∉wr->b≠S->s.heap.get? b=some o->h'.get? b=some o)->R (.ok (.ret (.int (NN val k j m) t'))) {s with heap:=h',toks:=tk})->
  VW (model prog w) A (.builtin "max.loop" ⟨[.ref I,.none,.ref S],kw⟩) R s
 | k,j,s,m,t,c,hk,hj,st,gS,fin=>by
  have nw:S∉wr:=λz=>Y (W.sub _ z)
  have nm:(XY "max" ++ XY ".loop" : String) = "max.loop" := by decide
  refine XT PySem.F.entry_max_loop ?_;rw[XU XZ _];show wpAny _ A.in1 (seqItems? (.ref S) >>= λ_=>_) _ _ s;refine S7 (ZR gS rfl ?_);show wpAny _ A.in1 (tryCatch (UW (.ref I)) _ >>= λ_=>_) _ _ s
  match k,hk,fin with
  | 0,hk,fin=>
   have e:j=n:=by lia
   refine S7 (ZV (W.done s _ _ (e ▸ st) λh1 tk same=>?_));have G:=same S _ nw gS;show wpAny _ A.in1 (YK S (λ_=>#[]) >>= λ_=>_) _ _ _;refine S7 (XW G rfl (S7 (XS (TB ?_))));exact fin t _ tk λb o nb B J=>(WC _ _ (UB B)).trans (same b o nb J)
  | k+1,hk,fin=>
   have lt:j<n:=by lia
   refine S7 (ZV (W.item j s _ _ lt st λv h1 tk pv N same=>?_));have G:=same S _ nw gS;obtain⟨u,rfl⟩:=hv j v pv;show wpAny _ A.in1 (tryCatch (holding [.int (val j) u,.int (val j) u] (richCompare .Gt (.int (val j) u) (.int m t) >>= λ_=>_)) _ >>= λ_=>_) _ _ _;refine S7 (ZV (VL (S7 ?_)));refine richCompare_gives (op:=.Gt) (X9 _ _ u) (X9 _ _ t) PySem.F.slot_int_gt PySem.F.entry_int_gt (PySem.F.args_int_gt_2 _ _) (gives_int_gt _ _ u t) (λz=>nomatch z) ?_;refine S7 (VL (VS ?_));refine S7 (XS (TB ?_));by_cases U:val j>m
   ·rw[decide_eq_true U]
    simp only[if_true];refine S7 (XW G rfl (S7 (XS ?_)));rw[nm];refine TB ⟨WU XZ _,iQ W val hv Y k (j+1) _ (val j) u _ (by lia) lt (W.frame _ _ _ N λb bf o J=>?_) (WS _ G rfl) λt' h2 M q=>?_⟩
    ·exact(WC _ _ (λz:S=b=>Y (z ▸ bf))).trans J
    ·have:=fin t' h2 M λb o nb B J=>q b o nb B ((WC _ _ (UB B)).trans (same b o nb J))
     rw[NN,if_pos U]at this;exact this
   ·rw[decide_eq_false U]
    simp only[WN,if_false];refine S7 (XS ?_);rw[nm];refine TB ⟨WU XZ _,iQ W val hv Y k (j+1) _ m t c (by lia) lt N G λt' h2 M q=>?_⟩;have:=fin t' h2 M λb o nb B J=>q b o nb B (same b o nb J)
    rw[NN,if_neg U]at this;exact this
end
noncomputable def v8(d:Int):List Int->Int
 | []=>d
 | x::xs=>xs.foldl (λm y=>if y>m then y else m) x
theorem sV(ns:List Int):∀(k j:Nat) (m:Int),ns.length-j=k->NN (λi=>(ns[i]?).getD 0) k j m=(ns.drop j).foldl (λm y=>if y>m then y else m) m
 | 0,j,m,h=>by
  rw[List.drop_eq_nil_iff.mpr (by lia)];rfl
 | k+1,j,m,h=>by
  have q:j<ns.length:=by lia
  rw[NN,YM q,Y8,sV ns k (j+1) _ (by lia)];simp[q]
section
variable {X:Cx}
end
end My
namespace P
open PySem PySem.Spec PyProof.Rows L2
section
variable {X:Cx}{O:List Nat}
end
end P
namespace My
open PySem PySem.Spec PyProof.Rows L2 PySem.SeqAt
section
variable {prog:TJ}{w:World}{A:TX}{E:Value->S8->Prop}{s:S8}
end
section
variable {X:Cx}{pins:List (Addr×Obj)}{σ:L2.St}{H:Hp}{s:S8}{a:Addr}{y v:V}{u r:Value}{A:TX}{E:Value->S8->Prop}
end
section
variable {X:Cx}{pins:List (Addr×Obj)}{σ:L2.St}{A:TX}{R:Result->S8->Prop}{it d:Addr}{fp:List Addr}{n:Nat}{P:Nat->Value->Prop}{St:Nat->Heap->Prop}{H2:Hp}
end
section
variable {X:Cx}
end
section
variable {X:Cx}
end
end My
namespace P
open PySem PySem.Spec PyProof.Rows L2
section
variable {X:Cx}{A:Av}{H:Hp}
end
end P
namespace My
open PySem PySem.Spec PyProof.Rows L2 PySem.SeqAt
section
variable {X:Cx}
end
end My
namespace P
open PySem PySem.Spec PyProof.Rows L2
section
variable {X:Cx}{O:List Nat}
end
section
variable {X:Cx}{O:List Nat}{e:Expr}{es:List Expr}
theorem AK(B:PD X O e f)(q:pE X O es g)(hs:isStar e=false:=by rfl):pE X O (e::es) (aQ f g):=CG B q (cE hs)
theorem NO(B:PB X O e f)(q:mU X O es g)(hs:isStar e=false:=by rfl):mU X O (e::es) (aQ f g):=sE B q (cE hs)
theorem lc(h:Len g n):Len (aQ f g) (n+1):=BV h
theorem l0:Len cN 0:=EM
variable {x:Str}{id T:String}{g:List D->Option D}{f:Lv}{p pos:Pos}
theorem cB(G:iK X (.builtin id) g)(B:X.mg x=none)(M:UJ x=some (.builtin id))(U:mU X O (e::es) f)(F:Gl X x:=by rfl)(N:x ≠ "__name__" := by decide)(q:(x == ("__debug__" : Str))=false:=by decide)(hs:isStar e=false:=by rfl)(J:(es.all λe=>!isStar e)=true:=by rfl) :
  PD X O (.Call (.Name x p) (e::es) [] pos) (bG g f):=BC G F B M U N q (cE hs) (iG J)
theorem NP(G:iK X (.type T) g)(B:X.mg x=none)(M:UJ x=some (.type T))(U:mU X O (e::es) f)(F:Gl X x:=by rfl)(N:x ≠ "__name__" := by decide)(q:(x == ("__debug__" : Str))=false:=by decide)(hs:isStar e=false:=by rfl)(J:(es.all λe=>!isStar e)=true:=by rfl) :
  PD X O (.Call (.Name x p) (e::es) [] pos) (bG g f):=zK G F B M U N q (cE hs) (iG J)
theorem S0(G:DR X (.type T) g)(B:X.mg x=none)(M:UJ x=some (.type T))(U:mU X O (e::es) f)(F:Gl X x:=by rfl)(N:x ≠ "__name__" := by decide)(q:(x == ("__debug__" : Str))=false:=by decide)(hs:isStar e=false:=by rfl)(J:(es.all λe=>!isStar e)=true:=by rfl) :
  PF X O (.Call (.Name x p) (e::es) [] pos) (bG g f):=yG G F B M U N q (cE hs) (iG J)
theorem cD(O':Fn X.prog X.w X.K X.mg X.base x k ps F)(M:Room k X.A)(N:pE X O (e::es) f)(B:Len f ps.length)(G:Gl X x:=by rfl)(q:(x == ("__debug__" : Str))=false:=by decide)(hs:isStar e=false:=by rfl)(J:(es.all λe=>!isStar e)=true:=by rfl) :
  PD X O (.Call (.Name x p) (e::es) [] pos) (bG F f):=FG O' M G N B q (cE hs) (iG J)
theorem cn{L:Lp}{B O2 O3:List Nat}{st:Stmt}{q:List Stmt}{f g:Sv}(h:eJ X L B st f O2)(k:b7 X L O2 q g O3):b7 X L B (st::q) (cG f g) O3:=BQ h k
end
def SR(P:TJ)(w:World)(K:S9)(mg:Str->Option Value)(base:Heap)(N:List Str)(x:Str)(st:Stmt)(k:Nat)(b:Sv):Prop:=
 ∀(fa:Addr) (cdv:Value) (A:TX) (outer:List Env) (s:S8) (H:Hp) (E:XK),Room k (A.deeper (UX x (aE st) s.heap.objs.size fa cdv))->∃g,b7 (iL uD P w K mg base N x (aE st) fa cdv A outer s H E).nox ⟨[],[]⟩ [] (a6 st) g []/\g=b
end P
namespace My
open PySem PySem.Spec PyProof.Rows L2 PySem.SeqAt
theorem args_max1(a:Value):argsOk "max" ⟨[a],[]⟩:=by unfold argsOk;kernel_rfl
section
variable {prog:TJ}{w:World}{A:TX}{R:Result->S8->Prop}{I S:Addr}{fp wr:List Addr}{n:Nat}{P:Nat->Value->Prop}{St:Nat->Heap->Prop}
theorem vC(W:Walks prog w A.in1 I fp wr n P St)(val:Nat->Int)(hv:∀j v,P j v->∃t,v=.int (val j) t)(J:S∉fp)(st:St 0 s.heap)
  (Y:s.heap.get? S=some {cls:=.type "list",dict:=none,data:=.seq #[] c,slots:=#[]}) (lt:0<n)
  (fin:∀t' h' tk,(∀b o,b∉wr->b≠S->s.heap.get? b=some o->h'.get? b=some o)->R (.ok (.ret (.int (NN val (n-1) 1 (val 0)) t'))) {s with heap:=h',toks:=tk}) :
  VW (model prog w) A (.builtin "max.loop" ⟨[.ref I,.none,.ref S],[]⟩) R s:=by
 have nw:S∉wr:=λz=>J (W.sub _ z)
 have nm:(XY "max" ++ XY ".loop" : String) = "max.loop" := by decide
 refine XT PySem.F.entry_max_loop ?_;rw[XU XZ _];show wpAny _ A.in1 (seqItems? (.ref S) >>= λ_=>_) _ _ s;refine S7 (ZR Y rfl ?_);show wpAny _ A.in1 (tryCatch (UW (.ref I)) _ >>= λ_=>_) _ _ s;refine S7 (ZV (W.item 0 s _ _ lt st λv h1 tk pv N same=>?_));have B:=same S _ nw Y;obtain⟨u,rfl⟩:=hv 0 v pv;show wpAny _ A.in1 (YK S (λ_=>#[.int (val 0) u,.int (val 0) u]) >>= λ_=>_) _ _ _;refine S7 (XW B rfl ?_);rw[nm];refine TB ⟨WU XZ _,iQ W val hv J (n-1) 1 _ (val 0) u _ rfl lt (W.frame _ _ _ N λb bf o M=>?_) (WS _ B rfl) λt' h2 U q=>?_⟩
 ·exact(WC _ _ (λz:S=b=>J (z ▸ bf))).trans M
 ·exact fin t' h2 U λb o nb G M=>q b o nb G ((WC _ _ (UB G)).trans (same b o nb M))
end
section
variable {X:Cx}
theorem uI(hc:X.calm=true)(I:Inv X pins σ H s)(hq:SqT X.K H p (ns.map V.int))(Y:ns≠[])(q:Q (.int (v8 0 ns)) H) :
  wpAny (model X.prog X.w) X.A (call (.builtin "max") [.ref p]) (EP X pins σ Q) X.xe s:=by
 have nm:(XY "max" ++ XY ".loop" : String) = "max.loop" := by decide
 obtain⟨B,r',pl,hz⟩:=I.tuple hq;have M:s.heap.IsTuple p B.toArray:=pl;obtain⟨o,U,ab,n,hd⟩:=id M;have N:p≠s.heap.objs.size:=T9 (TQ U);have W:=Walks.tuple (prog:=X.prog) (w:=X.w) (A:=X.A.in1) (I.ok.hd hc) s.heap.objs.size p N B.toArray;refine kmk_tree PySem.F.kind_max PySem.F.plain_max PySem.F.entry_max (args_max1 _) ?_;show wpAny _ X.A.in1 (zaL "max" ["key", "default"] 0 ⟨[],[]⟩ >>= λ_=>_) _ _ s;refine S7 (ZI (show zaL "max" ["key", "default"] 0 ⟨[],[]⟩=pure [none,none]from rfl) ?_);refine S7 (TB (S7 (X4 M (S7 (wpAny_newList ?_ (U4 _))))));rw[nm];refine TB ⟨WU XZ _,?_⟩;have G:=r'.length;rw[TL]at G;have sz:B.toArray.size=ns.length:=by rw[T3];exact G.symm
 have keep:∀h':Heap,(∀b o,b∉[s.heap.objs.size]->b≠(s.heap.push {cls:=.type "tuple_iterator",data:=.fields #[.ref p,.int 0 0]}).objs.size->((s.heap.push {cls:=.type "tuple_iterator",data:=.fields #[.ref p,.int 0 0]}).push (UQ "list" #[] 0)).get? b=some o->h'.get? b=some o)->∀b o,s.heap.get? b=some o->h'.get? b=some o:=λh' k b o e=>by
  have lt:=TQ e;refine k b o (λz=>T9 lt (List.mem_singleton.mp z)) ?_ (TV _ (TV _ e));rw[size_push'];exact T9 (Nat.lt_succ_of_lt lt)
 have J:0<B.toArray.size:=by
  rw[sz];exact List.length_pos_iff.mpr Y
 refine vC W (λi=>(ns[i]?).getD 0) (λi v hP=>CF r' (by simpa using hP)) (S:=(s.heap.push {cls:=.type "tuple_iterator",data:=.fields #[.ref p,.int 0 0]}).objs.size) ?_ ?_ (T8 _ rfl) J λt' h' tk same=>?_
 ·rw[size_push']
  intro z;rcases List.mem_cons.mp z with z|z
  ·exact US (zav _) z
  ·exact VR _ (XD (zav _) ((List.mem_singleton.mp z) ▸ TQ U))
 ·exact⟨⟨_,TV _ (T8 _ rfl),rfl,rfl⟩,M.at λo e=>TV _ (TV _ e)⟩
 ·refine⟨.int (v8 0 ns),H,I.kept (t':=tk) (keep h' same),⟨t',?_⟩,q⟩
  rw[sz];cases ns with
  | nil=>exact absurd rfl Y
  | cons x xs=>
   rw[sV (x::xs) _ 1 _ (by simp)];rfl
theorem LL(F:∀v s,¬ X.xe v s)(G:PSs X body t):PS X (.Try body (h₀::hs) [] [] pos) t:=λpins s σ H D I hw=>
 wpAny_Try_except (U3 (G pins s σ H D I hw) (λf B q=>by
  cases f with
  | next=>exact TB q
  | _=>exact q) λv B z=>absurd z (F v B))
end
end My
namespace P
open PySem PySem.Spec PyProof.Rows L2
section
variable {X:Cx}{O O':List Nat}{L:Lp}
theorem FT(q:∀v s,¬ X.xe v s)(B:b7 X L O body f O'):eJ X L O (.Try body (h₀::hs) [] [] pos) f O':=My.LL q B
def tV:List D->Option D
 | [.tup l]=>(d7 l).bind λns=>if ns=[]then none else some (.int (My.v8 0 ns))
 | _=>none
theorem ER(G:X.calm=true):iK X (.builtin "max") tV:=by
 intro pins s σ H xs U Q I r h;obtain⟨A,ds,d,N,M,e,q⟩:=h;unfold tV at e;split at e
 ·rename_i l
  obtain⟨ns,J,e⟩:=bind_some e;split at e
  ·cases e
  ·rename_i hn
   cases e;obtain⟨v,rfl,h1⟩:=M.one;obtain⟨a,ys,rfl,h2,F⟩:=h1.tup_inv;rw[dY J F]at h2;obtain⟨u,rfl,B⟩:=vals1 r;cases B;exact My.uI G I (.inl (.inl h2)) hn (q _ H (Ext.refl _ _) (.int _))
 ·cases e
@[simp] theorem q_max1:tV [.tup (.int n::ns.map .int)]=some (.int (My.v8 0 (n::ns))):=by
 have e:d7 (.int n::ns.map .int)=some (n::ns):=jG (n::ns);show(d7 (.int n::ns.map .int)).bind _=_;rw[e];rfl
end
end P
namespace My
open PySem PySem.Spec PyProof.Rows L2
def xP(r U J:R2)(ta tb tc td:TE):TE:=λσ H Q=>ta σ H λx H1=>tb σ H1 λy H2=>r x y H2 λz q=>∃k,z=.bl k /\
 (if k=true then tc σ q λG N=>U y G N λW F=>∃B,W=.bl B/\(if B=true then td σ F λu M=>J G u M Q else Q (.bl false) F)else Q (.bl false) q)
theorem y6(ho:OpR X (TY op) r)(q:OpR X (TY op') r')(F:OpR X (TY op3) J)(ha:PE X a ta)(hb:PE X b tb)(hc:PE X c tc)(hd:PE X d td)
  (hm:W8 [op,op',op3] [b,c,d]=false:=by with_unfolding_all rfl):PT X (.Compare a [op,op',op3] [b,c,d] pos) (DZ (xP r r' J ta tb tc td)):=by
 intro pins s σ H Q I h;refine isTrue_chain (a7 (ha pins s σ H _ I h) λv s1 ⟨x,H1,I1,r1,q1⟩=>test_link (a7 (hb pins s1 σ H1 _ I1 q1) λu s2 ⟨y,H2,I2,N,q2⟩=>
  a7 (ho pins s2 σ H2 x y v u _ I2 r1 N q2) λd s3 ⟨z,H3,M,J,k,e,q3⟩=>?_)) hm
 subst e;cases J;refine VS ?_;cases k with
 | false=>
  obtain⟨k',B,G⟩:=q3;cases B;exact ite_ff ⟨H3,M,G⟩
 | true=>
  refine ite_tt (test_link (a7 (hc pins s3 σ H3 _ M q3) λU s4 ⟨y',H4,I4,W,q4⟩=>a7 (q pins s4 σ H4 y y' u U _ I4 N W q4) λd2 s5 ⟨z2,H5,I5,r5,k2,e2,Y⟩=>?_));subst e2;cases r5;refine VS ?_;cases k2 with
  | false=>
   obtain⟨k',B,G⟩:=Y;cases B;exact ite_ff ⟨H5,I5,G⟩
  | true=>
   refine ite_tt (test_last (a7 (hd pins s5 σ H5 _ I5 Y) λw2 s6 ⟨z',H6,I6,r6,q6⟩=>a7 (F pins s6 σ H6 y' z' U w2 _ I6 W r6 q6) λd' s7 ⟨z3,H7,I7,r7,k3,e3,q7⟩=>?_));subst e3;cases r7;exact VS ⟨H7,I7,q7⟩
end My
namespace P
open PySem PySem.Spec PyProof.Rows L2
section
variable {X:Cx}{O:List Nat}
def kH(g g' q:D->D->Option D)(B J G fd:Ev):Ev:=λρ=>(B ρ).bind λx=>(J ρ).bind λy=>(g x y).bind λz=>(v9 z).bind λb=>if b=true then(G ρ).bind λw=>(g' y w).bind λM=>(v9 M).bind λF=>if F=true then(fd ρ).bind λu=>q w u else some (.bl false)else some (.bl false)
@[simp] theorem q_chain3:kH g g' g3 fa fb fc fd ρ=(fa ρ).bind λx=>(fb ρ).bind λy=>(g x y).bind λz=>(v9 z).bind λb=>if b=true then(fc ρ).bind λw=>(g' y w).bind λB=>(v9 B).bind λq=>if q=true then(fd ρ).bind λu=>g3 w u else some (.bl false)else some (.bl false):=rfl
theorem uJ(h:tD Rep O (kH g g' g3 fa fb fc fd) σ H Q):My.xP (rD g) (rD g') (rD g3) (tD RepB O fa) (tD RepB O fb) (tD RepB O fc) (tD RepB O fd) σ H Q:=by
 obtain⟨H0,A0,A,E,ρ,d,st,e,q⟩:=h;obtain⟨x,ex,e⟩:=bind_some e;obtain⟨y,ey,e⟩:=bind_some e;obtain⟨z,Y,e⟩:=bind_some e;obtain⟨b,eb,e⟩:=bind_some e;rw[dQ eb]at Y;refine⟨H0,A0,A,E,ρ,x,st,ex,λv H1 J r1=>⟨H0,A0,A,E,ρ,y,st.mono J,ey,λw H2 M r2=>⟨A,x,y,_,(st.mono (J.trans M)).live,r1.ext M,r2,Y,λz H3 x3 r3=>⟨b,RepB.bl_inv (.of r3),?_⟩⟩⟩⟩;have F:=(J.trans M).trans x3;cases b with
 | false=>rw[if_neg TZ]at e ⊢;cases e;exact q _ H3 F (.bl _)
 | true=>
  rw[if_pos rfl]at e ⊢;obtain⟨u,eu,e⟩:=bind_some e;obtain⟨z2,G,e⟩:=bind_some e;obtain⟨b2,W,e⟩:=bind_some e;rw[dQ W]at G;refine⟨H0,A0,A,E,ρ,u,st.mono F,eu,λz' H4 N r4=>⟨A,y,u,_,(st.mono (F.trans N)).live,r2.ext (x3.trans N),r4,G,λz2 H5 x5 r5=>⟨b2,RepB.bl_inv (.of r5),?_⟩⟩⟩;have B:=(F.trans N).trans x5;cases b2 with
  | false=>rw[if_neg TZ]at e ⊢;cases e;exact q _ H5 B (.bl _)
  | true=>
   rw[if_pos rfl]at e ⊢;obtain⟨t,et,e⟩:=bind_some e;exact⟨H0,A0,A,E,ρ,t,st.mono B,et,λz6 H6 U r6=>⟨A,u,t,d,(st.mono (B.trans U)).live,r4.ext (x5.trans U),r6,e,λz7 H7 x7 r7=>q z7 H7 ((B.trans U).trans x7) r7⟩⟩
theorem uF(M:eI X (TY op) g)(q:eI X (TY op') g')(B:eI X (TY op3) g3)(U:PB X O a fa)(F:PB X O b fb)(G:PB X O c fc)(J:PB X O d fd)
  (N:W8 [op,op',op3] [b,c,d]=false:=by with_unfolding_all rfl):i6 X O (.Compare a [op,op',op3] [b,c,d] pos) (fW (kH g g' g3 fa fb fc fd)):=PT.mono (My.y6 M q B U F G J N) λσ H Q h=>uJ (eU h)
end
end P
namespace My
open PySem PySem.Spec PyProof.Rows L2
def D2(i j:Int):Prop:=(-(10^250*10^250)<i/\i<10^250*10^250)/\-(10^250*10^250)<j/\j<10^250*10^250
theorem sZ(h1:-(10^250*10^250)<i)(h2:i<10^250*10^250):Builtin.Int.intBits i<=2^20:=by
 have h:i.natAbs<10^250*10^250:=by lia
 have e:(10:Nat)^250*10^250<=2^(4*250+4*250):=by
  rw[Nat.pow_add,Nat.pow_mul];have:(10:Nat)^250<=(2^4)^250:=Nat.pow_le_pow_left (by decide) 250;exact Nat.mul_le_mul this this
 exact UY (PyProof.Rows.intBits_le (U2 h e)) (by decide)
theorem EZ:OpR X (UP .Mult) (rI D2 λi j=>.int (i*j)):=QE λ_ _ _ _ _ _ _ B q=>mul_int q (IntMulOk.of_bits (sZ B.1.1 B.1.2) (sZ B.2.1 B.2.2))
end My
namespace P
open PySem PySem.Spec PyProof.Rows L2
instance:∀i j,Decidable (My.D2 i j):=λi j=>by unfold My.D2;infer_instance
def C9:D->D->Option D:=AL λi j=>if My.D2 i j then some (.int (i*j))else none
open Classical in
def cP:D->D->Option D:=AL λi j=>if My.D2 i j then some (.int (i*j))else none
theorem w6:cP=C9:=by
 unfold cP C9;congr 1
theorem E5:eI X (UP .Mult) cP:=by rw[w6];exact qV My.EZ
theorem d9(h:-(10^250*10^250)<i)(h1:i<10^250*10^250)(h2:-(10^250*10^250)<j)(q:j<10^250*10^250):cP (.int i) (.int j)=some (.int (i*j)):=by
 rw[w6];exact if_pos ⟨⟨h,h1⟩,h2,q⟩
end P
namespace My
open PySem PySem.Spec PyProof.Rows L2 PySem.SeqAt
section
variable {X:Cx}
end
end My
namespace P
open PySem PySem.Spec PyProof.Rows L2
section
variable {X:Cx}{O Oi:List Nat}
end
end P
namespace My
open PySem PySem.Spec PySem.Calls PySem.W PySem.Builtin PySem.Builtin.ObjectAttr PySem.Builtin.Getset_descriptor
section
variable {prog:TJ}{w:World}{A:TX}{E:Value->S8->Prop}{h:Heap}{g:Array GenState}{d:Drawn}{t:Nat}{os:OsState}{a C:Addr}{o:Obj}{K:Frag}
end
end My
namespace My
open PySem PySem.Spec PyProof.Rows L2 PySem.SeqAt
section
variable {l:List Env}{fs fr:List Addr}{h0 h1 h:Heap}{e C:Addr}{H H1:Hp}{P:TJ}{w:World}
end
section
variable {X:Cx}{pins:List (Addr×Obj)}{σ:L2.St}{H:Hp}{s:S8}{ea:Addr}{oe:Obj}
end
end My
namespace My
open PySem PySem.Spec PyProof.Rows L2 PySem.SeqAt PySem.W
section
variable {X:Cx}{pins:List (Addr×Obj)}{σ:L2.St}{H:Hp}{s:S8}
theorem any_cons{K:S9}{t c:Value}{cs:List Value}(h:X6 K t c=some false)(r:ZW K t cs=some false):ZW K t (c::cs)=some false:=by
 unfold ZW;rw[h];exact r
end
end My
namespace P
open PySem PySem.Spec PyProof.Rows L2
section
variable {X:Cx}{L:Lp}{O O2 O':List Nat}
end
section
variable {X:Cx}{O:List Nat}
end
end P
namespace My
open PySem PySem.Spec PyProof.Rows L2 PySem.SeqAt
section
variable {X:Cx}
def SQ(cs:List V):TA:=λ_ H Q=>Q cs H
def PO(X:Cx)(B:Addr)(es:List Expr):Prop:=∃cs:List V,PA X es (SQ cs)/\(cs.length=es.length)/\∀q,Vals cs q->ZW X.K (.ref B) q=some false
end
end My
namespace P
open PySem PySem.Spec PyProof.Rows L2
section
variable {X:Cx}{L:Lp}{O O':List Nat}
end
end P
namespace My
open PySem PySem.Spec PyProof.Rows L2 PySem.SeqAt
end My
namespace P
open PySem PySem.Spec PyProof.Rows L2
section
variable {X:Cx}{L:Lp}{O O':List Nat}
end
section
variable {X:Cx}{L:Lp}{O O' O2:List Nat}
end
section
variable {X:Cx}{L:Lp}{O O' O2:List Nat}{Z:List Nat}
end
end P
namespace My
open PySem PySem.Spec PyProof.Rows L2
section
variable {X:Cx}
end
end My
namespace P
open PySem PySem.Spec PyProof.Rows L2
section
variable {X:Cx}
end
end P
namespace My
open PySem PySem.Spec PyProof.Rows L2
end My
namespace P
open PySem PySem.Spec PyProof.Rows L2
section
variable {X:Cx}{O:List Nat}
end
end P
namespace My
open PySem PySem.Spec PyProof.Rows L2
section
variable {X:Cx}
end
end My
namespace P
open PySem PySem.Spec PyProof.Rows L2
section
variable {X:Cx}{O:List Nat}
end
variable {X:Cx}{O:List Nat}{e:Expr}
mutual
def frz:D->Bool
 | .tup l=>M0 l
 | .lst _=>false
 | .dK _=>false
 | .dT _=>false
 | _=>true
def M0:List D->Bool
 | []=>true
 | d::l=>frz d && M0 l
end
mutual
theorem Rep.frz:Rep A H d v->P.frz d=true->Rep A' H d v
 | .non,_=>.non
 | .bl b,_=>.bl b
 | .int i,_=>.int i
 | .str s,_=>.str s
 | .tup h r,f=>.tup h (RepL.frz r f)
 | .lst n h r,f=>nomatch f
 | .dK n h e r,f=>nomatch f
 | .dT n h e r,f=>nomatch f
theorem RepL.frz:RepL A H ds vs->M0 ds=true->RepL A' H ds vs
 | .nil,_=>.nil
 | .cons h t,f=>.cons (Rep.frz h (Bool.and_eq_true_iff.mp f).1) (RepL.frz t (Bool.and_eq_true_iff.mp f).2)
end
section
variable {X:Cx}{O:List Nat}
end
end P
namespace My
open PySem PySem.Spec PyProof.Rows L2
end My
namespace P
open PySem PySem.Spec PyProof.Rows L2
section
variable {X:Cx}{O:List Nat}
end
end P
namespace My
open PySem PySem.Spec PyProof.Rows L2
section
variable {prog:TJ}{w:World}{A:TX}{E:Value->S8->Prop}{s:S8}
end
end My
namespace P
open PySem PySem.Spec PyProof.Rows L2
def Fe(K:S9)(x:Str)(st:Stmt)(f:Addr):Prop:=∃fd,Fun K x x st f fd
theorem Fe.mk{K:S9}{x:Str}{st:Stmt}{f:Addr}{G:Value}{od J:Option Addr}{F:Array (Option Value)}{kV B M q ct:Value}(l:K.lookup f=some ⟨G,od,.func (VX x x (cI st) (a6 st) (aE st) .none kV B M J q ct),F⟩)(c:XB K q x=true)(k:WR K (.ref f)=true):Fe K x st f:=⟨_,DL l c k⟩
theorem Fe.d{K:S9}{mg:Str->Option Value}{x:Str}{st:Stmt}{f:Addr}{ps:List Str}(h:Fe K x st f)(a:mg x=some (.ref f))(q:∀(kV doc pm:Value) (an:Option Addr) (cdv ct:Value) (us:List Value),us.length=ps.length->bindArgs (VX x x (cI st) (a6 st) (aE st) .none kV doc pm an cdv ct) ⟨us,[]⟩=pure (ps.zip us)):My.DefAt K mg x st ps:=let ⟨fd,F⟩:=h;⟨⟨f,fd,F,F.binds q,a⟩⟩
section
variable {X:Cx}{L:Lp}{O O':List Nat}
theorem c0{B O3:List Nat}{st:Stmt}{q:List Stmt}{f g:Sv}(h:eJ X L B st f [])(k:b7 X L [] q g O3):b7 X L B (st::q) (cG f g) O3:=cn h k
theorem ss(i:Nat)(B:X.N.Nodup)(G:PD X O e f)(hi:X.N[i]?=some x:=by rfl)(q:Loc X.env.scope x:=by exact U1 rfl)(h:Sub O' (O.filter (· != i))=true:=by rfl)(hs:UD e (some (.Name x pos')) pos.line X.env=pure false:=by rfl)(F:X.fn x=true\/X.env.scope.names.lookup x=some .local:=by first|exact .inl rfl|exact .inr rfl):eJ X L O (.Assign [.Name x pos'] e pos) (dM i f) O':=xC B hi q G h hs F
theorem gc(h1:rF X O e g)(h2:v5 X O es k)(a:(UN (e::es) X.env).map (·.2)=U6 e X.env::(UN es X.env).map (·.2):=by rfl):v5 X O (e::es) (aR g k):=nY (λx y=>l9 x y a) h1 h2
theorem gu(n:Nat)(h:v5 X O es k)(q:X.calm=true:=by rfl)(a:(UN es X.env).length=n:=by rfl)(b:List.findIdx? (λx=>x.fst) (UN es X.env)=none:=by rfl):rF X O (.Tuple es j pos) (jX n k):=GW (DG q h a b)
theorem tc(q:eI X (TY op) g)(F:PB X O a fa)(B:PB X O b fb)(h1:op≠CmpOp.In:=by decide)(h2:op≠CmpOp.NotIn:=by decide):i6 X O (.Compare a [op] [b] pos) (fW (a8 g fa fb)):=pW q F B (CN _ h1 h2)
theorem ib{j}:PB X O (.Constant (.int n) j p) (eC (.int n)):=PD.b CW
end
end P
namespace My
open PySem PySem.Spec PyProof.Rows L2
section
variable {X:Cx}
end
end My
namespace P
open PySem PySem.Spec PyProof.Rows L2
section
variable {X:Cx}
end
section
variable {X:Cx}{O:List Nat}
end
end P
namespace HT
open PySem PySem.Spec PyProof.Rows
section
open PySem.SeqAt
open PySem.AutoSeq1 (wpAny_loadPart')
open PySem.MeetsSeq PySem.MeetsSeq2 PySem.MeetsSeq3
end
section
variable {prog:TJ}{w:World}{A:TX}{E:Value->S8->Prop}{s:S8}
end
end HT
namespace P
open PySem PySem.Spec PyProof.Rows L2
section
variable {X:Cx}
end
section
variable {X:Cx}
end
noncomputable def mon:List Int->List Int->Int
 | e::es,v::vs=>v^e.toNat*mon es vs
 | _,_=>1
def ev(vs:List Int)(F:List My.Tm):Int:=(F.map λt=>t.2*mon t.1 vs).sum
noncomputable def pw(S:Nat->Int)(a:Int):Nat->Int
 | 0=>0
 | n+1=>pw S a n+a^n*S n
noncomputable def la(k:List Int):Int:=(k.getLast?).getD 0
section
variable {X:Cx}{L:Lp}{O O':List Nat}
theorem cO(O2:List Nat){B O3:List Nat}{st:Stmt}{q:List Stmt}{f g:Sv}(h:eJ X L B st f O2)(k:b7 X L O2 q g O3):b7 X L B (st::q) (cG f g) O3:=cn h k
theorem wt{x1}(h:pE X O es g)(q:Len g es.length)(B:Nat.ble es.length 100=true:=by rfl):PD X O (.Tuple es x1 pos) (nE g):=KS h (λρ ds k=>by rw[q ρ ds k];exact zax B)
theorem wl(h:pE X O es g)(q:Len g es.length)(B:Nat.ble es.length 100=true:=by rfl):PF X O (.List es pos) (uA g):=KR h (λρ ds k=>by rw[q ρ ds k];exact zax B)
theorem wE(O':Fn X.prog X.w X.K X.mg X.base x k ps F)(N:Room j X.A)(U:pE X O (e::es) f)(B:Len f ps.length)(M:k<=j)(G:Gl X x:=by rfl)(q:(x == ("__debug__" : Str))=false:=by decide)(hs:isStar e=false:=by rfl)(J:(es.all λe=>!isStar e)=true:=by rfl):PD X O (.Call (.Name x p) (e::es) [] pos) (bG F f):=cD O' (N.mono M) U B G q hs J
theorem RC{e:Expr}{es:List Expr}{f:Lv}{p pos:Pos}(B:X.mg "len" = none)(F:mU X O (e::es) f)(q:Gl X "len")(hs:isStar e=false)(G:((es:List Expr).all λe=>!isStar e)=true):PD X O (.Call (.Name "len" p) (e::es) [] pos) (bG dS f):=cB K8 B My.boot_len F q (by decide) (by decide) hs G
theorem RN{e:Expr}{es:List Expr}{f:Lv}{p pos:Pos}(B:X.mg "tuple" = none)(F:mU X O (e::es) f)(q:Gl X "tuple")(hs:isStar e=false)(G:((es:List Expr).all λe=>!isStar e)=true):PD X O (.Call (.Name "tuple" p) (e::es) [] pos) (bG gG f):=NP dR B My.boot_tuple F q (by decide) (by decide) hs G
theorem RS{e:Expr}{es:List Expr}{f:Lv}{p pos:Pos}(B:X.mg "int" = none)(F:mU X O (e::es) f)(q:Gl X "int")(hs:isStar e=false)(G:((es:List Expr).all λe=>!isStar e)=true):PD X O (.Call (.Name "int" p) (e::es) [] pos) (bG AH f):=NP JS B My.boot_int F q (by decide) (by decide) hs G
theorem RD{e:Expr}{es:List Expr}{f:Lv}{p pos:Pos}(B:X.mg "list" = none)(F:mU X O (e::es) f)(q:Gl X "list")(hs:isStar e=false)(G:((es:List Expr).all λe=>!isStar e)=true):PF X O (.Call (.Name "list" p) (e::es) [] pos) (bG oR f):=S0 F4 B My.boot_list F q (by decide) (by decide) hs G
theorem RW{e:Expr}{es:List Expr}{f:Lv}{p pos:Pos}(B:X.calm=true)(G:X.mg "all" = none)(J:mU X O (e::es) f)(q:Gl X "all")(hs:isStar e=false)(F:((es:List Expr).all λe=>!isStar e)=true):PD X O (.Call (.Name "all" p) (e::es) [] pos) (bG AE f):=cB (DE B) G My.boot_all J q (by decide) (by decide) hs F
theorem ON{e:Expr}{es:List Expr}{f:Lv}{p pos:Pos}(B:X.calm=true)(G:X.mg "max" = none)(J:mU X O [e] f)(q:Gl X "max")(hs:isStar e=false)(F:(([]:List Expr).all λe=>!isStar e)=true):PD X O (.Call (.Name "max" p) [e] [] pos) (bG tV f):=cB (ER B) G My.boot_max J q (by decide) (by decide) hs F
theorem OQ{e:Expr}{f:Ev}{p p2 pos:Pos}(J:PB X O e f)(M:X.mg "isinstance" = none)(q:X.mg "int" = none)(G:Gl X "isinstance")(B:Gl X "int")(h1:TC [e,.Name "int" p2] X.env=(false,eval e X.env)::TC [.Name "int" p2] X.env)(h2:(T7 pos (TC [.Name "int" p2] X.env)).any (·.1)=false)(F:TC [.Name "int" p2] X.env=(false,eval (.Name "int" p2) X.env)::TC [] X.env):PD X O (.Call (.Name "isinstance" p) [e,.Name "int" p2] [] pos) (EA "int" f):=vU GC G M B q My.boot_int J (by decide) (by decide) h1 h2 F
theorem JZ{e:Expr}{f:Ev}{p p2 pos:Pos}(J:PB X O e f)(M:X.mg "isinstance" = none)(q:X.mg "bool" = none)(G:Gl X "isinstance")(B:Gl X "bool")(h1:TC [e,.Name "bool" p2] X.env=(false,eval e X.env)::TC [.Name "bool" p2] X.env)(h2:(T7 pos (TC [.Name "bool" p2] X.env)).any (·.1)=false)(F:TC [.Name "bool" p2] X.env=(false,eval (.Name "bool" p2) X.env)::TC [] X.env):PD X O (.Call (.Name "isinstance" p) [e,.Name "bool" p2] [] pos) (EA "bool" f):=vU AO G M B q My.boot_bool J (by decide) (by decide) h1 h2 F
theorem F7{e:Expr}{f:Ev}{p p2 pos:Pos}(J:PB X O e f)(M:X.mg "isinstance" = none)(q:X.mg "tuple" = none)(G:Gl X "isinstance")(B:Gl X "tuple")(h1:TC [e,.Name "tuple" p2] X.env=(false,eval e X.env)::TC [.Name "tuple" p2] X.env)(h2:(T7 pos (TC [.Name "tuple" p2] X.env)).any (·.1)=false)(F:TC [.Name "tuple" p2] X.env=(false,eval (.Name "tuple" p2) X.env)::TC [] X.env):PD X O (.Call (.Name "isinstance" p) [e,.Name "tuple" p2] [] pos) (EA "tuple" f):=vU kit_tuple G M B q My.boot_tuple J (by decide) (by decide) h1 h2 F
theorem SU{e:Expr}{lo hi:Option Expr}{p2 pos:Pos}{f:Ev}{a b:Ov}(F:PB X O e f)(B:JC X O lo a)(q:JC X O hi b):PD X O (.Subscript e (.Slice lo hi none p2) pos) (IC fJ f a b):=BA QS F B q
theorem S2{a b:Expr}{pos:Pos}{q B:Ev}(G:X.A.units+1<cLine)(J:PB X O a q)(F:PB X O b B)(hs:qG b:=by exact λ_ _=>rfl):PD X O (.Subscript a b pos) (a8 aI q B):=GP G J F hs
theorem Q5{a b:Expr}{pos:Pos}{q B:Ev}{j:Nat}(G:Room j X.A)(M:PB X O a q)(F:PB X O b B)(J:WG .In b=false):i6 X O (.Compare a [.In] [b] pos) (fW (a8 AF q B)):=pW (JL G.units) M F J
theorem QZ{a b:Expr}{pos:Pos}{q B:Ev}{j:Nat}(G:Room j X.A)(M:PB X O a q)(F:PB X O b B)(J:WG .NotIn b=false):i6 X O (.Compare a [.NotIn] [b] pos) (fW (a8 iE q B)):=pW (yS G.units) M F J
theorem SZ{a b:Expr}{op:CmpOp}{pos:Pos}{g:D->D->Option D}{q B:Ev}(G:eI X (TY op) g)(J:PB X O a q)(F:PB X O b B)(h1:op≠CmpOp.In)(h2:op≠CmpOp.NotIn):PD X O (.Compare a [op] [b] pos) (a8 g q B):=JO G J F (CN _ h1 h2)
theorem S3{o e:Expr}{apos cpos:Pos}{B G:Ev}(Y:PB X O o B)(N:PB X O e G)(U:WZ o "join" X.env (eval o X.env)=eval o X.env)(J:((((T7 cpos (TC [e] X.env)).all λx=>!x.fst) && (backToKw cpos (YA [] X.env)).all λx=>x.fst.isSome) && decide (([e].length+([]:List V0).length+if([]:List V0).isEmpty=true then 0 else 1)<30))=true)(W:(apos.endLine == cpos.line)=true)(q:TC [e] X.env=(false,eval e X.env)::TC [] X.env)(M:((T7 cpos (TC [] X.env)).any λx=>x.fst)=false):PD X O (.Call (.Attribute o "join" apos) [e] [] cpos) (a8 oS B G):=E8 Y N (λa b=>IU PySem.F.plainAttrs_str PySem.F.slot_str_join PySem.F.type_str_join My.F2 a b U J W q M) q
theorem S4{o:Expr}{f:Ev}{p pos apos cpos:Pos}{j:Nat}(N:Room j X.A)(U:X.mg "sorted" = none)(G:PB X O o f)(M:X.calm=true)(B:Gl X "sorted")(h1:WZ o "items" X.env (eval o X.env)=eval o X.env)(h2:(apos.endLine == cpos.line)=true)(J:TC [.Call (.Attribute o "items" apos) [] [] cpos] X.env=(false,eval (.Call (.Attribute o "items" apos) [] [] cpos) X.env)::TC [] X.env)(q:(T7 pos (TC [] X.env)).any (·.1)=false):PF X O (.Call (.Name "sorted" p) [.Call (.Attribute o "items" apos) [] [] cpos] [] pos) (oY lX f):=uU M N.units B U G (λh=>LA PySem.F.slot_dict_items PySem.F.type_dict_items My.B9 h h1 h2) J q
theorem SL{j:Nat}(q:Room j X.A):eI X (TY .Eq) pF:=OO q.units
theorem SW{j:Nat}(q:Room j X.A):eI X (TY .NotEq) AI:=O0 q.units
theorem SO{j:Nat}(q:Room j X.A):eI X (TY .Lt) R3:=J9 q.units0
def At(l:List Str)(x:Str)(i:Nat):Prop:=l[i]?=some x
theorem at_(i:Nat){l:List Str}{x:Str}(h:l[i]?=some x:=by eq_refl):At l x i:=h
theorem vB{i:Nat}{x:Str}{p:Pos}(h:At X.N x i)(F:NF X.env.scope x)(B:(x == ("__debug__" : Str))=false)(q:(x == ("__classdict__" : Str))=false):PB X O (.Name x p) (aD i):=JN i (pv i h F B q)
theorem vD{i:Nat}{x:Str}{p:Pos}(h:At X.N x i)(n:O.contains i=false)(F:NF X.env.scope x)(B:(x == ("__debug__" : Str))=false)(q:(x == ("__classdict__" : Str))=false):PD X O (.Name x p) (aD i):=KM i (pv i h F B q) (by simpa using n)
theorem gV{i:Nat}{x:Str}{pos:Pos}(h:At X.N x i)(n:O.contains i=false)(B:X.N.Nodup)(q:Loc X.env.scope x)(F:X.fn x=true\/X.env.scope.names.lookup x=some .local):rF X O (.Name x pos) (aJ i):=lQ (j5 B h q F) n
theorem aO(i:Nat)(G:PD X O e f:=by trivial)(B:X.N.Nodup:=by assumption)(hi:X.N[i]?=some x:=by rfl)(q:Loc X.env.scope x:=by first|exact U1 rfl|exact VD rfl)(h:Sub O' (O.filter (· != i))=true:=by rfl)(hs:UD e (some (.Name x pos')) pos.line X.env=pure false:=by rfl)(F:X.fn x=true\/X.env.scope.names.lookup x=some .local:=by first|exact .inl rfl|exact .inr rfl):eJ X L O (.Assign [.Name x pos'] e pos) (dM i f) O':=xC B hi q G h hs F
theorem dJ(i:Nat)(F:PF X O e f:=by trivial)(B:X.N.Nodup:=by assumption)(hi:X.N[i]?=some x:=by rfl)(q:Loc X.env.scope x:=by first|exact U1 rfl|exact VD rfl)(h:Sub O' (i::O)=true:=by rfl)(G:O.contains i=false:=by rfl)(hs:UD e (some (.Name x pos')) pos.line X.env=pure false:=by rfl)(J:X.fn x=true\/X.env.scope.names.lookup x=some .local:=by first|exact .inl rfl|exact .inr rfl):eJ X L O (.Assign [.Name x pos'] e pos) (dM i f) O':=CC B hi q F h G hs J
theorem pB(i:Nat)(B:PD X O e f:=by trivial)(G:PE X o (i4 i):=by exact pv _)(M:mem O i=true:=by rfl)(U:WZ o "append" X.env (eval o X.env)=eval o X.env:=by rfl)(J:((((T7 cpos (TC [e] X.env)).all λx=>!x.fst) && (backToKw cpos (YA [] X.env)).all λx=>x.fst.isSome) && decide (([e].length+([]:List V0).length+if([]:List V0).isEmpty=true then 0 else 1)<30))=true:=by rfl)(W:(apos.endLine == cpos.line)=true:=by rfl)(q:TC [e] X.env=(false,eval e X.env)::TC [] X.env:=by rfl)(N:((T7 cpos (TC [] X.env)).any λx=>x.fst)=false:=by rfl)(hs:UD (.Call (.Attribute o "append" apos) [e] [] cpos) none pos.line X.env=pure false:=by rfl)(h:Sub O' O=true:=by rfl):eJ X L O (.Expr (.Call (.Attribute o "append" apos) [e] [] cpos) pos) (D6 i f) O':=u3 G B M (IU PySem.F.plainAttrs_list PySem.F.slot_list_append PySem.F.type_list_append nF G (cH (PD.pe B) mB (hs:=q)) U J W q N) hs h
theorem bC(q:PD X O e f:=by trivial):b7 X L O [.Return (some e) pos] (NQ f) O':=aK (EY q)
theorem Q0(F:b7 X L O a f O')(B:b7 X L O b k O')(q:i6 X O c g:=by trivial):eJ X L O (.If c a b pos) (ED g f k) O':=vT q F B
theorem c8(B:b7 X L O a f O')(q:i6 X O c g:=by trivial)(h:Sub O' O=true:=by rfl):eJ X L O (.If c a [] pos) (ED g f JA) O':=vT q B (wL h)
theorem RA{st:Stmt}:b7 X L O [st] HQ O':=aK zO
theorem b4{c:Expr}{st:Stmt}{pos:Pos}{g:Bv}(q:i6 X O c g:=by trivial)(h:Sub O' O=true:=by rfl):eJ X L O (.If c [st] [] pos) (ED g HQ JA) O':=vT q RA (wL h)
theorem b8(q B:List Nat)(F:b7 X ⟨B,q⟩ q body b q)(hi:PDI X O tg iter f:=by trivial)(J:rF X q tg g:=by trivial)(N:W6 (model X.prog X.w) X.A X.env X.xe:=by exact PassesOwn.never)(M:X.calm=true:=by rfl)(h1:Sub q O=true:=by rfl)(h2:Sub O' q=true:=by rfl)(G:Sub O' B=true:=by rfl)(hs:∀x,VC iter X.env x=pure x:=by intro _;rfl):eJ X L O (.For tg iter body [] pos) (nC f g b) O':=HJ N M hi J F h1 h2 G hs
theorem DW(q B:List Nat)(F:b7 X ⟨B,q⟩ q body b q)(J:i6 X q c g:=by trivial)(M:W6 (model X.prog X.w) X.A X.env X.xe:=by exact PassesOwn.never)(h1:Sub q O=true:=by rfl)(h2:Sub O' q=true:=by rfl)(G:Sub O' B=true:=by rfl):eJ X L O (.While c body [] pos) (mK g b) O':=zP M J F h1 h2 G
theorem tX(i:Nat)(J:PD X O value fe:=by trivial)(M:PB X O k fk:=by trivial)(G:X.A.units+1<cLine:=by assumption)(N:PE X o (i4 i):=by exact pv _)(B:mem O i=true:=by rfl)(h:Sub O' O=true:=by rfl)(hs:UD value (some (.Subscript o k pos')) pos.line X.env=pure false:=by rfl)(q:V3 [.Subscript o k pos'] value pos.line X.env=pure false:=by rfl)(hw:V4 [.Subscript o k pos'] value X.env=pure none:=by rfl)
  (F:∀ {to ti:TE} {t:vV},PE X o to->PE X k ti->AG X t->PG X (.Subscript o k pos') (D4 to ti t):=by intro _ _ _ a b c;exact qY a b c):eJ X L O (.Assign [.Subscript o k pos'] value pos) (AA i fk fe) O':=HA G N M J B h hs q hw F
theorem mG(q:PB X O e f:=by trivial)(hs:UD e none pos.line X.env=pure false:=by rfl)(h:Sub O' O=true:=by rfl):eJ X L O (.Expr e pos) (DP f) O':=BF q hs h
theorem gK(σ:S8)(N:List Str)(ms:List (Option Nat))(hi:PDI X O tg iter it:=by trivial)(J:∀C s H fp,N.Nodup->rF (My.aL X N scope (cM X.env.cells scope.names []) C s H fp) [] tg g:=by intros;trivial)(F:∀C s H fp,My.uE (My.aL X N scope (cM X.env.cells scope.names []) C s H fp) ifs (tDT [] c):=by intros;trivial)(M:∀C s H fp,PD (My.aL X N scope (cM X.env.cells scope.names []) C s H fp) [] elt f:=by intros;trivial)
  (B:X.env.cells=WI (σ.heap.objs.size+1) X.env.scope.names []:=by rfl) (q:bI X scope N ms:=by repeat' first|exact U8|exact rfl|exact U1 rfl|constructor) (G:N.Nodup:=by decide)
  (U:X.calm=true:=by rfl) (W:scope.kind=.function:=by rfl) (h:oV scope.names X.env.scope.names=true:=by rfl) (Y:(ms.all λo=>match o with|some i=>!O.contains i|none=>true)=true:=by rfl) (hs:∀x,VC iter X.env x=pure x:=by intro _;rfl):PF X O (.ListComp elt [⟨tg,iter,ifs,0⟩] scope pos) (eD ms it g c f):=EX U (mL W h B) q Y hi (λC s H fp=>J C s H fp G) F M hs
theorem qK(i:Nat)(σ:S8)(N:List Str)(ms:List (Option Nat))(hi:PDI X O tg iter it:=by trivial)(W:∀C s H fp,N.Nodup->rF (My.aL X N scope (cM X.env.cells scope.names []) C s H fp) [] tg g:=by intros;trivial)(M:∀C s H fp,My.uE (My.aL X N scope (cM X.env.cells scope.names []) C s H fp) ifs (tDT [] c):=by intros;trivial)(Y:∀C s H fp,PD (My.aL X N scope (cM X.env.cells scope.names []) C s H fp) [] elt f:=by intros;trivial)
  (J:X.env.cells=WI (σ.heap.objs.size+1) X.env.scope.names []:=by rfl) (G:bI X scope N ms:=by repeat' first|exact U8|exact rfl|exact U1 rfl|constructor) (U:N.Nodup:=by decide)
  (hc:X.calm=true:=by rfl) (hk:scope.kind=.function:=by rfl) (h:oV scope.names X.env.scope.names=true:=by rfl) (hn:(ms.all λo=>match o with|some i=>!O.contains i|none=>true)=true:=by rfl) (hs:∀x,VC iter X.env x=pure x:=by intro _;rfl)
  (hX:X.N.Nodup:=by assumption) (F:X.N[i]?=some x:=by rfl) (hl:Loc X.env.scope x:=by first|exact U1 rfl|exact VD rfl) (q:Sub O' (O.filter (· != i))=true:=by rfl) (B:UD (.ListComp elt [⟨tg,iter,ifs,0⟩] scope pos) (some (.Name x pos')) spos.line X.env=pure true:=by rfl) (hf:X.fn x=true\/X.env.scope.names.lookup x=some .local:=by first|exact .inl rfl|exact .inr rfl) :
  eJ X L O (.Assign [.Name x pos'] (.ListComp elt [⟨tg,iter,ifs,0⟩] scope pos) spos) (dM i (eD ms it g c f)) O':=CL hX F hl hc (mL hk h J) G hn hi (λC s H fp=>W C s H fp U) M Y q hs B hf
theorem GE(i:Nat)(σ:S8)(N:List Str)(ms:List (Option Nat))(hi:PDI X O tg iter it:=by trivial)(Y:∀C s H fp,N.Nodup->rF (My.aL X N scope (cM X.env.cells scope.names []) C s H fp) [] tg g:=by intros;trivial)(U:∀C s H fp,My.uE (My.aL X N scope (cM X.env.cells scope.names []) C s H fp) ifs (tDT [] c):=by intros;trivial)(he:∀C s H fp,PD (My.aL X N scope (cM X.env.cells scope.names []) C s H fp) [] elt f:=by intros;trivial)
  (M:X.env.cells=WI (σ.heap.objs.size+1) X.env.scope.names []:=by rfl) (J:bI X scope N ms:=by repeat' first|exact U8|exact rfl|exact U1 rfl|constructor) (W:N.Nodup:=by decide)
  (hc:X.calm=true:=by rfl) (hk:scope.kind=.function:=by rfl) (h:oV scope.names X.env.scope.names=true:=by rfl) (hn:(ms.all λo=>match o with|some i=>!O.contains i|none=>true)=true:=by rfl) (hs:∀x,VC iter X.env x=pure x:=by intro _;rfl)
  (hX:X.N.Nodup:=by assumption) (G:X.N[i]?=some x:=by rfl) (hl:Loc X.env.scope x:=by first|exact U1 rfl|exact VD rfl) (q:Sub O' (i::O)=true:=by rfl) (F:O.contains i=false:=by rfl) (B:UD (.ListComp elt [⟨tg,iter,ifs,0⟩] scope pos) (some (.Name x pos')) spos.line X.env=pure true:=by rfl) (hf:X.fn x=true\/X.env.scope.names.lookup x=some .local:=by first|exact .inl rfl|exact .inr rfl) :
  eJ X L O (.Assign [.Name x pos'] (.ListComp elt [⟨tg,iter,ifs,0⟩] scope pos) spos) (dM i (eD ms it g c f)) O':=yE hX G hl hc (mL hk h M) J hn hi (λC s H fp=>Y C s H fp W) U he q F hs B hf
end
theorem fx{Q:TJ}{w:World}{K:S9}{mg:Str->Option Value}{base:Heap}{x:Str}{k:Nat}{ps:List Str}{F:List D->Option D}(B:List D->Option D)(h:Fn Q w K mg base x k ps F)(e:F=B:=by rfl):Fn Q w K mg base x k ps B:=e ▸ h
noncomputable def M5:List Str->(List Value->Prop)->Prop
 | [],Q=>Q []
 | _::ps,Q=>∀u,M5 ps λus=>Q (u::us)
theorem FO{ps:List Str}{Q:List Value->Prop}(h:M5 ps Q){q:List Value}(e:q.length=ps.length):Q q:=by
 induction ps generalizing q Q with
 | nil=>rw[List.length_eq_zero_iff.mp e];exact h
 | cons a ps ih=>
  cases q with
  | nil=>cases e
  | cons u q=>exact ih (h u) (Nat.succ.inj e)
def Bd(st:Stmt)(x:Str)(ps:List Str):Prop:=∀(kV doc pm:Value) (an:Option Addr) (cdv ct:Value),M5 ps λq=>bindArgs (VX x x (cI st) (a6 st) (aE st) .none kV doc pm an cdv ct) ⟨q,[]⟩=pure (ps.zip q)
def De(K:S9)(x:Str)(st:Stmt):Prop:=∃f,WW K UO x=some (some (.ref f))/\Fe K x st f
def Des(K:S9)(tp:Nat->Stmt)(t:List (Str×Nat×List Str)):Prop:=∀p∈t,De K p.1 (tp p.2.1)
theorem Des.nil{K:S9}{tp:Nat->Stmt}:Des K tp []:=λ_ h=>nomatch h
theorem Des.cons{K:S9}{tp:Nat->Stmt}{x:Str}{i:Nat}{ps:List Str}{t:List (Str×Nat×List Str)}{f:Addr}{G:Value}{od J:Option Addr}{F:Array (Option Value)}{kV B M q ct:Value}(a:WW K UO x=some (some (.ref f)))(l:K.lookup f=some ⟨G,od,.func (VX x x (cI (tp i)) (a6 (tp i)) (aE (tp i)) .none kV B M J q ct),F⟩)(c:XB K q x=true)(k:WR K (.ref f)=true)(r:Des K tp t):Des K tp ((x,i,ps)::t):=
 ZX.2 ⟨⟨f,a,Fe.mk l c k⟩,r⟩
def Bds(tp:Nat->Stmt)(t:List (Str×Nat×List Str)):Prop:=∀p∈t,Bd (tp p.2.1) p.1 p.2.2
theorem Bds.nil:Bds tp []:=λ_ h=>nomatch h
theorem Bds.cons(a:Bd (tp i) x ps)(r:Bds tp t):Bds tp ((x,i,ps)::t):=ZX.2 ⟨a,r⟩
theorem Des.d{K:S9}{h:Heap}{mg:Str->Option Value}{tp:Nat->Stmt}{t:List (Str×Nat×List Str)}(X:K.In h)(G:h.Ns UO mg)(D:Des K tp t)(B:Bds tp t):∀p∈t,My.DefAt K mg p.1 (tp p.2.1) p.2.2:=λp J=>let ⟨_,a,e⟩:=D p J;e.d (ZY X G a) λkV q N M F ct U=>FO (B p J kV q N M F ct)
def Nos(K:S9)(t:List Str):Prop:=∀x∈t,WW K UO x=some none
theorem Nos.nil{K:S9}:Nos K []:=λ_ h=>nomatch h
theorem Nos.cons{K:S9}{x:Str}{t:List Str}(a:WW K UO x=some none)(r:Nos K t):Nos K (x::t):=ZX.2 ⟨a,r⟩
def Gis(K:S9)(t:List (Str×Int)):Prop:=∀p∈t,∃k,WW K UO p.1=some (some (.int p.2 k))
theorem Gis.nil{K:S9}:Gis K []:=λ_ h=>nomatch h
theorem Gis.cons{K:S9}{x:Str}{n:Int}{k:Tok}{t:List (Str×Int)}(a:WW K UO x=some (some (.int n k)))(r:Gis K t):Gis K ((x,n)::t):=ZX.2 ⟨⟨k,a⟩,r⟩
theorem Gis.d{K:S9}{h:Heap}{mg:Str->Option Value}{t:List (Str×Int)}(X:K.In h)(G:h.Ns UO mg)(D:Gis K t):∀p∈t,GInt mg p.1 p.2:=λp q=>let ⟨_,a⟩:=D p q;⟨⟨_,ZY X G a⟩⟩
theorem iV{w:List D}{c:Int}(h0:0<=c)(h1:c<=(w.length:Int)):cutD w none (some c)=w.take c.toNat/\cutD w (some c) none=w.drop c.toNat:=by
 have q:HT.sIx w.length w.length (some c)=c.toNat:=by
  show(if c<0 then _ else min c.toNat w.length)=_;rw[if_neg (by lia)];lia
 have B:HT.sIx w.length 0 (some c)=c.toNat:=by
  show(if c<0 then _ else min c.toNat w.length)=_;rw[if_neg (by lia)];lia
 have F:HT.sIx w.length 0 none=0:=rfl;have G:HT.sIx w.length w.length none=w.length:=rfl;unfold cutD;rw[q,B,F,G];constructor
 ·simp
 ·rw[List.take_of_length_le (by simp)]
section
variable {ρ ρ':bJ}{f g:Ev}{a b:Bv}{l:Lv}{x y d r:D}{xs:List D}{i j:Int}{k:Nat}{s t:Sv}{o:Option Out}
theorem LX(h:ρ[k]?=some (some x)):aD k ρ=some x:=by unfold aD;rw[h];rfl
theorem RF:eC x ρ=some x:=rfl
theorem cQ{w:D->D->Option D}(F:f ρ=some x)(q:g ρ=some y)(B:w x y=some r):a8 w f g ρ=some r:=by unfold a8;rw[F,aA,q,aA,B]
theorem pV{F:List D->Option D}(h:l ρ=some xs)(k:F xs=some r):bG F l ρ=some r:=by unfold bG;rw[h,aA,k]
theorem xT(h:f ρ=some x)(k:l ρ=some xs):aQ f l ρ=some (x::xs):=by unfold aQ;rw[h,aA,k,aA]
theorem CM(h:l ρ=some xs):nE l ρ=some (.tup xs):=by unfold nE;rw[h,aB]
theorem LG(h:l ρ=some xs):uA l ρ=some (.lst xs):=by unfold uA;rw[h,aB]
theorem tZ(h:f ρ=some (.int i)):jW f ρ=some (some i):=by unfold jW;rw[h,aA];rfl
theorem t5{w:D->Option Int->Option Int->Option D}{u v:Ov}{p q:Option Int}(G:f ρ=some x)(B:u ρ=some p)(J:v ρ=some q)(F:w x p q=some r):IC w f u v ρ=some r:=by unfold IC;rw[G,aA,B,aA,J,aA,F]
theorem MC(h:f ρ=some (.int i)):HY f ρ=some (.int (-i)):=by unfold HY;rw[h,aA];rfl
theorem qW{c:Bool}(h:f ρ=some (.bl c)):fW f ρ=some c:=by unfold fW;rw[h,aA];rfl
theorem JH{c:Bool}(h:a ρ=some c):vW a ρ=some (!c):=by unfold vW;rw[h,aB]
noncomputable def NK{α:Type}(c:Bool)(u v:α):α:=if c=true then u else v
theorem HP{q:Type}{c:Bool}{u v w:q}(h:c=true)(k:u=w):NK c u v=w:=(if_pos h).trans k
theorem ND{q:Type}{c:Bool}{u v w:q}(h:c=false)(k:v=w):NK c u v=w:=(if_neg (by rw[h];exact nofun)).trans k
theorem KC{c:Bool}{z:Option Bool}(h:a ρ=some c)(k:NK c (b ρ) (some false)=z):qZ a b ρ=z:=by unfold qZ;rw[h,aA];exact k
theorem O6{c:Bool}{z:Option Bool}(h:a ρ=some c)(k:NK c (some true) (b ρ)=z):NI a b ρ=z:=by unfold NI;rw[h,aA];exact k
theorem N4{c:Bool}(h:a ρ=some c)(k:NK c (s ρ) (t ρ)=o):ED a s t ρ=o:=by unfold ED;rw[h,aA];exact k
def sq(p:Out)(t:Sv):Option Out:=match p with
 | .nx ρ=>t ρ
 | p=>some p
theorem vJ{p:Out}(h:s ρ=some p)(k:sq p t=o):cG s t ρ=o:=by unfold cG;rw[h,aA];exact k
theorem DO(k:t ρ=o):sq (.nx ρ) t=o:=k
theorem OP(h:f ρ=some x):NQ f ρ=some (.rt x):=PR h
theorem C5{w:Gv}(h:f ρ=some x)(k:w x ρ=some ρ'):HR f w ρ=some (.nx ρ'):=by unfold HR;rw[h,aA,k,aB]
theorem KJ(h:aD k ρ=some (.lst xs))(e:f ρ=some x)(z:xs.length<=1000000):D6 k f ρ=some (.nx (ρ.set k (some (.lst (xs++[x]))))):=by
 unfold D6;rw[h,aA];show(f ρ).bind _=_;rw[e,aA];exact if_pos (decide_eq_true z)
theorem qI{u v:List D}(z:u.length+v.length<=1000000):bD (.lst u) (.lst v)=some (.lst (u++v)):=if_pos (decide_eq_true z)
theorem FV{u:List D}(z:u.length+1<=1000000):bD (.lst u) (.lst [x])=some (.lst (u++[x])):=qI z
theorem IV(h:dW xs i=some x):aI (.lst xs) (.int i)=some x:=h
theorem JQ(h:dW xs i=some x):aI (.tup xs) (.int i)=some x:=h
theorem wZ{ms:List (Option Nat)}{w:Gv}{ds:List D}(h:l ρ=some xs)(z:xs.length<=1000000)(e:bF w a f xs (i5 ms ρ)=some ds):eD ms l w a f ρ=some (.lst ds):=by unfold eD;rw[h,aA];exact(if_pos (decide_eq_true z)).trans (by rw[e,aB])
theorem LH{w:Gv}:bF w a f [] ρ=some []:=rfl
theorem hZ{w:Gv}{ds:List D}(h:w x ρ=some ρ')(k:a ρ'=some true)(e:f ρ'=some y)(r:bF w a f xs ρ'=some ds):bF w a f (x::xs) ρ=some (y::ds):=by rw[bF,h,aA,k,aA,if_pos rfl,e,aA,r,aA]
theorem bW{R:D->Prop}(h:s ρ=some (.nx ρ'))(k:∃d,t ρ'=some (.rt d)/\R d):∃d,cG s t ρ=some (.rt d)/\R d:=by rw[aN h];exact k
theorem mP{w:Gv}(h:w x ρ=some ρ')(k:s ρ'=o):turn w s x ρ=o:=by unfold turn;rw[h,aA,k]
theorem kF{w:Gv}{Q:bJ->Prop}(h:turn w s x ρ=some (.nx ρ'))(k:Q ρ'):∃ρ',turn w s x ρ=some (.nx ρ')/\Q ρ':=⟨_,h,k⟩
theorem J8{w:Gv}(h:l ρ=some xs)(k:iM w s xs ρ=o):nC l w s ρ=o:=by unfold nC;rw[h,aA,k]
theorem J6{w:Gv}:iM w s [] ρ=some (.nx ρ):=rfl
theorem HE{w:Gv}(h:turn w s x ρ=some (.nx ρ'))(k:iM w s xs ρ'=o):iM w s (x::xs) ρ=o:=by
 unfold turn at h;obtain⟨ρ1,q,B⟩:=bind_some h;unfold iM;rw[q,aA,B,aA];exact k
theorem GU{ys:List D}(h:l ρ=some [x])(e:(pC x).map (eE 0)=some ys):xX l ρ=some ys:=by unfold xX;rw[h,aA];exact e
theorem L8(h:f ρ=some (.lst xs)):jY f ρ=some xs:=by unfold jY;rw[h,aA]
theorem IL{w:List D->Option (List D)}{ys:List D}(h:l ρ=some xs)(k:w xs=some ys):lR w l ρ=some ys:=by unfold lR;rw[h,aA,k]
theorem JX{u:Ev}{w:List D}(B:f ρ=some (.lst w))(q:g ρ=some (.int i))(F:u ρ=some (.lst [x]))(h0:0<=i)(h1:i<w.length)(G:w.length<=1000) :
  a8 bD (a8 bD (IC fJ f oT (jW g)) u) (IC fJ f (jW (a8 bD g (eC (.int 1)))) oT) ρ=some (.lst (w.take i.toNat++x::w.drop (i.toNat+1))):=by
 obtain⟨n,rfl⟩:=Int.eq_ofNat_of_zero_le h0;refine(cQ (cQ (t5 B rfl (tZ q) rfl) F (qI ?_)) (t5 B (tZ (cQ q rfl rfl)) rfl rfl) (qI ?_)).trans ?_
 all_goals rw[(iV h0 (by lia)).1]
 ·simp;lia
 ·rw[(iV (by lia) (by lia)).2];simp;lia
 ·rw[(iV (by lia) (by lia)).2];simp
end
def hide(p:Addr)(H:Hp):Hp:=λb=>if b=p then none else H b
section
variable {A A0:Av}{H H0 H':Hp}{p:Addr}
theorem hide_ne{b:Addr}(n:b≠p):hide p H b=H b:=if_neg n
theorem yU:hide p H p=none:=if_pos rfl
theorem bR{b:Addr}{u:HO}(h:hide p H b=some u):b≠p/\H b=some u:=by
 unfold hide at h;split at h
 ·cases h
 ·next n=>exact⟨n,h⟩
theorem fG{b:Addr}{u:HO}(n:b≠p)(h:Rd H b u):Rd (hide p H) b u:=by
 rcases h with h|⟨o,h⟩
 ·exact .inl (by rw[hide_ne n];exact h)
 ·exact .inr ⟨o,by rw[hide_ne n];exact h⟩
theorem xS{b:Addr}{u:HO}(h:Rd (hide p H) b u):b≠p/\Rd H b u:=by
 rcases h with h|⟨o,h⟩
 ·exact⟨(bR h).1,.inl (bR h).2⟩
 ·exact⟨(bR h).1,.inr ⟨o,(bR h).2⟩⟩
theorem gW:Ext A (hide p H) H:=⟨λ_ _ h=>(xS h).2,λ_ _ _ h=>(bR h).2,λ_ _ _ h=>(bR h).2,λ_ _ _ h=>(bR h).2⟩
mutual
theorem Rep.hide(q:A p)(B:∀xs,H p≠some (.tup xs)){d:D}{v:V}:Rep A H d v->Rep A (hide p H) d v
 | .non=>.non
 | .bl b=>.bl b
 | .int i=>.int i
 | .str s=>.str s
 | .tup h r=>.tup (by rw[hide_ne (λz=>by subst z;exact B _ h)];exact h) (RepL.hide q B r)
 | .lst n h r=>.lst n (fG (λz=>n (z ▸ q)) h) (RepL.hide q B r)
 | .dK n h e r=>.dK n (fG (λz=>n (z ▸ q)) h) e (RepL.hide q B r)
 | .dT n h e r=>.dT n (fG (λz=>n (z ▸ q)) h) e (RepL.hide q B r)
theorem RepL.hide(B:A p)(q:∀xs,H p≠some (.tup xs)){ds:List D}{vs:List V}:RepL A H ds vs->RepL A (hide p H) ds vs
 | .nil=>.nil
 | .cons h t=>.cons (Rep.hide B q h) (RepL.hide B q t)
end
abbrev SC(A:Av)(p:Addr):Av:=λb=>A b/\b≠p
abbrev Pour(A:Av)(p:Addr)(H H':Hp):Prop:=Ext (SC A p) (hide p H) H'
theorem Own.notTup{l:D}(o:Own A H l p)(xs:List V):H p≠some (.tup xs):=by
 cases o with
 | lst h r=>rw[h];exact nofun
 | dK h e r=>rw[h];exact nofun
 | dT h e r=>rw[h];exact nofun
theorem tH(x:Pour A p H H'):Ext A (hide p H) H':=⟨x.rd,x.kp,λb u a h=>x.ow b u ⟨a,(bR h).1⟩ h,x.fz⟩
theorem Rep.pour(x:Pour A p H H')(B:A p)(q:∀xs,H p≠some (.tup xs)){d:D}{v:V}(r:Rep A H d v):Rep A H' d v:=(r.hide B q).ext (tH x)
theorem RepL.pour(x:Pour A p H H')(B:A p)(q:∀xs,H p≠some (.tup xs)){d:List D}{v:List V}(r:RepL A H d v):RepL A H' d v:=(r.hide B q).ext (tH x)
theorem f9{H2:Hp}(x:Pour A p H H')(y:Pour A p H' H2):Pour A p H H2:=by
 have q:∀ {b u},hide p H b=some u->b≠p:=λh=>(bR h).1
 refine⟨λb u h=>?_,λb u k h=>?_,λb u a h=>?_,λb o u h=>?_⟩
 ·exact y.rd b u (fG (xS h).1 (x.rd b u h))
 ·exact y.kp b u k (by rw[hide_ne (q h)];exact x.kp b u k h)
 ·exact y.ow b u a (by rw[hide_ne (q h)];exact x.ow b u a h)
 ·exact y.fz b o u (by rw[hide_ne (q h)];exact x.fz b o u h)
theorem ST.pour{E:List Fact}{z:Nat}{σ:L2.St}{ρ:bJ}{l U:D}(s:ST H0 A0 A E [z] σ H ρ)(hz:σ[z]?=some (some (.ref p)))(W:ρ[z]?=some (some l))(x:Pour A p H H')(o:Own A H' U p):ST H0 A0 A E [z] σ H' (ρ.set z (some U)):=by
 obtain⟨a,M,B,N,J⟩:=s.own z l W (List.mem_singleton.mpr rfl);rw[hz]at M;cases M;have F:=J.notTup;have n0:∀ {b},H0 b≠none->b≠p:=λh q=>h (q ▸ N)
 have lt:z<ρ.length:=(List.getElem?_eq_some_iff.mp W).1;refine⟨⟨λb u h=>?_,λb u k h=>?_,λb u a h=>?_,λb q u h=>?_⟩,s.sub,s.l0,λb G=>?_,by rw[List.length_set];exact s.len,λi d h n=>?_,λi d h n=>?_,λi j d d' b hi Y _ _ _ _=>by rw[List.mem_singleton.mp hi,List.mem_singleton.mp Y],λq hq=>?_⟩
 ·refine x.rd b u (fG (n0 ?_) (s.ex.rd b u h))
  rcases h with h|⟨_,h⟩ <;> (rw[h];exact nofun)
 ·exact x.kp b u k (by rw[hide_ne (n0 (by rw[h];exact nofun))];exact s.ex.kp b u k h)
 ·exact x.ow b u ⟨s.sub b a,n0 (by rw[h];exact nofun)⟩ (by rw[hide_ne (n0 (by rw[h];exact nofun))];exact s.ex.ow b u a h)
 ·exact x.fz b q u (by rw[hide_ne (n0 (by rw[h];exact nofun))];exact s.ex.fz b q u h)
 ·by_cases q:b=p
  ·subst q;exact o.there
  ·cases e:H b with
   | none=>exact absurd e (s.live b G)
   | some u=>rw[x.ow b u ⟨G,q⟩ (by rw[hide_ne q];exact e)];exact nofun
 ·rcases bV h with⟨q,_⟩|⟨q,h⟩
  ·exact absurd (List.mem_singleton.mpr q) n
  ·obtain⟨v,e,r⟩:=s.val i d h n
   exact⟨v,e,r.pour x B F⟩
 ·rcases bV h with⟨q,e,_⟩|⟨q,_⟩
  ·cases e;exact⟨p,q ▸ hz,B,N,o⟩
  ·exact absurd (List.mem_singleton.mp n) q
 ·have:=s.ext q hq
  cases q with
  | rep d v=>exact Rep.pour x B F this
  | fz b o u=>
   have this:H b=some (.frz o u):=this;have nb:b≠p:=λq=>by
    subst q;cases J with
    | lst h r=>rw[h]at this;cases this
    | dK h e r=>rw[h]at this;cases this
    | dT h e r=>rw[h]at this;cases this
   exact x.fz b o u (by rw[hide_ne nb];exact this)
end
inductive OutQ where
 | nx (ρ:bJ)|rt (d l:D)
abbrev Qv:=bJ->Option OutQ
def N9(z:Nat)(p:Addr)(H0:Hp)(A0:Av)(E:List Fact)(T:Ends):OutQ->Prop
 | .nx ρ=>∀A σ H,ST H0 A0 A E [z] σ H ρ->σ[z]?=some (some (.ref p))->T.nx σ H
 | .rt d l=>∀A v H,(∀a,A0 a->A a)->A p->Ext A0 H0 H->Rep A H d v->Own A H l p->T.rt v H
inductive tQ(z:Nat)(f:Qv)(T:Ends)(σ:L2.St)(H:Hp):Prop
 | mk (H0:Hp) (A0 A:Av) (E:List Fact) (ρ:bJ) (p:Addr) (out:OutQ) (st:ST H0 A0 A E [z] σ H ρ) (hz:σ[z]?=some (some (.ref p))) (e:f ρ=some out) (q:N9 z p H0 A0 E T out):tQ z f T σ H
def PQ(X:Cx)(z:Nat)(st:Stmt)(f:Qv):Prop:=PS X st (tQ z f)
def IF(X:Cx)(z:Nat)(st:List Stmt)(f:Qv):Prop:=PSs X st (tQ z f)
section
variable {X:Cx}{z:Nat}
def QA:Qv:=λρ=>some (.nx ρ)
def nB(f g:Qv):Qv:=λρ=>(f ρ).bind λo=>match o with
 | .nx ρ'=>g ρ'
 | o=>some o
theorem J4:IF X z [] QA:=PSs.mono xG <| by
 rintro T σ H ⟨H0,A0,A,E,ρ,p,B,st,hz,e,q⟩;cases e;exact q A σ H st hz
theorem aM{st:Stmt}{rest:List Stmt}{f g:Qv}(h1:PQ X z st f)(h2:IF X z rest g):IF X z (st::rest) (nB f g):=PSs.mono (tM h1 h2) <| by
 rintro T σ H ⟨H0,A0,A,E,ρ,p,F,st,hz,e,q⟩;obtain⟨o,J,e⟩:=bind_some e;refine⟨H0,A0,A,E,ρ,p,o,st,hz,J,?_⟩;cases o with
 | nx ρ'=>exact λA' M H' G B=>⟨H0,A0,A',E,ρ',p,F,G,B,e,q⟩
 | rt d l=>cases e;exact q
theorem eY{st:Stmt}{f:Qv}(h:PQ X z st f):IF X z [st] f:=xA h
def IG(c:Bv)(f g:Qv):Qv:=λρ=>(c ρ).bind λb=>if b=true then f ρ else g ρ
theorem OE{c:Expr}{a b:List Stmt}{pos:Pos}{g:Bv}{f k:Qv}(N:IF X z a f)(G:IF X z b k)(M:i6 X [z] c g:=by trivial):PQ X z (.If c a b pos) (IG g f k):=PS.mono (IQ M N G) <| by
 rintro T σ H ⟨H0,A0,A,E,ρ,p,B,st,hz,e,q⟩;obtain⟨b,J,e⟩:=bind_some e;refine⟨H0,A0,A,E,ρ,b,st,J,λH1 F=>?_⟩;cases b with
 | true=>rw[if_pos rfl]at e ⊢;exact⟨H0,A0,A,E,ρ,p,B,st.mono F,hz,e,q⟩
 | false=>rw[if_neg TZ]at e ⊢;exact⟨H0,A0,A,E,ρ,p,B,st.mono F,hz,e,q⟩
def R6(z:Nat)(f:Ev):Qv:=λρ=>(f ρ).bind λd=>(aD z ρ).map λl=>.rt d l
theorem iZ{e:Expr}{pos:Pos}{f:Ev}(G:PD X [z] e f:=by trivial):PQ X z (.Return (some e) pos) (R6 z f):=PS.mono (vN G) <| by
 rintro T σ H ⟨H0,A0,A,E,ρ,p,F,st,hz,e,q⟩;obtain⟨d,M,e⟩:=bind_some e;obtain⟨l,U,rfl⟩:=map_some e;refine⟨H0,A0,A,E,ρ,d,st,M,λv H' x r=>?_⟩;obtain⟨a,B,N,W,J⟩:=(st.mono x).own z l (aV U) (List.mem_singleton.mpr rfl);rw[hz]at B;cases B;exact q A v H' st.sub N (st.mono x).ex r J
def vY(i:Nat)(f:Ev):Qv:=λρ=>(f ρ).map λd=>.nx (ρ.set i (some d))
theorem nJ{i:Nat}{st:Stmt}{f:Ev}(G:PS X st (t7 (tD Rep [z] f) (eZ i)))(n:i≠z):PQ X z st (vY i f):=PS.mono G <| by
 rintro T σ H ⟨H0,A0,A,E,ρ,p,F,st,hz,e,q⟩;obtain⟨d,B,rfl⟩:=map_some e;exact⟨H0,A0,A,E,ρ,d,st,B,λv H' x r=>q A _ H' ((st.mono x).put r λh=>n (List.mem_singleton.mp h)) (by rw[c4 (UB n)];exact hz)⟩
theorem K5{i:Nat}{x:Str}{e:Expr}{pos pos':Pos}{f:Ev}(B:X.N.Nodup)(hi:X.N[i]?=some x)(q:Loc X.env.scope x)(G:PD X [z] e f)(n:i≠z)
  (hs:UD e (some (.Name x pos')) pos.line X.env=pure false:=by rfl) (F:X.fn x=true\/X.env.scope.names.lookup x=some .local:=by first|exact .inl rfl|exact .inr rfl):PQ X z (.Assign [.Name x pos'] e pos) (vY i f):=nJ (qP B hi q G hs F) n
theorem GX{i:Nat}{x:Str}{G tg q:Expr}{F:List Expr}{scope:Scope}{pos pos' B:Pos}{N:List Str}{J:List (Str×Addr)}{ms:List (Option Nat)}{it:Lv}{g:Gv}{c:Bv}{f:Ev}(hN:X.N.Nodup)(U:X.N[i]?=some x)(Y:Loc X.env.scope x)
  (hc:X.calm=true) (cc:My.Clo X N scope J) (W:bI X scope N ms) (hn:(ms.all λo=>match o with|some i=>!([z]:List Nat).contains i|none=>true)=true) (hi:PDI X [z] tg q it) (hg:∀C s H fp,rF (My.aL X N scope J C s H fp) [] tg g)
  (ht:∀C s H fp,My.uE (My.aL X N scope J C s H fp) F (tDT [] c)) (he:∀C s H fp,PD (My.aL X N scope J C s H fp) [] G f) (n:i≠z) (hs:∀x,VC q X.env x=pure x:=by intro _;rfl)
  (M:UD (.ListComp G [⟨tg,q,F,0⟩] scope pos) (some (.Name x pos')) B.line X.env=pure true:=by rfl) (hf:X.fn x=true\/X.env.scope.names.lookup x=some .local:=by first|exact .inl rfl|exact .inr rfl) :
  PQ X z (.Assign [.Name x pos'] (.ListComp G [⟨tg,q,F,0⟩] scope pos) B) (vY i (eD ms it g c f)):=
 nJ (PS.mono (My.j7 hN U Y hc cc hi hg ht he hs M hf) λT σ H w=>g7 W hn _ _ _ (IK w)) n
inductive tGz(z:Nat)(g:Gv)(v:V)(σ:L2.St)(H:Hp)(Q:L2.St->Hp->Prop):Prop
 | mk (H0:Hp) (A0 A:Av) (E:List Fact) (ρ:bJ) (d:D) (ρ':bJ) (p:V) (st:ST H0 A0 A E [z] σ H ρ) (hz:σ[z]?=some (some p)) (r:Rep A H d v) (e:g d ρ=some ρ') (q:∀σ',ST H0 A0 A E [z] σ' H ρ'->σ'[z]?=some (some p)->Q σ' H):tGz z g v σ H Q
inductive tGzs(z:Nat)(g:yD)(vs:List V)(σ:L2.St)(H:Hp)(Q:L2.St->Hp->Prop):Prop
 | mk (H0:Hp) (A0 A:Av) (E:List Fact) (ρ:bJ) (ds:List D) (ρ':bJ) (p:V) (st:ST H0 A0 A E [z] σ H ρ) (hz:σ[z]?=some (some p)) (r:RepL A H ds vs) (e:g ds ρ=some ρ') (q:∀σ',ST H0 A0 A E [z] σ' H ρ'->σ'[z]?=some (some p)->Q σ' H):tGzs z g vs σ H Q
def EH(X:Cx)(z:Nat)(tg:Expr)(g:Gv):Prop:=PG X tg (tGz z g)
def AC(X:Cx)(z:Nat)(tg:List Expr)(g:yD):Prop:=PGs X tg (tGzs z g)
theorem AR{i:Nat}{tg:Expr}(h:PG X tg (eZ i))(n:i≠z):EH X z tg (aJ i):=PG.mono h <| by
 rintro v σ H Q ⟨H0,A0,A,E,ρ,d,ρ',p,st,hz,r,e,q⟩;cases e;exact q _ (st.put r λh=>n (List.mem_singleton.mp h)) (by rw[c4 (UB n)];exact hz)
theorem gX:AC X z [] fV:=PGs.mono wW <| by
 rintro v σ H Q ⟨H0,A0,A,E,ρ,ds,ρ',p,st,hz,r,e,q⟩;cases r with
 | nil=>cases e;exact⟨rfl,q _ st hz⟩
 | cons _ _=>cases e
theorem zL{e:Expr}{es:List Expr}{g:Gv}{k:yD}(J:∀ {t:TG} {u:ID},PG X e t->PGs X es u->PGs X (e::es) (DX t u))(h1:EH X z e g)(h2:AC X z es k):AC X z (e::es) (aR g k):=
 PGs.mono (J h1 h2) <| by
  rintro v σ H Q ⟨H0,A0,A,E,ρ,ds,ρ',p,st,hz,r,e,q⟩;cases r with
  | nil=>cases e
  | cons h t=>
   obtain⟨ρ1,G,e⟩:=bind_some e;exact⟨_,_,rfl,H0,A0,A,E,ρ,_,ρ1,p,st,hz,h,G,λM B F=>⟨H0,A0,A,E,ρ1,_,ρ',p,B,F,t,e,q⟩⟩
theorem HL{tg:Expr}{n:Nat}{k:yD}(G:PG X tg (My.MZ X.K n (tGzs z k))):EH X z tg (b9 n k):=PG.mono G <| by
 rintro v σ H Q ⟨H0,A0,A,E,ρ,d,ρ',p,st,hz,r,e,q⟩;cases d with
 | tup l=>
  obtain⟨a,xs,rfl,h,F⟩:=RepB.tup_inv (.of r);by_cases B:l.length=n
  ·simp only[b9,if_pos B]at e
   exact⟨a,xs,rfl,.inl (.inl (.inl h)),by rw[F.length];exact B,H0,A0,A,E,ρ,l,ρ',p,st,hz,F,e,q⟩
  ·simp only[b9,if_neg B]at e;cases e
 | lst l=>
  obtain⟨a,xs,rfl,h,F⟩:=RepB.lst_inv (.of r);by_cases B:l.length=n
  ·simp only[b9,if_pos B]at e
   exact⟨a,xs,rfl,.inr (.inl h),by rw[F.length];exact B,H0,A0,A,E,ρ,l,ρ',p,st,hz,F,e,q⟩
  ·simp only[b9,if_neg B]at e;cases e
 | _=>cases e
def HU(f:Ev)(g:Gv):Qv:=λρ=>(f ρ).bind λd=>(g d ρ).map .nx
theorem L5{tg e:Expr}{pos:Pos}{f:Ev}{g:Gv}(N:PD X [z] e f)(M:EH X z tg g)(hs:V3 [tg] e pos.line X.env=pure false:=by rfl)(hw:V4 [tg] e X.env=pure none:=by rfl)(h1:(UN [tg] X.env).map (·.2)=[U6 tg X.env]:=by rfl):PQ X z (.Assign [tg] e pos) (HU f g):=
 PS.mono (qQ N M hs hw h1) <| by
  rintro T σ H ⟨H0,A0,A,E,ρ,p,J,st,hz,e,q⟩;obtain⟨d,U,e⟩:=bind_some e;obtain⟨ρ',W,rfl⟩:=map_some e;exact⟨H0,A0,A,E,ρ,d,st,U,λv H' x r=>⟨H0,A0,A,E,ρ,d,ρ',_,st.mono x,hz,r,W,λF G B=>q A F H' G B⟩⟩
def uB(z:Nat)(fk fe:Ev):Qv:=λρ=>(fe ρ).bind λe=>(fk ρ).bind λk=>(EF k).bind λk=>(aD z ρ).bind λx=>match x with
 | .lst l=>(rG l.length k).map λj=>.nx (ρ.set z (some (.lst (l.set j e))))
 | _=>none
theorem LU{o k value:Expr}{pos pos':Pos}{fk Y:Ev}(ho:PE X o (i4 z))(hk:PB X [z] k fk)(hv:PD X [z] value Y)(J:V3 [.Subscript o k pos'] value pos.line X.env=pure false:=by rfl)(hw:V4 [.Subscript o k pos'] value X.env=pure none:=by rfl)
  (hg:∀ {to ti:TE} {t:vV},PE X o to->PE X k ti->AG X t->PG X (.Subscript o k pos') (D4 to ti t):=by intro _ _ _ a b c;exact qY a b c):PQ X z (.Assign [.Subscript o k pos'] value pos) (uB z fk Y):=
 PS.mono (qQ hv (hg ho hk set_list) J hw) <| by
  rintro T σ H ⟨H0,A0,A,E,ρ,p,ai,st,hz,e,q⟩;obtain⟨w,ew,e⟩:=bind_some e;obtain⟨y,ey,e⟩:=bind_some e;obtain⟨kk,e5,e⟩:=bind_some e;obtain⟨x,ex,e⟩:=bind_some e;obtain⟨a,U,G,e3,e4⟩:=st.own z _ (aV ex) (List.mem_singleton.mpr rfl);cases x with
  | lst l=>
   obtain⟨j,e7,rfl⟩:=map_some e;refine⟨H0,A0,A,E,ρ,w,st,ew,λv H1 M r1=>⟨_,U,H0,A0,A,E,ρ,y,st.mono M,ey,λu H2 N W=>?_⟩⟩;have B:=M.trans N;cases e4 with
   | @lst _ _ xs h4 r4=>
    have F:=B.ow _ _ G h4;rw[hU e5]at W;have:=W.int_inv;subst this;refine⟨a,xs,kk,j,rfl,rfl,F,by rw[r4.length];exact e7,?_⟩;exact q A σ _ ((st.mono B).write (o:=.lst _) (aV ex) (List.mem_singleton.mpr rfl) U G e3 F trivial (.lst aF (((r4.ext B).set j (r1.ext N)).put G F trivial))) hz
  | _=>cases e
abbrev Qe:=bJ->Option (D×D)
def SS(n:Nat)(F:List D->Option (D×D)):Sp:=λvs H Q _=>∃(A:Av) (p:Addr) (v0:V) (us:List V) (d0:D) (es:List D) (l d l':D),vs=v0::.ref p::us/\us.length+2=n/\Live A H/\A p/\Rep A H d0 v0/\RepL A H es us/\Own A H l p/\F (d0::l::es)=some (d,l') /\
 ∀v H',Pour A p H H'->Own A H' l' p->Rep A H' d v->Q v H'
def FnQ(P:TJ)(w:World)(K:S9)(mg:Str->Option Value)(base:Heap)(x:Str)(k:Nat)(ps:List Str)(F:List D->Option (D×D)):Prop:=My.Ok P w K mg base x k ps (SS ps.length F)
theorem FnQ.mono{P:TJ}{w:World}{K:S9}{mg:Str->Option Value}{base:Heap}{x:Str}{j k:Nat}{ps:List Str}{F:List D->Option (D×D)}(h:FnQ P w K mg base x j ps F)(l:j<=k):FnQ P w K mg base x k ps F:=My.Ok.mono h l
inductive tQE(z:Nat)(f:Qe)(σ:L2.St)(H:Hp)(Q:VK):Prop
 | mk (H0:Hp) (A0 A:Av) (E:List Fact) (ρ:bJ) (p:Addr) (l d l':D) (st:ST H0 A0 A E [z] σ H ρ) (hz:σ[z]?=some (some (.ref p))) (hl:ρ[z]?=some (some l)) (e:f ρ=some (d,l')) (q:∀v H',Pour A p H H'->Own A H' l' p->Rep A H' d v->Q v H'):tQE z f σ H Q
def NL(X:Cx)(z:Nat)(e:Expr)(f:Qe):Prop:=PE X e (tQE z f)
def cA(z:Nat)(F:List D->Option (D×D))(f0:Ev)(fs:Lv):Qe:=λρ=>(f0 ρ).bind λq=>(fs ρ).bind λes=>(aD z ρ).bind λl=>F (q::l::es)
theorem BX{x:Str}{k:Nat}{ps:List Str}{F:List D->Option (D×D)}{G ep:Expr}{es:List Expr}{f0:Ev}{fs:Lv}{p pos:Pos}(O':FnQ X.prog X.w X.K X.mg X.base x k ps F)(hr:Room k X.A)(hg:Gl X x)(h0:PD X [z] G f0)(hp:PE X ep (i4 z))(ha:pE X [z] es fs)(hl:∀ρ ds,fs ρ=some ds->ds.length+2=ps.length)(Y:(x == ("__debug__" : Str))=false:=by decide)
  (he:TC (G::ep::es) X.env=(false,eval G X.env)::TC (ep::es) X.env:=by rfl) (U:TC (ep::es) X.env=(false,eval ep X.env)::TC es X.env:=by rfl) (W:(T7 pos (TC (ep::es) X.env)).any (·.1)=false:=by rfl) :
  NL X z (.Call (.Name x p) (G::ep::es) [] pos) (cA z F f0 fs):=PE.mono (My.lT O' hr hg (cH h0 (cH hp ha U) he) Y he W) λσ H Q ⟨H0,A0,A,E,ρ,p,l,d,l',st,hz,B,e,q⟩=>by
 obtain⟨d0,G,e⟩:=bind_some e;obtain⟨ds,e1,e⟩:=bind_some e;obtain⟨M,e2,e⟩:=bind_some e;have:M=l:=by have:=aV e2;rw[B]at this;cases this;rfl
 subst this;refine⟨H0,A0,A,E,ρ,d0,st,G,λv0 H1 J r1=>⟨.ref p,hz,H0,A0,A,E,ρ,ds,st.mono J,e1,λus H2 N r2=>?_⟩⟩;obtain⟨a,o1,o2,o3,o4⟩:=(st.mono (J.trans N)).own z M B (List.mem_singleton.mpr rfl);rw[hz]at o1;cases o1;obtain⟨a,w1,w2,w3,w4⟩:=st.own z M B (List.mem_singleton.mpr rfl);rw[hz]at w1;cases w1;have px:Pour A p H H2:=Ext.trans gW ((J.trans N).mono λ_ h=>h.1);exact⟨A,p,v0,us,d0,ds,M,d,l',rfl,by rw[r2.length];exact hl ρ ds e1,(st.mono (J.trans N)).live,o2,r1.ext N,r2.toL,o4,e,λv H' x o r=>q v H' (f9 px x) o r⟩
def oQ(i z:Nat)(f:Qe):Qv:=λρ=>(f ρ).map λp=>.nx ((ρ.set z (some p.2)).set i (some p.1))
theorem uH{i:Nat}{st:Stmt}{f:Qe}(N:∀ρ p,f ρ=some p->∃l,ρ[z]?=some (some l))(J:PS X st (t7 (tQE z f) (eZ i)))(n:i≠z):PQ X z st (oQ i z f):=PS.mono J <| by
 rintro T σ H ⟨H0,A0,A,E,ρ,p,G,st,hz,e,q⟩;obtain⟨⟨d,M⟩,B,rfl⟩:=map_some e;obtain⟨l,F⟩:=N ρ _ B;exact⟨H0,A0,A,E,ρ,p,l,d,M,st,hz,F,B,λv H' x o r=>q A _ H' ((st.pour hz F x o).put r λh=>n (List.mem_singleton.mp h)) (by rw[c4 (UB n)];exact hz)⟩
theorem qB{F:List D->Option (D×D)}{f0:Ev}{fs:Lv}(ρ:bJ)(p:D×D)(h:cA z F f0 fs ρ=some p):∃l,ρ[z]?=some (some l):=by
 obtain⟨J,G,h⟩:=bind_some h;obtain⟨ds,B,h⟩:=bind_some h;obtain⟨l,q,h⟩:=bind_some h;exact⟨l,aV q⟩
theorem G6{i:Nat}{x:Str}{e:Expr}{pos pos':Pos}{F:List D->Option (D×D)}{f0:Ev}{fs:Lv}(B:X.N.Nodup)(hi:X.N[i]?=some x)(q:Loc X.env.scope x)(J:NL X z e (cA z F f0 fs))(n:i≠z)
  (hs:UD e (some (.Name x pos')) pos.line X.env=pure false:=by rfl) (G:X.fn x=true\/X.env.scope.names.lookup x=some .local:=by first|exact .inl rfl|exact .inr rfl):PQ X z (.Assign [.Name x pos'] e pos) (oQ i z (cA z F f0 fs)):=uH qB (qP B hi q J hs G) n
def MX(f:Qe):Qv:=λρ=>(f ρ).map λp=>.rt p.1 p.2
theorem wO{e:Expr}{pos:Pos}{F:List D->Option (D×D)}{f0:Ev}{fs:Lv}(N:NL X z e (cA z F f0 fs)):PQ X z (.Return (some e) pos) (MX (cA z F f0 fs)):=PS.mono (vN N) <| by
 rintro T σ H ⟨H0,A0,A,E,ρ,p,M,st,hz,e,q⟩;obtain⟨⟨d,W⟩,G,rfl⟩:=map_some e;obtain⟨l,B⟩:=qB ρ _ G;obtain⟨a,J,U,o3,Y⟩:=st.own z l B (List.mem_singleton.mpr rfl);rw[hz]at J;cases J;exact⟨H0,A0,A,E,ρ,p,l,d,W,st,hz,B,G,λv H' x o r=>q A v H' st.sub U (st.pour hz B x o).ex r o⟩
def m9(n:Nat)(f:Qv)(ds:List D):Option (D×D):=(f (aH n ds)).bind λo=>match o with
 | .rt d l=>some (d,l)
 | .nx _=>none
theorem ST.begunQ{A:Av}{H:Hp}{N:List Str}{G l:D}{es:List D}{q:V}{p:Addr}{B:List V}(F:Live A H)(Y:A p)(U:Rep A H G q)(r:RepL A H es B)(o:Own A H l p):ST (P.hide p H) (SC A p) A [] [1] (L2.start N (q::.ref p::B)) H (aH N.length (G::l::es)) where
 ex:=gW
 sub:=λ_ h=>h.1
 l0:=λa h=>by rw[hide_ne h.2];exact F a h.1
 live:=F
 len:=by unfold L2.start aH;simp[r.length]
 val:=λi d h n=>by
  unfold aH at h;unfold L2.start
  match i with
  | 0=>cases h;exact⟨q,rfl,U⟩
  | 1=>exact absurd (List.mem_singleton.mpr rfl) n
  | i+2=>
   have h:(es.map some++UA (N.length-(es.length+2)) none)[i]?=some (some d):=h;by_cases hi:i<es.length
   ·rw[XA (by simpa using hi),T6]at h
    obtain⟨d',W,e2⟩:=map_some h;cases e2;obtain⟨v,e3,J⟩:=r.get' W;refine⟨v,?_,J⟩;show(B.map some++_)[i]?=_;rw[XA (by rw[TL,r.length];exact hi),T6,e3];rfl
   ·rw[Y1 (by simpa using hi),Z8]at h
    split at h <;> cases h
 own:=λi d h n=>by
  rw[List.mem_singleton.mp n]at h ⊢;cases h;exact⟨p,rfl,Y,yU,o⟩
 inj:=λi j d d' a hi M _ _ _ _=>by rw[List.mem_singleton.mp hi,List.mem_singleton.mp M]
 ext:=λp hp=>nomatch hp
theorem KN{P:TJ}{w:World}{K:S9}{mg:Str->Option Value}{base:Heap}{x:Str}{st:Stmt}{N ps:List Str}{k:Nat}{f:Qv}(Df:My.DefAt K mg x st ps)(S:FnScope N ps (aE st))
  (h:∀(M:Addr) (F:Value) (A:TX) (B:List Env) (s:S8) (H:Hp) (E:XK),Room k (A.deeper (UX x (aE st) s.heap.objs.size M F))->∃g,IF (iL uD P w K mg base N x (aE st) M F A B s H E).nox 1 (a6 st) g/\g=f) :
  FnQ P w K mg base x (k+1) ps (m9 N.length f):=by
 refine My.BodyOk.ok (λM F A B s H vs Q E hr G=>?_) Df S (λvs H Q E G=>by obtain⟨A,p,v0,us,d0,es,l,d,l',rfl,e,_⟩:=G;exact e);obtain⟨W,p,v0,us,d0,es,l,d,l',rfl,hl,lv,ha,r0,r,o,eF,q⟩:=G;obtain⟨J,eo,Y⟩:=bind_some eF;obtain⟨g,hg,rfl⟩:=h M F A B s H E hr;refine⟨_,hg,_root_.P.hide p H,SC W p,W,[],_,p,J,ST.begunQ lv ha r0 r o,rfl,eo,?_⟩;cases J with
 | nx ρ=>cases Y
 | rt d' l2=>
  cases Y;intro A v H' U ap x rv ol;have le:∀a,W a->A a\/H' a=none:=λa h=>by
   by_cases z:a=p
   ·exact .inl (z ▸ ap)
   ·exact .inl (U a ⟨h,z⟩)
  exact q v H' x (ol.av le) (rv.av le)
end
section
variable {A A0:Av}{H H0 H':Hp}{p D':Addr}{E:List Fact}{z zc:Nat}{σ:L2.St}{ρ:bJ}
theorem ST.innerQ{l:D}(s:ST H0 A0 A E [z] σ H ρ)(hz:σ[z]?=some (some (.ref p)))(hl:ρ[z]?=some (some l))(ms:List (Option Nat))(h1:ms[zc]?=some (some z))(h2:∀j:Nat,ms[j]?=some (some z)->j=zc) :
  ST H0 A0 A E [zc] (i5 ms σ) H (i5 ms ρ)/\(i5 ms σ)[zc]?=some (some (.ref p)):=by
 have F:∀ {M:Type} {τ:List (Option M)} {j i:Nat} {v:M},ms[j]?=some (some i)->τ[i]?=some (some v)->(i5 ms τ)[j]?=some (some v):=λ{M τ j i v} B J=>by
  unfold i5;rw[T6,B];show some ((τ[i]?).join)=_;rw[J];rfl
 refine⟨⟨s.ex,s.sub,s.l0,s.live,by simp[i5],λj d h n=>?_,λj d h n=>?_,λi j d d' a hi U _ _ _ _=>by rw[List.mem_singleton.mp hi,List.mem_singleton.mp U],s.ext⟩,F h1 hz⟩
 ·obtain⟨i,B,G⟩:=kJ h
  obtain⟨v,J,r⟩:=s.val i d G λq=>n (List.mem_singleton.mpr (h2 j (List.mem_singleton.mp q ▸ B)))
  exact⟨v,F B J,r⟩
 ·have n:=List.mem_singleton.mp n
  subst n;obtain⟨i,B,G⟩:=kJ h;rw[h1]at B;cases B;obtain⟨a,o1,W,Y,N⟩:=s.own z d G (List.mem_singleton.mpr rfl);exact⟨a,F h1 o1,W,Y,N⟩
theorem ST.side{u o:HO}(s:ST H0 A0 A E [z] σ H ρ)(hz:σ[z]?=some (some (.ref p)))(F:A D')(h0:H0 D'=none)(G:H D'=some u)(J:NM u)(np:D'≠p):ST H0 A0 A E [z] σ (upd H D' o) ρ:=by
 have B:∀b,H0 b≠none->b≠D':=λb N z=>N (by rw[z];exact h0)
 refine⟨⟨λb w r=>c7 (B b (by rcases r with r|⟨_,r⟩ <;> (rw[r];exact nofun))) (s.ex.rd b w r),λb xs k r=>?_,λb w n r=>?_,λb q w r=>?_⟩,s.sub,s.l0,λa F=>?_,s.len,λi d h n=>?_,λi d h n=>?_,λi j d d' a hi W _ _ _ _=>by rw[List.mem_singleton.mp hi,List.mem_singleton.mp W],λp hp=>Fact.put F G J (s.ext p hp)⟩
 ·rw[aC (B b (by rw[r];exact nofun))];exact s.ex.kp b xs k r
 ·rw[aC (B b (by rw[r];exact nofun))];exact s.ex.ow b w n r
 ·rw[aC (B b (by rw[r];exact nofun))];exact s.ex.fz b q w r
 ·by_cases z:a=D'
  ·subst z;rw[aF];exact nofun
  ·rw[aC z];exact s.live a F
 ·obtain⟨v,h1,h2⟩:=s.val i d h n
  exact⟨v,h1,h2.put F G J⟩
 ·obtain⟨a,M,Y,o3,U⟩:=s.own i d h n
  have n:=List.mem_singleton.mp n;subst n;have q:a=p:=by rw[hz]at M;cases M;rfl
  exact⟨a,M,Y,o3,U.put F G J (λz=>np (by rw[<- z,q]))⟩
theorem sT{o:HO}(x:Pour A p H H')(n:H D'=none):Pour A p H (upd H' D' o):=by
 have B:∀b u,hide p H b=some u->b≠D':=λb u h z=>by have:=(bR h).2;rw[z,n]at this;cases this
 refine⟨λb w r=>c7 ?_ (x.rd b w r),λb xs k r=>?_,λb w m r=>?_,λb q w r=>?_⟩
 ·rcases r with r|⟨_,r⟩ <;> exact B _ _ r
 ·rw[aC (B _ _ r)];exact x.kp b xs k r
 ·rw[aC (B _ _ r)];exact x.ow b w m r
 ·rw[aC (B _ _ r)];exact x.fz b q w r
theorem Pour.less{A':Av}(x:Pour A' p H H')(s:∀a,A a->A' a):Pour A p H H':=Ext.mono x λ_ h=>⟨s _ h.1,h.2⟩
end
def oZ(zc:Nat)(g:Gv)(f:Qe):List D->bJ->Option (List D×bJ)
 | [],ρ=>some ([],ρ)
 | x::xs,ρ=>(g x ρ).bind λρ1=>(f ρ1).bind λp=>(oZ zc g f xs (ρ1.set zc (some p.2))).map λr=>(p.1::r.1,r.2)
def xY(zc:Nat)(ms:List (Option Nat))(it:Lv)(g:Gv)(f:Qe):Qe:=λρ=>(it ρ).bind λitems=>if aX items.length then(oZ zc g f items (i5 ms ρ)).bind λr=>(aD zc r.2).map λl=>(.lst r.1,l)else none
section
variable {X:Cx}{z:Nat}
theorem zD{zc:Nat}{scope:Scope}{N:List Str}{ms:List (Option Nat)}{it:Lv}{g:Gv}{f:Qe}(az:bI X scope N ms)(h1:ms[zc]?=some (some z))(h2:∀j:Nat,ms[j]?=some (some z)->j=zc)(hf:∀ρ p,f ρ=some p->∃l,ρ[zc]?=some (some l))(σ:L2.St)(H:Hp)(Q:VK) :
  tQE z (xY zc ms it g f) σ H Q->My.xV (tDI [z] it) (tGz zc g) (tDT [zc] mS) (tQE zc f) (My.Start X N scope) σ H Q:=λ⟨H0,A0,A,E,ρ,p,l,d,l',st,hz,hl,e,q⟩=>by
 obtain⟨items,e1,e⟩:=bind_some e;by_cases hs:aX items.length=true
 case neg=>rw[if_neg hs]at e;cases e
 rw[if_pos hs]at e;obtain⟨⟨ds,bg⟩,e2,e⟩:=bind_some e;obtain⟨l1,e3,e⟩:=map_some e;cases e;have e3:=aV e3;obtain⟨pa,o1,o2,o3,o4⟩:=st.own z l hl (List.mem_singleton.mpr rfl);rw[hz]at o1;cases o1;refine⟨i5 ms σ,tI az σ,H0,A0,A,E,ρ,items,st,e1,λJ H1 E1 x1 bj J1 D' hD=>?_⟩;have bd:=(st.mono x1).live;have nA:¬ A D':=λz=>bd D' z hD
 have n0:H D'=none:=x1.free hD;have a0:H0 D'=none:=st.ex.free n0;have np:D'≠p:=λq=>nA (q ▸ o2)
 refine⟨λi m ae us H2=>m=items.length-i/\i<=items.length/\∃ρ2 done rest l2,ST H0 A0 (λb=>A b\/b=D') (E1++E) [zc] ae H2 ρ2/\ae[zc]?=some (some (.ref p))/\ρ2[zc]?=some (some l2)/\H2 D'=some (.lst us)/\Pour A p H H2/\RepL (λb=>A b\/b=D') H2 done us/\oZ zc g f (items.drop i) ρ2=some (rest,bg)/\done++rest=ds/\done.length<=i,⟨items.length,by simp,U4 _,i5 ms ρ,[],ds,l,?_⟩,?_⟩
 ·obtain⟨Y,bb⟩:=((st.mono x1).both bj).innerQ hz hl ms h1 h2
  have up:∀a,(A a\/a=D')->A a\/H1 a=none:=λa G=>G.imp id λz=>by rw[z];exact hD
  refine⟨⟨Y.ex.trans (Ext.new hD),λa G=>.inl (Y.sub a G),Y.l0,λa G=>?_,Y.len,λi d h n=>?_,λi d h n=>?_,λi j d d' a hi hj _ _ _ _=>by rw[List.mem_singleton.mp hi,List.mem_singleton.mp hj],λp hp=>Fact.ext (Ext.new hD) (Fact.av up (Y.ext p hp))⟩,bb,?_,aF,sT (Ext.trans gW (x1.mono λ_ h=>h.1)) n0,.nil,e2,rfl,TR _⟩
  ·rcases G with G|G
   ·rw[aC (λz=>by subst z;exact nA G)];exact Y.live a G
   ·subst G;rw[aF];exact nofun
  ·obtain⟨v,h1,h2⟩:=Y.val i d h n
   exact⟨v,h1,(h2.av up).ext (Ext.new hD)⟩
  ·obtain⟨a,w1,w2,w3,w4⟩:=Y.own i d h n
   exact⟨a,w1,.inl w2,w3,(w4.av up).ext (Ext.new hD) (.inl w2)⟩
  ·unfold i5
   rw[T6,h1];show some ((ρ[z]?).join)=_;rw[hl];rfl
 ·rintro i m ae us H2 ⟨rfl,bw,ρ2,done,rest,l2,s2,ai,am,ao,x2,aa,M,ed,be⟩
  obtain⟨ak,go⟩:=J1 _ H2 s2.live (λp hp=>s2.ext p (W5 _ hp)) i;by_cases W:i<items.length
  ·have eg:items[i]?=some items[i]:=by simp[W]
   obtain⟨a4,hy⟩:=go _ eg;rw[YM W]at M;obtain⟨B,e4,M⟩:=bind_some M;obtain⟨⟨d,l4⟩,e6,M⟩:=bind_some M;obtain⟨⟨ac,bm⟩,e7,M⟩:=map_some M;cases M;have an:us.length<TK:=by
    rw[aa.length];exact YB be (U2 W (dI hs))
   refine .inr ⟨a4,an,λx H3 y=>?_⟩;obtain⟨x3,r3⟩:=hy x H3 y;refine⟨H0,A0,_,E1++E,ρ2,_,B,_,s2.mono x3,ai,r3,e4,λci s3 F=>⟨H0,A0,_,E1++E,B,true,s3,rfl,λH5 x5=>P2 ?_⟩⟩;obtain⟨l3,U⟩:=hf B _ e6;have ad:=x3.trans x5;have a2:H5 D'=some (.lst us):=ad.ow D' _ (.inr rfl) ao;refine⟨H0,A0,_,E1++E,B,p,l3,d,l4,s3.mono x5,F,U,e6,λv H6 px o6 r6=>?_⟩;have af:H6 D'=some (.lst us):=px.ow D' _ ⟨.inr rfl,np⟩ (by rw[hide_ne np];exact a2);have s6:=(s3.mono x5).pour F U px o6;obtain⟨a5,w1,w2,w3,w4⟩:=(s3.mono x5).own zc l3 U (List.mem_singleton.mpr rfl);rw[F]at w1;cases w1;have r5:=(aa.ext ad).pour px w2 w4.notTup;have pp:Pour A p H H6:=f9 (f9 x2 (Ext.trans gW (ad.mono λ_ h=>.inl h.1))) (Pour.less px λ_ h=>.inl h);exact⟨af,items.length-(i+1),by lia,rfl,W,B.set zc (some l4),done++[d],ac,l4,s6.side F (.inr rfl) a0 af trivial np,F,by rw[Z3 (List.getElem?_eq_some_iff.mp U).1],aF,sT pp n0,(r5.append (.cons r6 .nil)).put (.inr rfl) af trivial,e7,by rw[<- ed];simp,by rw[VN];show done.length+1<=i+1;lia⟩
  ·have bi:i=items.length:=by lia
   subst bi;rw[zas]at M;cases M;rw[W9]at ed;subst ed;rw[am]at e3;cases e3;obtain⟨a5,w1,w2,w3,w4⟩:=s2.own zc _ am (List.mem_singleton.mpr rfl);rw[ai]at w1;cases w1;have le:∀a,A a->(A a\/a=D')\/H2 a=none:=λa h=>.inl (.inl h)
   exact .inl ⟨ak (TR _),q (.ref D') H2 x2 (w4.av le) (.lst nA (.inl ao) (aa.av le))⟩
def xZ(i z zc:Nat)(ms:List (Option Nat))(it:Lv)(g:Gv)(f:Qe):Qv:=λρ=>(aD z ρ).bind λ_=>oQ i z (xY zc ms it g f) ρ
theorem GT{zc i:Nat}{x:Str}{J tg B:Expr}{scope:Scope}{pos pos' G:Pos}{N:List Str}{M:List (Str×Addr)}{ms:List (Option Nat)}{it:Lv}{g:Gv}{F:List D->Option (D×D)}{f0:Ev}{fs:Lv}(hN:X.N.Nodup)(W:X.N[i]?=some x)(hx:Loc X.env.scope x)
  (hc:X.calm=true) (cc:My.Clo X N scope M) (Y:bI X scope N ms) (h1:ms[zc]?=some (some z)) (h2:∀j:Nat,ms[j]?=some (some z)->j=zc) (hi:PDI X [z] tg B it) (hg:∀C s H fp,EH (My.aL X N scope M C s H fp) zc tg g)
  (he:∀C s H fp,NL (My.aL X N scope M C s H fp) zc J (cA zc F f0 fs)) (n:i≠z) (hs:∀x,VC B X.env x=pure x:=by intro _;rfl)
  (U:UD (.ListComp J [⟨tg,B,[],0⟩] scope pos) (some (.Name x pos')) G.line X.env=pure true:=by rfl) (hf:X.fn x=true\/X.env.scope.names.lookup x=some .local:=by first|exact .inl rfl|exact .inr rfl) :
  PQ X z (.Assign [.Name x pos'] (.ListComp J [⟨tg,B,[],0⟩] scope pos) G) (xZ i z zc ms it g (cA zc F f0 fs)):=by
 have hp:PS X (.Assign [.Name x pos'] (.ListComp J [⟨tg,B,[],0⟩] scope pos) G) (t7 (tQE z (xY zc ms it g (cA zc F f0 fs))) (eZ i)):=
  PS.mono (My.j7 hN W hx hc cc hi hg (λ_ _ _ _=>sQ) he hs U hf) λT σ H w=>zD Y h1 h2 qB _ _ _ w
 refine PS.mono hp λT σ H ⟨H0,A0,A,E,ρ,p,ai,st,hz,e,q⟩=>?_
 obtain⟨l,el,e⟩:=bind_some e;obtain⟨⟨d,l'⟩,e1,rfl⟩:=map_some e;have hl:=aV el;exact⟨H0,A0,A,E,ρ,p,l,d,l',st,hz,hl,e1,λv H' x o r=>q A _ H' ((st.pour hz hl x o).put r λh=>n (List.mem_singleton.mp h)) (by rw[c4 (UB n)];exact hz)⟩
end
section
variable {X:Cx}{L:Lp}{O:List Nat}
def HS(i j:Nat)(g:Lv):Sv:=λρ=>(g ρ).bind λds=>match ds with
 | [d,e]=>some (.nx ((ρ.set i (some d)).set j (some e)))
 | _=>none
theorem DQ(i j:Nat){x y:Str}{a b:Expr}{f:Lv}{G B pt pos:Pos}{kt k2 pt2}(ha:pE X O [a,b] f:=by trivial)(hN:X.N.Nodup:=by assumption)(U:O.contains i=false:=by rfl)(nj:O.contains j=false:=by rfl)(hi:X.N[i]?=some x:=by rfl)(hj:X.N[j]?=some y:=by rfl)(F:i≠j:=by decide)(hc:X.calm=true:=by rfl)
  (M:X.env.scope.names.lookup x=some .local:=by rfl) (hy:X.env.scope.names.lookup y=some .local:=by rfl)
  (hw:V4 [.Tuple [.Name x G,.Name y B] kt pt] (.Tuple [a,b] k2 pt2) X.env=pure (some [x,y]):=by rfl)
  (hs:V3 [.Tuple [.Name x G,.Name y B] kt pt] (.Tuple [a,b] k2 pt2) pos.line X.env=pure false:=by rfl) :
  eJ X L O (.Assign [.Tuple [.Name x G,.Name y B] kt pt] (.Tuple [a,b] k2 pt2) pos) (HS i j f) O:=PS.mono (J3 hc hN hi hj F M hy ha hw hs) λT σ H ⟨H0,A0,A,E,ρ,W,st,e,p⟩=>by
 have J:∀ {k:Nat},O.contains k=false->k∉O:=λ{k} h z=>by
  have:O.contains k=true:=by simpa using z
  rw[h]at this;cases this
 obtain⟨ds,q,e⟩:=bind_some e
 match ds,e,q with
 | [d,d'],e,q=>
  cases e;refine⟨H0,A0,A,E,ρ,_,st,q,λvs H1 Y r1=>?_⟩;cases r1.toL with
  | cons h t=>cases t with
   | cons h' t=>cases t;exact⟨_,_,rfl,p A _ H1 (((st.mono Y).put h (J U)).put h' (J nj))⟩
end
section
variable {X:Cx}{O:List Nat}
theorem ST.add{H0:Hp}{A0 A:Av}{E:List Fact}{σ:L2.St}{H H':Hp}{ρ:bJ}{a:Addr}(s:ST H0 A0 A E O σ H ρ)(x:Ext A H H')(n:H a=none)(h:H' a≠none):ST H0 A0 (λb=>A b\/b=a) E O σ H' ρ:=by
 have F:∀b,(A b\/b=a)->A b\/H b=none:=λb q=>q.imp id λz=>by rw[z];exact n
 have B:Ext (λb=>A b\/b=a) H H':=⟨x.rd,x.kp,λb u m e=>m.elim (λm=>x.ow b u m e) (λm=>by subst m;rw[n]at e;cases e),x.fz⟩;have s':=s.mono x;refine⟨s'.ex,λb q=>.inl (s.sub b q),s.l0,λb q=>?_,s.len,λi d e k=>?_,λi d e k=>?_,s.inj,λp M=>Fact.ext B (Fact.av F (s.ext p M))⟩
 ·rcases q with q|q
  ·exact s'.live b q
  ·rw[q];exact h
 ·obtain⟨v,h1,h2⟩:=s.val i d e k
  exact⟨v,h1,(h2.av F).ext B⟩
 ·obtain⟨b,h1,h2,J,G⟩:=s.own i d e k
  exact⟨b,h1,.inl h2,J,(G.av F).ext B (.inl h2)⟩
def qJ(F:List D->Option (D×D))(f0 fl:Ev)(fs:Lv):Ev:=λρ=>(f0 ρ).bind λd0=>(fl ρ).bind λl=>(fs ρ).bind λes=>match l with
 | .lst _=>(F (d0::l::es)).map (·.1)
 | _=>none
theorem CA{x:Str}{k:Nat}{ps:List Str}{F:List D->Option (D×D)}{G el:Expr}{es:List Expr}{f0 fl:Ev}{fs:Lv}{p pos:Pos}(O':FnQ X.prog X.w X.K X.mg X.base x k ps F)(hr:Room k X.A)(hg:Gl X x)(h0:PD X O G f0)(hp:PF X O el fl)(ha:pE X O es fs)(hl:∀ρ ds,fs ρ=some ds->ds.length+2=ps.length)(ac:(x == ("__debug__" : Str))=false:=by decide)
  (he:TC (G::el::es) X.env=(false,eval G X.env)::TC (el::es) X.env:=by rfl) (U:TC (el::es) X.env=(false,eval el X.env)::TC es X.env:=by rfl) (aa:(T7 pos (TC (el::es) X.env)).any (·.1)=false:=by rfl) :
  PD X O (.Call (.Name x p) (G::el::es) [] pos) (qJ F f0 fl fs):=PE.mono (My.lT O' hr hg (cH h0 (cH hp ha U) he) ac he aa) λσ H Q ⟨H0,A0,A,E,ρ,d,st,e,q⟩=>by
 obtain⟨Y,G,e⟩:=bind_some e;obtain⟨l,e1,e⟩:=bind_some e;obtain⟨ds,e2,e⟩:=bind_some e;cases l with
 | lst l=>
  obtain⟨⟨d',l'⟩,e3,rfl⟩:=map_some e;refine⟨H0,A0,A,E,ρ,Y,st,G,λv0 H1 M r1=>⟨H0,A0,A,E,ρ,.lst l,st.mono M,e1,λa H2 B n na o=>?_⟩⟩;cases o with
  | @lst _ _ xs h r=>
   have s2:=(st.mono M).add B n (by rw[h];exact nofun);refine⟨H0,A0,_,E,ρ,ds,s2,e2,λus H3 J r3=>?_⟩;have n0:H a=none:=M.free n;have W:Ext (λb=>A b\/b=a) H1 H2:=⟨B.rd,B.kp,λb u m e=>m.elim (λm=>B.ow b u m e) (λm=>by subst m;rw[n]at e;cases e),B.fz⟩;have r0:Rep (λb=>A b\/b=a) H3 Y v0:=((r1.av λb hb=>hb.imp id λz=>by rw[z];exact n).ext W).ext J;have h3:H3 a=some (.lst xs):=J.ow a _ (.inr rfl) h;refine⟨λb=>A b\/b=a,a,v0,us,Y,ds,.lst l,d',l',rfl,by rw[r3.length];exact hl ρ ds e2,(s2.mono J).live,.inr rfl,r0,r3.toL,.lst h3 (r.ext J),e3,λv H' x o r=>?_⟩
   ·have N:=(M.trans B).trans (J.mono λ_ h=>.inl h)
    have ne:∀ {b u},H b=some u->b≠a:=λh z=>by rw[z,n0]at h;cases h
    refine q v H' ⟨λb u h=>?_,λb u k h=>?_,λb u m h=>?_,λb o u h=>?_⟩ (r.av λb hb=>.inl (.inl hb))
    ·exact x.rd b u (fG (by rcases h with h|⟨_,h⟩ <;> exact ne h) (N.rd b u h))
    ·exact x.kp b u k (by rw[hide_ne (ne h)];exact N.kp b u k h)
    ·exact x.ow b u ⟨.inl m,ne h⟩ (by rw[hide_ne (ne h)];exact N.ow b u m h)
    ·exact x.fz b o u (by rw[hide_ne (ne h)];exact N.fz b o u h)
 | _=>cases e
end
section
variable {X:Cx}{z:Nat}
theorem cF(i:Nat){x:Str}{e:Expr}{pos pos':Pos}{f:Ev}(G:PD X [z] e f:=by trivial)(B:X.N.Nodup:=by assumption)(hi:X.N[i]?=some x:=by rfl)(q:Loc X.env.scope x:=by first|exact U1 rfl|exact VD rfl)(n:i≠z:=by decide)(hs:UD e (some (.Name x pos')) pos.line X.env=pure false:=by rfl)(F:X.fn x=true\/X.env.scope.names.lookup x=some .local:=by first|exact .inl rfl|exact .inr rfl):PQ X z (.Assign [.Name x pos'] e pos) (vY i f):=K5 B hi q G n hs F
theorem iD(i:Nat)(σ:S8)(N:List Str)(ms:List (Option Nat)){x:Str}{pos' B:Pos}{G tg q:Expr}{F:List Expr}{scope:Scope}{pos:Pos}{it:Lv}{g:Gv}{c:Bv}{f:Ev}(hi:PDI X [z] tg q it:=by trivial)(hg:∀C s H fp,N.Nodup->rF (My.aL X N scope (cM X.env.cells scope.names []) C s H fp) [] tg g:=by intros;trivial)(Y:∀C s H fp,My.uE (My.aL X N scope (cM X.env.cells scope.names []) C s H fp) F (tDT [] c):=by intros;trivial)(he:∀C s H fp,PD (My.aL X N scope (cM X.env.cells scope.names []) C s H fp) [] G f:=by intros;trivial)
  (W:X.env.cells=WI (σ.heap.objs.size+1) X.env.scope.names []:=by rfl) (U:bI X scope N ms:=by repeat' first|exact U8|exact rfl|exact U1 rfl|constructor) (hN:N.Nodup:=by decide)
  (hc:X.calm=true:=by rfl) (hk:scope.kind=.function:=by rfl) (h:oV scope.names X.env.scope.names=true:=by rfl) (hn:(ms.all λo=>match o with|some i=>!([z]:List Nat).contains i|none=>true)=true:=by rfl) (hs:∀x,VC q X.env x=pure x:=by intro _;rfl)
  (hX:X.N.Nodup:=by assumption) (M:X.N[i]?=some x:=by rfl) (hl:Loc X.env.scope x:=by first|exact U1 rfl|exact VD rfl) (n:i≠z:=by decide) (J:UD (.ListComp G [⟨tg,q,F,0⟩] scope pos) (some (.Name x pos')) B.line X.env=pure true:=by rfl) (hf:X.fn x=true\/X.env.scope.names.lookup x=some .local:=by first|exact .inl rfl|exact .inr rfl) :
  PQ X z (.Assign [.Name x pos'] (.ListComp G [⟨tg,q,F,0⟩] scope pos) B) (vY i (eD ms it g c f)):=GX hX M hl hc (mL hk h W) U hn hi (λC s H fp=>hg C s H fp hN) Y he n hs J hf
theorem mI{o k value:Expr}{pos pos':Pos}{F B:Ev}(J:PD X [z] value B:=by trivial)(M:PB X [z] k F:=by trivial)(N:PE X o (i4 z):=by exact pv _)(q:V3 [.Subscript o k pos'] value pos.line X.env=pure false:=by rfl)(hw:V4 [.Subscript o k pos'] value X.env=pure none:=by rfl)
  (G:∀ {to ti:TE} {t:vV},PE X o to->PE X k ti->AG X t->PG X (.Subscript o k pos') (D4 to ti t):=by intro _ _ _ a b c;exact qY a b c):PQ X z (.Assign [.Subscript o k pos'] value pos) (uB z F B):=LU N M J q hw G
theorem tY{c:Expr}{a:List Stmt}{pos:Pos}{g:Bv}{f:Qv}(B:IF X z a f)(q:i6 X [z] c g:=by trivial):PQ X z (.If c a [] pos) (IG g f QA):=OE B J4 q
theorem gz(i:Nat){x:Str}{pos:Pos}(B:X.N.Nodup:=by assumption)(hi:X.N[i]?=some x:=by rfl)(q:Loc X.env.scope x:=by first|exact U1 rfl|exact VD rfl)(F:X.fn x=true\/X.env.scope.names.lookup x=some .local:=by first|exact .inl rfl|exact .inr rfl|assumption)(n:i≠z:=by decide):EH X z (.Name x pos) (aJ i):=AR (j5 B hi q F) n
theorem pD{e:Expr}{es:List Expr}{g:Gv}{k:yD}(h1:EH X z e g)(h2:AC X z es k)(a:(UN (e::es) X.env).map (·.2)=U6 e X.env::(UN es X.env).map (·.2):=by rfl):AC X z (e::es) (aR g k):=zL (λx y=>l9 x y a) h1 h2
theorem QJ(n:Nat){es:List Expr}{j:Nat}{pos:Pos}{k:yD}(h:AC X z es k)(q:X.calm=true:=by rfl)(a:(UN es X.env).length=n:=by rfl)(b:List.findIdx? (λx=>x.fst) (UN es X.env)=none:=by rfl):EH X z (.Tuple es j pos) (b9 n k):=HL (My.iY q h a b)
theorem qX{tg e:Expr}{pos:Pos}{f:Ev}{g:Gv}(q:EH X z tg g)(B:PD X [z] e f:=by trivial)(hs:V3 [tg] e pos.line X.env=pure false:=by rfl)(hw:V4 [tg] e X.env=pure none:=by rfl)(h1:(UN [tg] X.env).map (·.2)=[U6 tg X.env]:=by rfl):PQ X z (.Assign [tg] e pos) (HU f g):=L5 B q hs hw h1
theorem t9{x:Str}{k j m:Nat}{ps:List Str}{F:List D->Option (D×D)}{q ep:Expr}{es:List Expr}{f0:Ev}{fs:Lv}{p pos:Pos}(O':FnQ X.prog X.w X.K X.mg X.base x k ps F:=by assumption)(U:Room j X.A:=by assumption)(h0:PD X [z] q f0:=by trivial)(W:PE X ep (i4 z):=by exact pv _)(ha:pE X [z] es fs:=by trivial)(hl:Len fs m:=by trivial)(hm:m+2=ps.length:=by rfl)(Y:k<=j:=by trivial)(M:Gl X x:=by rfl)(G:(x == ("__debug__" : Str))=false:=by decide)
  (N:TC (q::ep::es) X.env=(false,eval q X.env)::TC (ep::es) X.env:=by rfl) (J:TC (ep::es) X.env=(false,eval ep X.env)::TC es X.env:=by rfl) (B:(T7 pos (TC (ep::es) X.env)).any (·.1)=false:=by rfl) :
  NL X z (.Call (.Name x p) (q::ep::es) [] pos) (cA z F f0 fs):=BX (O'.mono Y) U M h0 W ha (λρ ds h=>by rw[hl ρ ds h];exact hm) G N J B
theorem kE(i:Nat){x:Str}{e:Expr}{pos pos':Pos}{F:List D->Option (D×D)}{f0:Ev}{fs:Lv}(J:NL X z e (cA z F f0 fs))(B:X.N.Nodup:=by assumption)(hi:X.N[i]?=some x:=by rfl)(q:Loc X.env.scope x:=by first|exact U1 rfl|exact VD rfl)(n:i≠z:=by decide)
  (hs:UD e (some (.Name x pos')) pos.line X.env=pure false:=by rfl) (G:X.fn x=true\/X.env.scope.names.lookup x=some .local:=by first|exact .inl rfl|exact .inr rfl):PQ X z (.Assign [.Name x pos'] e pos) (oQ i z (cA z F f0 fs)):=G6 B hi q J n hs G
theorem wV(i:Nat)(σ:S8)(N:List Str)(ms:List (Option Nat))(zc:Nat){x:Str}{G tg q:Expr}{scope:Scope}{pos pos' B:Pos}{it:Lv}{g:Gv}{F:List D->Option (D×D)}{f0:Ev}{fs:Lv}(he:∀C s H fp,NL (My.aL X N scope (cM X.env.cells scope.names []) C s H fp) zc G (cA zc F f0 fs))(Y:∀C s H fp,N.Nodup->EH (My.aL X N scope (cM X.env.cells scope.names []) C s H fp) zc tg g)(h1:ms[zc]?=some (some z))(h2:∀j:Nat,ms[j]?=some (some z)->j=zc)(hi:PDI X [z] tg q it:=by trivial)
  (W:X.env.cells=WI (σ.heap.objs.size+1) X.env.scope.names []:=by rfl) (U:bI X scope N ms:=by repeat' first|exact U8|exact rfl|exact U1 rfl|constructor) (hN:N.Nodup:=by decide)
  (hc:X.calm=true:=by rfl) (hk:scope.kind=.function:=by rfl) (h:oV scope.names X.env.scope.names=true:=by rfl) (hs:∀x,VC q X.env x=pure x:=by intro _;rfl)
  (hX:X.N.Nodup:=by assumption) (M:X.N[i]?=some x:=by rfl) (hl:Loc X.env.scope x:=by first|exact U1 rfl|exact VD rfl) (n:i≠z:=by decide) (J:UD (.ListComp G [⟨tg,q,[],0⟩] scope pos) (some (.Name x pos')) B.line X.env=pure true:=by rfl) (hf:X.fn x=true\/X.env.scope.names.lookup x=some .local:=by first|exact .inl rfl|exact .inr rfl) :
  PQ X z (.Assign [.Name x pos'] (.ListComp G [⟨tg,q,[],0⟩] scope pos) B) (xZ i z zc ms it g (cA zc F f0 fs)):=GT hX M hl hc (mL hk h W) U h1 h2 hi (λC s H fp=>Y C s H fp hN) he n hs J hf
theorem wN{O:List Nat}{x:Str}{k j m:Nat}{ps:List Str}{F:List D->Option (D×D)}{q el:Expr}{es:List Expr}{f0 fl:Ev}{fs:Lv}{p pos:Pos}(O':FnQ X.prog X.w X.K X.mg X.base x k ps F)(U:Room j X.A)(h0:PD X O q f0)(W:PF X O el fl)(ha:pE X O es fs)(hl:Len fs m)(hm:m+2=ps.length)(Y:k<=j)(M:Gl X x:=by rfl)(G:(x == ("__debug__" : Str))=false:=by decide)
  (N:TC (q::el::es) X.env=(false,eval q X.env)::TC (el::es) X.env:=by rfl) (J:TC (el::es) X.env=(false,eval el X.env)::TC es X.env:=by rfl) (B:(T7 pos (TC (el::es) X.env)).any (·.1)=false:=by rfl) :
  PD X O (.Call (.Name x p) (q::el::es) [] pos) (qJ F f0 fl fs):=CA (O'.mono Y) U M h0 W ha (λρ ds h=>by rw[hl ρ ds h];exact hm) G N J B
end
theorem gZ{P:TJ}{w:World}{K:S9}{mg:Str->Option Value}{base:Heap}{x:Str}{st:Stmt}{N ps:List Str}{k:Nat}(G:My.DefAt K mg x st ps)(S:FnScope N ps (aE st)):FnQ P w K mg base x (k+1) ps (λ_=>none):=
 My.BodyOk.ok (k:=k) (N:=N) (λJ F A B s H vs Q E M ⟨_,_,_,_,_,_,_,_,_,_,_,_,_,_,_,_,q,_⟩=>nomatch q) G S (λvs H Q E ⟨_,_,_,_,_,_,_,_,_,_,_,_,_,_,_,_,q,_⟩=>nomatch q)
section
variable {ρ ρ':bJ}{f f0:Ev}{a:Bv}{l fs:Lv}{x y d e:D}{xs es:List D}{i j z:Nat}{s t:Qv}{o:Option OutQ}
theorem JT(h:l ρ=some [x,y]):HS i j l ρ=some (.nx ((ρ.set i (some x)).set j (some y))):=by unfold HS;rw[h,aA]
theorem mC{s:Sv}{R:D->Prop}(h:s ρ=some (.rt d))(k:R d):∃d,s ρ=some (.rt d)/\R d:=⟨_,h,k⟩
theorem cZ{d:D}(h:f ρ=some d)(e:ρ.set i (some d)=ρ'):dM i f ρ=some (.nx ρ'):=e ▸ bN h
def SJ(p:OutQ)(t:Qv):Option OutQ:=match p with
 | .nx ρ=>t ρ
 | p=>some p
theorem mF{p:OutQ}(h:s ρ=some p)(k:SJ p t=o):nB s t ρ=o:=by unfold nB;rw[h,aA];exact k
theorem DM(k:t ρ=o):SJ (.nx ρ) t=o:=k
theorem DY{c:Bool}(h:a ρ=some c)(k:NK c (s ρ) (t ρ)=o):IG a s t ρ=o:=by unfold IG;rw[h,aA];exact k
theorem KY(h:f ρ=some d)(e:ρ.set i (some d)=ρ'):vY i f ρ=some (.nx ρ'):=by unfold vY;rw[h,aB,e]
theorem vO{w:Gv}(h:f ρ=some d)(k:w d ρ=some ρ'):HU f w ρ=some (.nx ρ'):=by unfold HU;rw[h,aA,k,aB]
theorem kG{k:Int}{n:Nat}(h:f ρ=some e)(q:f0 ρ=some (.int k))(B:aD z ρ=some (.lst xs))(F:rG xs.length k=some n):uB z f0 f ρ=some (.nx (ρ.set z (some (.lst (xs.set n e))))):=by
 unfold uB;rw[h,aA,q,aA,show EF (.int k)=some k from rfl,aA,B,aA];show Option.map _ (rG xs.length k)=_;rw[F,aB]
theorem HH{G q B F:D}(h:f ρ=some e)(J:aD z ρ=some (.lst [G,q,B,F]))(hs:ρ.set z (some (.lst [e,q,B,F]))=ρ'):uB z (eC (.int 0)) f ρ=some (.nx ρ'):=by rw[<- hs];exact kG (k:=0) (n:=0) h rfl J rfl
theorem GF{q G B F:D}(h:f ρ=some e)(J:aD z ρ=some (.lst [q,G,B,F]))(hs:ρ.set z (some (.lst [q,e,B,F]))=ρ'):uB z (eC (.int 1)) f ρ=some (.nx ρ'):=by rw[<- hs];exact kG (k:=1) (n:=1) h rfl J rfl
theorem FU{B q G F:D}(h:f ρ=some e)(J:aD z ρ=some (.lst [B,q,G,F]))(hs:ρ.set z (some (.lst [B,q,e,F]))=ρ'):uB z (eC (.int 2)) f ρ=some (.nx ρ'):=by rw[<- hs];exact kG (k:=2) (n:=2) h rfl J rfl
theorem HF{B q F J:D}(h:f ρ=some e)(G:aD z ρ=some (.lst [B,q,F,J]))(hs:ρ.set z (some (.lst [B,q,F,e]))=ρ'):uB z (eC (.int 3)) f ρ=some (.nx ρ'):=by rw[<- hs];exact kG (k:=3) (n:=3) h rfl G rfl
theorem N8(h:f ρ=some d)(k:aD z ρ=some e):R6 z f ρ=some (.rt d e):=by unfold R6;rw[h,aA,k,aB]
theorem J7{q:Qe}(h:q ρ=some (d,e)):MX q ρ=some (.rt d e):=by unfold MX;rw[h,aB]
theorem xD{q:Qe}(h:q ρ=some (d,e))(k:(ρ.set z (some e)).set i (some d)=ρ'):oQ i z q ρ=some (.nx ρ'):=by unfold oQ;rw[h,aB,k]
theorem EQ{F:List D->Option (D×D)}{r:D×D}(h0:f0 ρ=some d)(hs:fs ρ=some es)(q:aD z ρ=some e)(k:F (d::e::es)=some r):cA z F f0 fs ρ=some r:=by unfold cA;rw[h0,aA,hs,aA,q,aA,k]
theorem j9{n:Nat}{q:Qv}{ds:List D}(h:q (aH n ds)=some (.rt d e)):m9 n q ds=some (d,e):=by unfold m9;rw[h,aA]
end
end P
namespace Law
open PySem PySem.Spec PyProof.Rows L2 P
local macro_rules | `(tactic|contradiction) => `(tactic|with_reducible first|apply DO|apply vJ|apply JX|apply cQ|apply xT|apply pV|apply cZ|apply CM|apply LG|apply t5|apply tZ|apply C5|apply OP|apply N4|apply qW|apply MC|apply wZ|apply hZ|apply J8|apply HE|apply mP|apply GU|apply L8|apply IL|apply JH|apply KC|apply O6|apply KJ|apply JT|apply DM|apply mF|apply DY|apply KY|apply vO|apply HH|apply GF|apply FU|apply HF|apply N8|apply J7|apply xD|apply EQ|apply HP)
local macro_rules | `(tactic|ac_rfl) => `(tactic|first
 | (with_reducible first|exact RF|exact LH|exact J6|exact rfl|assumption)
 | ((with_reducible apply LX);exact rfl)
 | ((with_reducible show NK _ _ _=_);(first|((with_reducible apply HP);(with_reducible first|exact rfl|(apply decide_eq_true;assumption)))|((with_reducible apply ND);(with_reducible first|exact rfl|(apply decide_eq_false;assumption)))|((with_reducible apply HP);ac_rfl)|((with_reducible apply ND);ac_rfl));ac_rfl)
 | ((with_reducible show VJ _ _ _=_);dsimp only[VJ])
 | ((fail_if_success contradiction);first|((with_reducible first|apply bX|apply pA|apply q_eqI|apply IV|apply JQ|apply FV|apply qI|apply decide_eq_true|apply decide_eq_false) <;> ac_rfl)|((with_reducible show bF _ _ _ _ _=_);assumption)|exact rfl|exact zax rfl|decide|lia)
 | (contradiction <;> ac_rfl))
local macro_rules | `(tactic|simp_all[$xs,*]) => `(tactic|simp[-TF, -TH, aA, aB, $xs,*])
noncomputable def top(i:Nat):Stmt:=PySem.Challenge.pw_chiefway_k51_readings_carried.main.body.getD i (.Pass ⟨0,0,0,0⟩)
abbrev s_law:Stmt:=top 53
abbrev tb(x:Str)(i:Nat)(ps:List Str):=(x,i,ps)
def tab:List (Str×Nat×List Str):=[tb "_law_names" 37 ["cell", "many"],tb "_law_at" 36 ["script", "k"],tb "_law_roads" 39 ["M", "seats", "script"],tb "_law_seat" 38 ["M", "cell"],tb "_law_make" 40 ["M", "seats", "some", "names", "cell"],tb "_law_book" 41 ["script"],tb "is_whole" 8 ["thing"],tb "wheel" 9 ["thing"],tb "is_name" 24 ["text"],tb "check_kinds" 26 ["kinds"],tb "is_price" 28 ["price"],tb "on" 10 ["M", "n"],tb "roads_of" 27 ["M", "many", "roads"],tb "check_deeds" 32 ["makes"],tb "check_make" 30 ["many", "name", "takes", "gives", "price"],tb "form_of" 14 ["M", "sums"],tb "check_exponents" 13 ["n", "exponents"],tb "form" 12 ["M", "n", "terms"],tb "make_form" 31 ["M", "n", "terms"],tb "makes_of" 29 ["M", "many", "makes"],tb "book" 25 ["M", "kinds", "roads", "makes"],tb "_law_reach" 42 ["many", "roads"],tb "_law_heads" 49 ["script", "many", "names"],tb "_law_way" 45 ["roads", "reach", "j", "k", "cell"],tb "_law_leaf" 46 ["world", "pot", "known", "want", "cell"],tb "_law_grown" 48 ["world", "pot", "known", "want", "deep", "nest"],tb "_law_bound" 47 ["world", "pot", "known", "want", "deep", "nest", "cell"],tb "_law_program" 51 ["script", "M", "roads", "makes", "reach"],tb "first_way" 16 ["book", "j", "k"],tb "carried" 34 ["book", "reading", "j", "k"],tb "_law_due" 52 ["reading", "more"],tb "_law_first" 43 ["roads", "reach", "j", "k"]]
noncomputable def blt:List Str:=["all", "bool", "enumerate", "int", "isinstance", "len", "list", "max", "range", "sorted", "tuple"]
noncomputable def R0:List (Str×Int):=[("MOST_KINDS",6),("MOST_MAKES",16),("MOST_OF_A_DEED",6),("MOST_POWER",2),("MOST_ROADS",12)]
theorem sc_law:FnScope ["script", "M", "kinds", "roads", "makes", "made", "reach", "heads", "j", "part", "reading", "k", "found", "due"] ["script"] (aE s_law):=⟨rfl,rfl,rfl,by decide +kernel,rfl,by decide +kernel,by decide +kernel⟩
structure Txt(K:S9)(mg:Str->Option Value):Prop where
 d:∀p∈tab,My.DefAt K mg p.1 (top p.2.1) p.2.2
 b:∀x∈blt,mg x=none
 g:∀p∈R0,GInt mg p.1 p.2
 g_WORDS:GTup K mg "WORDS" ["let", "in", "pick", "again"]
theorem Txt.n{K:S9}{mg:Str->Option Value}(T:Txt K mg){x:Str}(h:x∈blt:=by decide +kernel):mg x=none:=T.b x h
abbrev Tx(P:TJ)(w:World)(K:S9)(mg:Str->Option Value)(base:Heap):Prop:=Txt K mg
abbrev Zt(x:Str)(ps:List Str)(k n:Nat):Type:={b:Sv // ∀ {P:TJ} {w:World} {K:S9} {mg:Str->Option Value} {base:Heap},Tx P w K mg base->Fn P w K mg base x k ps (bQ n b)}
def iP(N:List Str)(i:Nat){x:Str}{ps:List Str}{k:Nat}{b:Sv}(h:∀ {P:TJ} {w:World} {K:S9} {mg:Str->Option Value} {base:Heap} {F:Addr} {B:Value} {A:TX} {q:List Env} {H:Hp} {E:XK} (T:Tx P w K mg base) (s:S8) (nd:N.Nodup) (G:Room k (A.deeper (UX x (aE (top i)) s.heap.objs.size F B))) (hu:(A.deeper (UX x (aE (top i)) s.heap.objs.size F B)).units+1<cLine),∃g,b7 (iL uD P w K mg base N x (aE (top i)) F B A q s H E).nox ⟨[],[]⟩ [] (a6 (top i)) g []/\g=b)(m:(x,i,ps)∈tab:=by decide +kernel)(sc:FnScope N ps (aE (top i)):=by exact⟨rfl,rfl,rfl,by decide +kernel,rfl,by decide +kernel,by decide +kernel⟩):Zt x ps (k+1) N.length:=⟨b,λT=>IZ (T.d _ m) sc λF B A q s H E G=>h T s sc.nd G (x9 G)⟩
abbrev Zr(x:Str)(ps:List Str)(k n m:Nat):Type:={b:(List D->Option D)->Sv // ∀ {P:TJ} {w:World} {K:S9} {mg:Str->Option Value} {base:Heap},Tx P w K mg base->Fn P w K mg base x (k+m+1) ps (m8 n b m)}
def M6(N:List Str)(i:Nat){x:Str}{ps:List Str}{k m:Nat}{b:(List D->Option D)->Sv}(h:∀ {P:TJ} {w:World} {K:S9} {mg:Str->Option Value} {base:Heap} {fa:Addr} {cdv:Value} {A:TX} {outer:List Env} {H:Hp} {E:XK} (T:Tx P w K mg base) (R:List D->Option D) (j:Nat) (hj:k<=j) (ih:Fn P w K mg base x j ps R) (s:S8) (nd:N.Nodup) (hr:Room j (A.deeper (UX x (aE (top i)) s.heap.objs.size fa cdv))) (hu:(A.deeper (UX x (aE (top i)) s.heap.objs.size fa cdv)).units+1<cLine),∃g,b7 (iL uD P w K mg base N x (aE (top i)) fa cdv A outer s H E).nox ⟨[],[]⟩ [] (a6 (top i)) g []/\g=b R)(me:(x,i,ps)∈tab:=by decide +kernel)(sc:FnScope N ps (aE (top i)):=by exact⟨rfl,rfl,rfl,by decide +kernel,rfl,by decide +kernel,by decide +kernel⟩):Zr x ps k N.length m:=⟨b,λT=>by
 induction m with
 | zero=>exact FR (T.d _ me) sc
 | succ m ih=>exact IZ (T.d _ me) sc λfa cdv A outer s H E hr=>h T _ (k+m+1) (by lia) ih s sc.nd hr (x9 hr)⟩
local macro_rules | `(tactic|exists $x:ident) => `(tactic|(refine' (?f:∀y:(List D -> Option D) -> Sv, Subtype.val $x = y -> (List D -> Option D) -> Sv) _ ?h;(case h => unfold $x;(try unfold M6);(try dsimp only);try exact rfl);(case f => exact λy _ => y)))
local macro_rules | `(tactic|exists $x:ident) => `(tactic|(refine' (?f:∀y:Sv, Subtype.val $x = y -> Sv) _ ?h;(case h => unfold $x;(try unfold iP);(try dsimp only);try exact rfl);(case f => exact λy _ => y)))
theorem Q7{X:Cx}{O:List Nat}{p:Pos}(T:Txt X.K X.mg)(q:Gl X "MOST_KINDS"):PD X O (.Name "MOST_KINDS" p) (eC (.int 6)):=iF (T.g ("MOST_KINDS",6) (by decide +kernel)) q
theorem RG{X:Cx}{O:List Nat}{p:Pos}(T:Txt X.K X.mg)(q:Gl X "MOST_MAKES"):PD X O (.Name "MOST_MAKES" p) (eC (.int 16)):=iF (T.g ("MOST_MAKES",16) (by decide +kernel)) q
theorem RB{X:Cx}{O:List Nat}{p:Pos}(T:Txt X.K X.mg)(q:Gl X "MOST_OF_A_DEED"):PD X O (.Name "MOST_OF_A_DEED" p) (eC (.int 6)):=iF (T.g ("MOST_OF_A_DEED",6) (by decide +kernel)) q
theorem QY{X:Cx}{O:List Nat}{p:Pos}(T:Txt X.K X.mg)(q:Gl X "MOST_POWER"):PD X O (.Name "MOST_POWER" p) (eC (.int 2)):=iF (T.g ("MOST_POWER",2) (by decide +kernel)) q
theorem RH{X:Cx}{O:List Nat}{p:Pos}(T:Txt X.K X.mg)(q:Gl X "MOST_ROADS"):PD X O (.Name "MOST_ROADS" p) (eC (.int 12)):=iF (T.g ("MOST_ROADS",12) (by decide +kernel)) q
theorem gt_0{X:Cx}{O:List Nat}{e:Expr}{f:Ev}{p pos:Pos}(T:Txt X.K X.mg)(q:Gl X "WORDS")(B:PB X O e f):i6 X O (.Compare e [.In] [.Name "WORDS" p] pos) (fW (oY (IB false ["let", "in", "pick", "again"]) f)):=FE T.g_WORDS q B
local macro_rules | `(tactic|trivial) => `(tactic|first
 | (show PB _ _ _ _;first|(apply vB <;> trivial)|(apply PD.b <;> trivial))
 | (show PD _ _ _ _;first|(apply vD <;> trivial)|(apply wE <;> trivial)|((first|apply CW|apply xW|apply SU|apply S2|apply RC|apply wt|apply OX|apply LI|apply RN|apply RS|apply RW|apply ON|apply Q7|apply RG|apply RB|apply QY|apply RH|apply OQ|apply JZ|apply F7|apply SZ|apply L9|apply LC|apply L0|apply AS|apply KO|apply EN|apply E4|apply S3|apply PF.d) <;> trivial))
 | (show pE _ _ _ _;((first|apply iH|apply AK) <;> trivial))
 | (show mU _ _ _ _;((first|apply fE|apply NO) <;> trivial))
 | (show Len _ _;((first|apply l0|apply lc) <;> trivial))
 | (show eI _ _ _;((first|apply j6|apply MR|apply L1|apply E5|apply LY|apply NV|apply OH|apply K4|apply L6|apply SL|apply SW|apply SO) <;> trivial))
 | (show At _ _ _;first|exact at_ 0|exact at_ 1|exact at_ 2|exact at_ 3|exact at_ 4|exact at_ 5|exact at_ 6|exact at_ 7|exact at_ 8|exact at_ 9|exact at_ 10|exact at_ 11|exact at_ 12|exact at_ 13|exact at_ 14|exact at_ 15|exact at_ 16|exact at_ 17|exact at_ 18|exact at_ 19|exact at_ 20)
 | (show i6 _ _ _ _;first|((first|apply gt_0|apply Q5|apply QZ|apply tc|apply zF|apply uF|apply HM) <;> trivial)|(apply PDW.pt <;> trivial)|(apply GQ <;> trivial))
 | (show PDW _ _ _ _;((first|apply HC|apply L4|apply A8|apply GD) <;> trivial))
 | (show JC _ _ _ _;((first|apply BD|apply CJ) <;> trivial))
 | (show PDI _ _ _ _ _;((first|apply uR|apply uV|apply vA|apply AQ|apply BJ) <;> trivial))
 | (show rF _ _ _ _;first|(apply gV <;> trivial)|(apply gu 2 <;> trivial)|(apply gu 5 <;> trivial))
 | (show v5 _ _ _ _;((first|apply AV|apply gc) <;> trivial))
 | (show My.uE _ _ _;((first|apply sQ|apply BL) <;> trivial))
 | (show PF _ _ _ _;((first|apply wl|apply RD|apply S4) <;> trivial))
 | rfl
 | assumption
 | exact Txt.n (by assumption)
 | exact .inl rfl
 | exact .inr rfl
 | exact .inr (.inl rfl)
 | exact .inr (.inr rfl)
 | exact λ_=>rfl
 | exact λ_ _=>rfl
 | (with_unfolding_all rfl)
 | (constructor <;> rfl)
 | exact TR _
 | (refine UY ?_ (by assumption);decide))
seal PD PB PF pE mU i6 PDW PDI JC eJ b7 Fn eI TY UP
def eP:Zt "_law_names" ["cell", "many"] 1 7:=iP ["cell", "many", "letters", "size", "out", "k", "signs"] 37 λT s F B q=>by exact⟨_,(c0 (aO 2) (c0 (aO 3) (cO [4] (dJ 4) (c0 (b8 [4] [] (cO [4,6] (dJ 6 (CU (by trivial) (by trivial))) (cO [4] (tX 6) (cO [4] (c8 (aK (aO 6 (PF.d (CU (by trivial) (by trivial)))))) (aK (pB 4)))))) bC)))),rfl⟩
def i9:Sv:=by exists eP
def dE:=bQ 7 i9
def cK:Zt "_law_at" ["script", "k"] 1 3:=iP ["script", "k", "cell"] 36 λT s F B q=>by exact⟨_,(c0 (c8 bC) (c0 (aO 2) (c0 (c8 (aK (aO 2))) (c0 (aO 2) bC)))),rfl⟩
def hJ:Sv:=by exists cK
def bK:=bQ 3 hJ
def jN:Zt "_law_roads" ["M", "seats", "script"] 2 11:=iP ["M", "seats", "script", "out", "n", "cell", "j", "k", "a", "b", "spot"] 39 λT s F B q=>by have:=fx bK (cK.2 T);exact⟨_,(cO [3] (dJ 3) (c0 (b8 [3] [] (cO [3] (aO 5) (cO [3] (DQ 6 7 (by trivial)) (cO [3] (c8 (cO [3] (aO 7) (aK (aO 6)))) (aK (c8 (cO [3] (aO 8) (cO [3] (aO 9) (aK (pB 3)))))))))) (c0 (aO 10) bC))),rfl⟩
def jK:Sv:=by exists jN
def eO:=bQ 11 jK
def lH:Zt "_law_seat" ["M", "cell"] 1 5:=iP ["M", "cell", "one", "back", "k"] 38 λT s F B q=>by exact⟨_,(c0 (hW (by trivial) (iC (My.iY (n:=2) rfl (by trivial)))) (c0 (b8 [] [] (aK (DQ 2 3 (by trivial)))) (c0 (c8 (aK (DQ 2 3 (by trivial)))) bC))),rfl⟩
def kS:Sv:=by exists lH
def dX:=bQ 5 kS
def lF:Zt "_law_make" ["M", "seats", "some", "names", "cell"] 1 17:=iP ["M", "seats", "some", "names", "cell", "many", "way", "takes", "i", "o", "e", "d", "gives", "one", "back", "t", "rows"] 40 λT s q F B=>by exact⟨_,(c0 (aO 5) (c0 (aO 6) (c0 (aO 2) (c0 (aO 7) (c0 (aO 8) (c0 (aO 9) (c0 (aO 10) (c0 (aO 11) (c0 (aO 12) (c0 (hW (by trivial) (iC (My.iY (n:=3) rfl (nY (λa b=>(l9 a b)) (lQ (j5 (i:=13) q rfl (VD rfl))) (by trivial))))) (c0 (Q0 (c0 (aO 16) (aK (aO 16))) (c0 (aO 16) (c0 (aO 16) (aK (aO 16))))) (c0 (qK 16 s ["es", "c", "one", "M"] [none,none,some 13,some 0]) bC)))))))))))),rfl⟩
def k6:Sv:=by exists lF
def fY:=bQ 17 k6
def kW:Zt "_law_book" ["script"] 3 10:=iP ["script", "M", "many", "seats", "some", "names", "size", "makes", "n", "roads"] 41 λT s F B q=>by have:=fx bK (cK.2 T);have:=fx fY (lF.2 T);have:=fx dE (eP.2 T);have:=fx eO (jN.2 T);have:=fx dX (lH.2 T);exact⟨_,(c0 (aO 1) (c0 (c8 (aK (aO 1))) (c0 (aO 2) (c0 (c8 (aK (aO 2))) (c0 (qK 3 s ["k", "M", "script"] [none,some 1,some 0]) (c0 (qK 4 s ["k", "script", "M"] [none,some 0,some 1]) (c0 (aO 5) (c0 (aO 6) (cO [7] (dJ 7) (c0 (b8 [7] [] (aK (pB 7))) (c0 (aO 9) bC))))))))))),rfl⟩
def k8:Sv:=by exists kW
def fX:=bQ 10 k8
def kQ:Zt "is_whole" ["thing"] 1 1:=iP ["thing"] 8 λT s F B q=>by exact⟨_,bC,rfl⟩
def uP:Sv:=by exists kQ
def uO:=bQ 1 uP
def wX:Zt "wheel" ["thing"] 2 1:=iP ["thing"] 9 λT s F B q=>by have:=fx uO (kQ.2 T);exact⟨_,(c0 b4 (c0 b4 (c0 b4 bC))),rfl⟩
def xJ:Sv:=by exists wX
def xF:=bQ 1 xJ
def iU:Zt "is_name" ["text"] 1 1:=iP ["text"] 24 λT s F B q=>by exact⟨_,(c0 (c8 bC) (bC (cB (DE rfl) T.n My.boot_all (NO (PD.b (PF.d (gK s ["sign"] [none]))) (by trivial))))),rfl⟩
def oN:Sv:=by exists iU
def iS:=bQ 1 oN
def fM:Zt "check_kinds" ["kinds"] 2 3:=iP ["kinds", "number", "kind"] 26 λT s F B q=>by have:=fx iS (iU.2 T);exact⟨_,(c0 b4 (aK (b8 [] [] (c0 b4 (aK b4))))),rfl⟩
def fP:Sv:=by exists fM
def fU:=bQ 3 fP
def f6:Zt "is_price" ["price"] 1 1:=iP ["price"] 28 λT s F B q=>by exact⟨_,bC,rfl⟩
def lE:Sv:=by exists f6
def gD:=bQ 1 lE
def NC:Zt "on" ["M", "n"] 1 2:=iP ["M", "n"] 10 λT s F B q=>by exact⟨_,bC,rfl⟩
def P3:Sv:=by exists NC
def D0:=bQ 2 P3
def lB:Zt "roads_of" ["M", "many", "roads"] 2 9:=iP ["M", "many", "roads", "told", "j", "k", "a", "b", "price"] 27 λT s F B q=>by have:=fx gD (f6.2 T);have:=fx D0 (NC.2 T);exact⟨_,(c0 b4 (cO [3] (dJ 3) (c0 (b8 [3] [] (cO [3] b4 (cO [3] b4 (aK (pB 3))))) bC))),rfl⟩
def lM:Sv:=by exists lB
def kZ:=bQ 9 lM
def fT:Zt "check_deeds" ["makes"] 1 8:=iP ["makes", "counted", "name", "takes", "gives", "terms", "price", "deed"] 32 λT s F B q=>by exact⟨_,(cO [1] (dJ 1 tT) (aK (b8 [1] [] (cO [1] (aO 7) (cO [1] (tX 1) (aK b4)))))),rfl⟩
def fO:Sv:=by exists fT
def fQ:=bQ 8 fO
def gQ:Zt "check_make" ["many", "name", "takes", "gives", "price"] 2 6:=iP ["many", "name", "takes", "gives", "price", "kind"] 30 λT s F B q=>by have:=fx iS (iU.2 T);have:=fx gD (f6.2 T);exact⟨_,(c0 b4 (c0 b4 (c0 (b8 [] [] (aK b4)) (aK b4)))),rfl⟩
def gT:Sv:=by exists gQ
def gU:=bQ 6 gT
def oJ:Zt "form_of" ["M", "sums"] 2 2:=iP ["M", "sums"] 14 λT s F B q=>by have:=fx D0 (NC.2 T);exact⟨_,(bC (NP dR T.n My.boot_tuple (NO (PD.b (PF.d (gK s ["exponents", "c", "M"] [none,none,some 0]))) (by trivial)))),rfl⟩
def nW:Sv:=by exists oJ
def nZ:=bQ 2 nW
def dB:Zt "check_exponents" ["n", "exponents"] 1 3:=iP ["n", "exponents", "exponent"] 13 λT s F B q=>by exact⟨_,(c0 b4 (aK (b8 [] [] (aK b4)))),rfl⟩
def dC:Sv:=by exists dB
def dD:=bQ 3 dC
def DA:Zt "form" ["M", "n", "terms"] 3 6:=iP ["M", "n", "terms", "sums", "exponents", "c"] 12 λT s F B q=>by have:=fx dD (dB.2 T);have:=fx nZ (oJ.2 T);exact⟨_,(c0 b4 (cO [3] (dJ 3 tT) (c0 (b8 [3] [] (cO [3] mG (aK (tX 3)))) bC))),rfl⟩
def CT:Sv:=by exists DA
def C8:=bQ 6 CT
def jT:Zt "make_form" ["M", "n", "terms"] 4 7:=iP ["M", "n", "terms", "told", "e", "exponents", "c"] 31 λT s F B q=>by have:=fx C8 (DA.2 T);exact⟨_,(c0 (FT (λ_ _ z=>z) (aK (aO 3))) (c0 (b8 [] [] (aK b4)) bC)),rfl⟩
def jU:Sv:=by exists jT
def jP:=bQ 7 jU
def lG:Zt "makes_of" ["M", "many", "makes"] 5 9:=iP ["M", "many", "makes", "told", "name", "takes", "gives", "terms", "price"] 29 λT s F B q=>by have:=fx fQ (fT.2 T);have:=fx gU (gQ.2 T);have:=fx jP (jT.2 T);exact⟨_,(c0 b4 (cO [3] (dJ 3) (c0 (b8 [3] [] (cO [3] mG (aK (pB 3)))) (c0 mG bC)))),rfl⟩
def lK:Sv:=by exists lG
def k7:=bQ 9 lK
def DB:Zt "book" ["M", "kinds", "roads", "makes"] 6 4:=iP ["M", "kinds", "roads", "makes"] 25 λT s F B q=>by have:=fx fU (fM.2 T);have:=fx k7 (lG.2 T);have:=fx kZ (lB.2 T);have:=fx xF (wX.2 T);exact⟨_,(c0 mG (c0 mG bC)),rfl⟩
def C4:Sv:=by exists DB
def DC:=bQ 4 C4
def jQ:Zt "_law_reach" ["many", "roads"] 1 7:=iP ["many", "roads", "out", "j", "row", "k", "road"] 42 λT s q F B=>by exact⟨_,(cO [2] (dJ 2) (c0 (b8 [2] [] (cO [2,4] (GE 4 s ["k", "j"] [none,some 3]) (cO [2] (b8 [2,4] [2] (aK (b8 [2,4] [2,4] (aK (c8 (aK (tX 4))))))) (aK (pB 2)))) (by trivial) (lQ (j5 (i:=3) q rfl (VD rfl)))) bC)),rfl⟩
def jD:Sv:=by exists jQ
def jJ:=bQ 7 jD
def jF:Zt "_law_heads" ["script", "many", "names"] 2 4:=iP ["script", "many", "names", "cell"] 49 λT s F B q=>by have:=fx bK (cK.2 T);exact⟨_,(c0 (aO 3) (bC (PF.d (gK s ["k", "names", "cell", "many"] [none,some 2,some 3,some 1])))),rfl⟩
def jS:Sv:=by exists jF
def eM:=bQ 4 jS
def fA:Zt "_law_way" ["roads", "reach", "j", "k", "cell"] 1 7:=iP ["roads", "reach", "j", "k", "cell", "way", "going"] 45 λT s F B q=>by exact⟨_,(c0 (aO 5) (c0 (DW [] [] (c0 (qK 6 s ["r", "roads", "j", "reach", "k"] [none,some 0,some 2,some 1,some 3]) (c0 (aO 5) (c0 (aO 4) (aK (aO 2)))))) bC)),rfl⟩
def oF:Sv:=by exists fA
def dP:=bQ 7 oF
abbrev Fq:=List D->Option (D×D)
def QK(N:List Str)(i:Nat){x:Str}{ps:List Str}{k:Nat}{b:Fq->Fq->Qv}(h:∀ {P:TJ} {w:World} {K:S9} {mg:Str->Option Value} {base:Heap} {J:Addr} {F:Value} {A:TX} {q:List Env} {H:Hp} {E:XK} (T:Tx P w K mg base) (G B:Fq) (j:Nat) (U:k<=j) (ih:FnQ P w K mg base "_law_grown" j ["world", "pot", "known", "want", "deep", "nest"] G) (ib:FnQ P w K mg base "_law_bound" j ["world", "pot", "known", "want", "deep", "nest", "cell"] B) (s:S8) (nd:N.Nodup) (M:Room j (A.deeper (UX x (aE (top i)) s.heap.objs.size J F))) (hu:(A.deeper (UX x (aE (top i)) s.heap.objs.size J F)).units+1<cLine),∃g,IF (iL uD P w K mg base N x (aE (top i)) J F A q s H E).nox 1 (a6 (top i)) g/\g=b G B)(m:(x,i,ps)∈tab:=by decide +kernel)(sc:FnScope N ps (aE (top i)):=by exact⟨rfl,rfl,rfl,by decide +kernel,rfl,by decide +kernel,by decide +kernel⟩):{b:Fq->Fq->Qv // ∀ {P:TJ} {w:World} {K:S9} {mg:Str->Option Value} {base:Heap},Tx P w K mg base->∀(G B:Fq) (j:Nat),k<=j->FnQ P w K mg base "_law_grown" j ["world", "pot", "known", "want", "deep", "nest"] G->FnQ P w K mg base "_law_bound" j ["world", "pot", "known", "want", "deep", "nest", "cell"] B->FnQ P w K mg base x (j+1) ps (m9 N.length (b G B))}:=⟨b,λT G B j U ih ib=>KN (T.d _ m) sc λJ F A q s H E M=>h T G B j U ih ib s sc.nd M (x9 M)⟩
local macro_rules | `(tactic|exists $x:ident) => `(tactic|(refine' (?f:∀y:Fq -> Fq -> Qv, Subtype.val $x = y -> Fq -> Fq -> Qv) _ ?h;(case h => unfold $x;(try unfold QK);(try dsimp only);try exact rfl);(case f => exact λy _ => y)))
def kY:=QK (x := "_law_leaf") (ps:=["world", "pot", "known", "want", "cell"]) (k:=1) ["world", "pot", "known", "want", "cell", "script", "M", "roads", "makes", "reach", "names", "near", "x", "k", "part"] 46 λT G B j J ih ib s M F q=>by have:=fx bK (cK.2 T);have:=fx dP (fA.2 T);exact⟨_,(aM (qX (QJ 6 (pD (gz 5) (pD (gz 6) (pD (gz 7) (pD (gz 8) (pD (gz 9) (pD (gz 10) gX))))))))
 (aM (iD 11 s ["one", "reach", "want"] [none,some 9,some 3])
 (aM (tY (aM (qX (QJ 2 (pD (gz 12) (pD (gz 13) gX)))) (eY iZ)))
 (aM (iD 11 s ["j", "reach", "want"] [none,some 9,some 3])
 (aM (cF 13)
 (aM mI
 (aM (cF 14)
 (eY iZ)))))))),rfl⟩
def jE:Fq->Fq->Qv:=by exists kY
def gA:Qv:=jE (λ_=>none) (λ_=>none)
def cV:Fq:=m9 15 gA
def jH:=QK (x := "_law_bound") (ps:=["world", "pot", "known", "want", "deep", "nest", "cell"]) (k:=2) ["world", "pot", "known", "want", "deep", "nest", "cell", "script", "M", "roads", "makes", "reach", "names", "x", "j", "one", "two", "near", "k", "front", "way"] 47 λT G B j J ih ib s M F q=>by have:=fx bK (cK.2 T);have:=fx dP (fA.2 T);exact⟨_,(aM (qX (QJ 6 (pD (gz 7) (pD (gz 8) (pD (gz 9) (pD (gz 10) (pD (gz 11) (pD (gz 12) gX))))))))
 (aM (cF 13)
 (aM mI
 (aM (tY (aM mI
 (aM (cF 14)
 (aM (kE 15 t9)
 (aM (kE 16 t9)
 (eY iZ))))))
 (aM (iD 17 s ["j", "reach", "want"] [none,some 11,some 3])
 (aM (cF 18)
 (aM (kE 15 t9)
 (aM (kE 16 t9)
 (aM (cF 19)
 (aM (cF 20)
 (eY iZ))))))))))),rfl⟩
def dF:Fq->Fq->Qv:=by exists jH
theorem lf{P:TJ}{w:World}{K:S9}{mg:Str->Option Value}{base:Heap}(T:Tx P w K mg base):FnQ P w K mg base "_law_leaf" 2 ["world", "pot", "known", "want", "cell"] cV:=kY.2 T _ _ 1 (TR _) (gZ (T.d ("_law_grown",48,["world", "pot", "known", "want", "deep", "nest"]) (by decide +kernel)) (N:=["world", "pot", "known", "want", "deep", "nest", "script", "M", "roads", "makes", "reach", "names", "cell", "some", "v", "two", "way", "part", "near", "front", "three"]) ⟨rfl,rfl,rfl,by decide +kernel,rfl,by decide +kernel,by decide +kernel⟩) (gZ (T.d ("_law_bound",47,["world", "pot", "known", "want", "deep", "nest", "cell"]) (by decide +kernel)) (N:=["world", "pot", "known", "want", "deep", "nest", "cell", "script", "M", "roads", "makes", "reach", "names", "x", "j", "one", "two", "near", "k", "front", "way"]) ⟨rfl,rfl,rfl,by decide +kernel,rfl,by decide +kernel,by decide +kernel⟩)
theorem SG:∀j:Nat,([none,some 0,some 1,some 2,some 4,some 5]:List (Option Nat))[j]?=some (some 1)->j=2
 | 0,h=>by cases h
 | 1,h=>by cases h
 | 2,_=>rfl
 | 3,h=>by cases h
 | 4,h=>by cases h
 | 5,h=>by cases h
 | _+6,h=>by cases h
def jI:=QK (x := "_law_grown") (ps:=["world", "pot", "known", "want", "deep", "nest"]) (k:=2) ["world", "pot", "known", "want", "deep", "nest", "script", "M", "roads", "makes", "reach", "names", "cell", "some", "v", "two", "way", "part", "near", "front", "three"] 48 λT G B j J ih ib s M F q=>by have:=fx bK (cK.2 T);have:=fx dP (fA.2 T);have:FnQ _ _ _ _ _ "_law_leaf" 2 ["world", "pot", "known", "want", "cell"] cV:=lf T;exact⟨_,(aM (qX (QJ 6 (pD (gz 6) (pD (gz 7) (pD (gz 8) (pD (gz 9) (pD (gz 10) (pD (gz 11) gX))))))))
 (aM mI
 (aM mI
 (aM (cF 12)
 (aM (iD 13 s ["v", "reach", "makes", "want"] [none,some 10,some 9,some 3])
 (aM (tY (eY (wO t9)))
 (aM (tY (aM (cF 14)
 (aM (wV 15 s ["k", "world", "pot", "known", "deep", "nest"] [none,some 0,some 1,some 2,some 4,some 5] 2 (λ_ _ _ _=>t9) (λ_ _ _ _ _=>gz 0) rfl (λj h=>SG j h))
 (aM (cF 16)
 (aM (cF 17 (wt (AK (by trivial) (AK (by trivial) (AK (NP dR T.n My.boot_tuple (NO (PD.b (PF.d (gK s ["one"] [none]))) fE)) iH))) (lc (lc (lc l0)))))
 (eY (iZ (wt (AK (by trivial) (AK (wt (AK (by trivial) (AK (by trivial) (AK (NP dR T.n My.boot_tuple (NO (PD.b (PF.d (gK s ["one"] [none]))) fE)) (AK (by trivial) iH)))) (lc (lc (lc (lc l0))))) iH)) (lc (lc l0))))))))))
 (aM (tY (eY (wO t9)))
 (aM (iD 18 s ["j", "reach", "want"] [none,some 10,some 3])
 (aM (cF 19)
 (aM (wV 20 s ["k", "world", "pot", "known", "deep", "nest"] [none,some 0,some 1,some 2,some 4,some 5] 2 (λ_ _ _ _=>t9) (λ_ _ _ _ _=>gz 0) rfl (λj h=>SG j h))
 (aM (cF 16)
 (eY (iZ (wt (AK (xW j6 (by trivial) (PD.b (NP dR T.n My.boot_tuple (NO (PD.b (PF.d (gK s ["one"] [none]))) fE)))) (AK (xW j6 (PD.b (xW j6 (by trivial) (PD.b (NP dR T.n My.boot_tuple (NO (PD.b (PF.d (gK s ["one"] [none]))) fE))))) (by trivial)) iH)) (lc (lc l0))))))))))))))))),rfl⟩
def bS:Fq->Fq->Qv:=by exists jI
def GB:Nat->Fq×Fq
 | 0=>(λ_=>none,λ_=>none)
 | n+1=>(m9 21 (bS (GB n).1 (GB n).2),m9 21 (dF (GB n).1 (GB n).2))
theorem DF{P:TJ}{w:World}{K:S9}{mg:Str->Option Value}{base:Heap}(T:Tx P w K mg base):∀n,FnQ P w K mg base "_law_grown" (2+n+1) ["world", "pot", "known", "want", "deep", "nest"] (GB n).1/\FnQ P w K mg base "_law_bound" (2+n+1) ["world", "pot", "known", "want", "deep", "nest", "cell"] (GB n).2
 | 0=>⟨gZ (T.d ("_law_grown",48,["world", "pot", "known", "want", "deep", "nest"]) (by decide +kernel)) (N:=["world", "pot", "known", "want", "deep", "nest", "script", "M", "roads", "makes", "reach", "names", "cell", "some", "v", "two", "way", "part", "near", "front", "three"]) ⟨rfl,rfl,rfl,by decide +kernel,rfl,by decide +kernel,by decide +kernel⟩,gZ (T.d ("_law_bound",47,["world", "pot", "known", "want", "deep", "nest", "cell"]) (by decide +kernel)) (N:=["world", "pot", "known", "want", "deep", "nest", "cell", "script", "M", "roads", "makes", "reach", "names", "x", "j", "one", "two", "near", "k", "front", "way"]) ⟨rfl,rfl,rfl,by decide +kernel,rfl,by decide +kernel,by decide +kernel⟩⟩
 | n+1=>have⟨a,b⟩:=DF T n;⟨jI.2 T _ _ _ (by lia) a b,jH.2 T _ _ _ (by lia) a b⟩
def i8:Fq:=(GB 10).1
theorem pH{P:TJ}{w:World}{K:S9}{mg:Str->Option Value}{base:Heap}(T:Tx P w K mg base):FnQ P w K mg base "_law_grown" 13 ["world", "pot", "known", "want", "deep", "nest"] i8:=(DF T 10).1
def fL:Zt "_law_program" ["script", "M", "roads", "makes", "reach"] 14 11:=iP ["script", "M", "roads", "makes", "reach", "names", "heads", "want", "world", "part", "reading"] 51 λT s F B q=>by have:=fx bK (cK.2 T);have:=fx eM (jF.2 T);have:=fx dE (eP.2 T);exact⟨_,(c0 (aO 5) (c0 (aO 6) (c0 (aO 7) (c0 (aO 8) (c0 (hW (wN (pH T) (by assumption) (by trivial) (by trivial) (by trivial) (by trivial) rfl (by trivial)) (iC (My.iY (n:=2) rfl (by trivial)))) bC))))),rfl⟩
def fS:Sv:=by exists fL
def fN:=bQ 11 fS
def jR:Zt "first_way" ["book", "j", "k"] 1 7:=iP ["book", "j", "k", "firsts", "kind", "number", "road"] 16 λT s F B q=>by exact⟨_,(cO [3] (dJ 3 (yL (by trivial) (by trivial))) (c0 (b8 [3] [] (aK (b8 [3] [3] (aK (c8 (aK (tX 3))))))) bC)),rfl⟩
def jM:Sv:=by exists jR
def eQ:=bQ 7 jM
def nH:Zr "carried" ["book", "reading", "j", "k"] 1 5 3:=M6 ["book", "reading", "j", "k", "last"] 34 λT R j F ih s G B q=>by have:=fx eQ (jR.2 T);exact⟨_,(c0 (aO 4) (c0 (c8 bC) bC)),rfl⟩
def cS:(List D->Option D)->Sv:=by exists nH
def nX:=m8 5 cS 3
def oI:Zr "_law_due" ["reading", "more"] 0 2 3:=M6 ["reading", "more"] 52 λT R j F ih s G B q=>by exact⟨_,(c0 (c8 bC) bC),rfl⟩
def cR:(List D->Option D)->Sv:=by exists oI
def oA:=m8 2 cR 3
def jC:Zt "_law_first" ["roads", "reach", "j", "k"] 1 6:=iP ["roads", "reach", "j", "k", "way", "r"] 43 λT s F B q=>by exact⟨_,(c0 (aO 4) (c0 (DW [] [] (c0 (aO 5) (c0 (DW [] [] (aK (aO 5))) (c0 (aO 4) (aK (aO 2)))))) bC)),rfl⟩
def i7:Sv:=by exists jC
def eK:=bQ 6 i7
def IW:{b:Sv // ∀ {P:TJ} {w:World} {K:S9} {mg:Str->Option Value} {base:Heap},Tx P w K mg base->SR P w K mg base ["script", "M", "kinds", "roads", "makes", "made", "reach", "heads", "j", "part", "reading", "k", "found", "due"] "law" s_law 14 b}:=⟨_,λT G B A q s H E F=>by have M:=x9 F;have J:=sc_law.nd;have:=fx DC (DB.2 T);have:=fx nX (nH.2 T);have:=fx fX (kW.2 T);have:=fx oA (oI.2 T);have:=fx eK (jC.2 T);have:=fx fN (fL.2 T);have:=fx jJ (jQ.2 T);exact⟨_,(c0 (hW (by trivial) (iC (My.iY (n:=4) rfl (by trivial)))) (c0 (aO 5) (c0 (aO 6) (c0 (hW (by trivial) (iC (My.iY (n:=4) rfl (by trivial)))) (c0 (b8 [] [] (aK (c8 (c0 (aO 12) (c0 (aO 13) (aK (c8 bC))))))) bC))))),rfl⟩⟩
def DV:Sv:=by exists IW
def Bd(k:Nat)(x:Int):Prop:=-(10^k)<x/\x<10^k
theorem Bd.mono(h:Bd k x)(l:k<=m):Bd m x:=by
 have:(10:Int)^k<=10^m:=by
  have:=Nat.pow_le_pow_right (show 0<10 by decide) l;exact_mod_cast this
 exact⟨by have:=h.1;lia,by have:=h.2;lia⟩
theorem Bd.mul(h:Bd k x)(g:Bd m y):Bd (k+m) (x*y):=by
 have:=KP h.1 h.2 g.1 g.2;unfold Bd;rw[Int.pow_add];exact this
theorem Bd.add(h:Bd k x)(g:Bd k y):Bd (k+1) (x+y):=by
 have a:=h.1;have b:=h.2;have c:=g.1;have d:=g.2;unfold Bd;rw[Int.pow_succ];constructor <;> lia
theorem Bd.neg(h:Bd k x):Bd k (-x):=⟨by have:=h.2;lia,by have:=h.1;lia⟩
theorem Bd.mulH(h:Bd k x)(g:Bd m y)(q:k<=500)(B:m<=500):cP (.int x) (.int y)=some (.int (x*y)):=by
 have e:(10:Int)^500=10^250*10^250:=by rw[<- Int.pow_add]
 have h':=h.mono q;have g':=g.mono B;unfold Bd at h' g';rw[e]at h' g';exact d9 h'.1 h'.2 g'.1 g'.2
theorem Bd.of(q:M<10^60)(h:0<=x/\x<=M):Bd 60 x:=by
 have:(0:Int)<10^60:=by decide +kernel
 exact⟨by lia,by lia⟩
theorem Bd.mod(h0:0<M)(q:M<10^60):Bd 61 (x%M):=(Bd.of q ⟨T4 x (UV h0),Int.le_of_lt (T5 x h0)⟩).mono (by decide)
theorem cY(ns:List Int):∃f:Int->Int,∀k:Int,0<=k->k<=1000->bK [.lst (ns.map .int),.int k]=some (.int (f k)):=by
 have h:∀k:Int,∃c:Int,0<=k->k<=1000->bK [.lst (ns.map .int),.int k]=some (.int c):=λk=>by
  by_cases h0:0<=k
  ·by_cases h1:k<=1000
   ·by_cases B:k<(ns.length:Int)
    ·obtain⟨c,J,_⟩:=tL h0 B
     exact⟨c,λ_ _=>bB (by simp_all[hJ,aH,B,J])⟩
    ·have N:cP (.int 40692) (.int k)=some (.int (40692*k)):=d9 (by decide +kernel) (by decide +kernel) (by lia) (by lia)
     have U:cP (.int k) (.int k)=some (.int (k*k)):=d9 (by lia) (by lia) (by lia) (by lia);have fin:∀y:Int,-(100000000000)<y->y<100000000000->cP (.int y) (.int 48271)=some (.int (y*48271))/\cP (.int (y*48271%2147483647)) (.int (y*48271%2147483647))=some (.int (y*48271%2147483647*(y*48271%2147483647))):=λy a b=>by
      have c:=T4 (y*48271) (show(2147483647:Int)≠0 by decide);have d:=T5 (y*48271) (show(0:Int)<2147483647 by decide);exact⟨d9 (by lia) (by lia) (by decide +kernel) (by decide +kernel),d9 (by lia) (by lia) (by lia) (by lia)⟩
     by_cases M:(0:Int)<(ns.length:Int)
     ·have q:0<ns.length:=by lia
      obtain⟨c,J,_⟩:=tL (ns:=ns) (k:=k*k%(ns.length:Int)) (T4 _ (UV M)) (T5 _ M);have c0:=T4 c (show(2147483647:Int)≠0 by decide);have W:=T5 c (show(0:Int)<2147483647 by decide);obtain⟨F,G⟩:=fin (40692*k+1+c%2147483647) (by lia) (by lia);exact⟨_,λ_ _=>bB (by simp_all[hJ,aH,B,N,U,q,bX M,J,bX,F,G];rfl)⟩
     ·have q:¬ 0<ns.length:=by lia
      obtain⟨F,G⟩:=fin (40692*k+1) (by lia) (by lia);exact⟨_,λ_ _=>bB (by simp_all[hJ,aH,B,N,q,bX,F,G];rfl)⟩
   ·exact⟨0,λ_ z=>absurd z h1⟩
  ·exact⟨0,λz=>absurd z h0⟩
 exact⟨λk=>(h k).choose,λk=>(h k).choose_spec⟩
theorem GJ{ss:List Str}(h:∀s∈ss,∃n,s=⟨#[n]⟩):(ss.map (·.length)).sum=ss.length:=by
 induction ss with
 | nil=>rfl
 | cons s ss ih=>
  obtain⟨n,rfl⟩:=h s (UL ..);rw[TU,List.sum_cons,ih λt q=>h t (UG _ q),UK];show 1+ss.length=ss.length+1
  lia
noncomputable def sg(S:Str)(i:Int):Nat:=S.cps.toList.getD i.toNat 0
theorem HK(hz:z.length<=1000)(h0:0<=i)(h:i<(z.length:Int)):aI (.str z) (.int i)=some (.str ⟨#[sg z i]⟩):=by
 obtain⟨j,rfl⟩:∃j:Nat,i=(j:Int):=⟨i.toNat,by lia⟩;have q:j<z.cps.toList.length:=by rw[VF];show j<z.length;lia
 have e:dW z.cps.toList (j:Int)=some z.cps.toList[j]:=bZ (by simp_all[q]);have B:sg z (j:Int)=z.cps.toList[j]:=by
  unfold sg;rw[U5,List.getD_eq_getElem?_getD,UU q];rfl
 rw[B];show(if aX z.length then(dW z.cps.toList (j:Int)).map (λc=>D.str ⟨#[c]⟩)else none)=_;rw[if_pos (show aX z.length=true from decide_eq_true (by lia)),e];rfl
theorem join_ones:∀l:List Nat,(Str.join "" (l.map λg=>(⟨#[g]⟩:Str))).cps.toList=l
 | []=>rfl
 | [g]=>rfl
 | g::g'::l=>by
  have ih:=join_ones (g'::l);show((⟨#[g]⟩:Str) ++ "" ++ Str.join "" ((g'::l).map λg=>(⟨#[g]⟩:Str))).cps.toList=_;have e:∀a b:Str,(a++b).cps=a.cps++b.cps:=λ_ _=>rfl
  rw[e,e,Array.toList_append,Array.toList_append,ih];rfl
theorem B1:Txt.join sep ys=Str.join sep ys:=by
 have:=join_closes (sep:=sep) (sep':=sep) (ys:=ys) rfl;simpa using this
theorem BI(l:List Nat):((l.map λg=>(⟨#[g]⟩:Str)).map (·.length)).sum=l.length:=by
 rw[GJ (ss:=l.map λg=>(⟨#[g]⟩:Str)) λs hs=>by obtain⟨g,_,rfl⟩:=List.mem_map.mp hs;exact⟨g,rfl⟩,TL]
noncomputable def low(c:Nat):Bool:=decide (97<=c) && decide (c<=122)
def eW(x:Str):Bool:=decide (1<=x.length) && decide (x.length<=8) && (x.cps.toList.all low) && !((["let", "in", "pick", "again"]:List Str).contains x)
theorem JM(c:Nat):(!decide ((⟨#[c]⟩:Str).cps.toList<("a" : Str).cps.toList))=decide (97<=c)/\(!decide (("z" : Str).cps.toList<(⟨#[c]⟩:Str).cps.toList))=decide (c<=122):=by
 have ea:("a" : Str).cps.toList=[97]:=by decide
 have q:("z" : Str).cps.toList=[122]:=by decide
 have B:(⟨#[c]⟩:Str).cps.toList=[c]:=rfl;rw[ea,q,B];have h1:([c]<[97])↔c<97:=by simp_all[List.cons_lt_cons_iff]
 have h2:([122]<[c])↔122<c:=by simp_all[List.cons_lt_cons_iff]
 constructor
 ·by_cases h:c<97
  ·rw[decide_eq_true (h1.mpr h),decide_eq_false (by lia)];rfl
  ·rw[decide_eq_false (λz=>h (h1.mp z)),decide_eq_true (by lia)];rfl
 ·by_cases h:122<c
  ·rw[decide_eq_true (h2.mpr h),decide_eq_false (by lia)];rfl
  ·rw[decide_eq_false (λz=>h (h2.mp z)),decide_eq_true (by lia)];rfl
theorem sU:∀(cs:List Nat) (o:Option D),bF (aJ 0) mS (d8 uC uC (eC (.str "a")) (aD 0) (eC (.str "z"))) (cs.map λc=>.str ⟨#[c]⟩) [o]=some ((cs.map low).map .bl)
 | [],o=>rfl
 | c::cs,o=>by
  have ih:=sU cs (some (.str ⟨#[c]⟩));obtain⟨G,B⟩:=JM c;have q:uC (.str "a") (.str ⟨#[c]⟩)=some (.bl (decide (97<=c))):=by rw[q_leAS,G]
  have F:uC (.str ⟨#[c]⟩) (.str "z")=some (.bl (decide (c<=122))):=by rw[q_leAS,B]
  by_cases h:97<=c
  ·simp_all[-VQ,-q_leAS,bF,d8,q,F,h,ih,low]
  ·simp_all[-VQ,-q_leAS,bF,d8,q,h,ih,low]
theorem nR(hl:x.length<=1000):iS [.str x]=some (.bl (eW x)):=by
 refine bB ?_;have hz:aX x.length=true:=decide_eq_true (by lia);have le:dS [.str x]=some (.int (x.length:Int)):=if_pos hz;have U:=sU x.cps.toList none;have J:aX (P.signs x).length=true:=by
  have:(P.signs x).length=x.length:=by unfold P.signs;rw[TL,VF];rfl
  rw[this];exact hz
 have Y:(List.map low x.cps.toList).all id=x.cps.toList.all low:=by rw[List.all_map];rfl
 unfold oN eW;by_cases h1:x.length<1
 ·have B:(x.length:Int)<1:=by lia
  have h2:decide (1<=x.length)=false:=decide_eq_false (by lia);rw[h2]
  ac_rfl
 ·have B:¬ (x.length:Int)<1:=by lia
  have h2:decide (1<=x.length)=true:=decide_eq_true (by lia);rw[h2];by_cases h8:8<x.length
  ·have q:(8:Int)<(x.length:Int):=by lia
   have G:decide (x.length<=8)=false:=decide_eq_false (by lia);rw[G]
   ac_rfl
  ·have q:¬ (8:Int)<(x.length:Int):=by lia
   have G:decide (x.length<=8)=true:=decide_eq_true (by lia);rw[G];unfold P.signs at J;by_cases M:x = "let" \/ x = "in" \/ x = "pick" \/ x = "again"
   ·have F:(["let", "in", "pick", "again"]:List Str).contains x=true:=by simpa using M
    rw[F]
    ac_rfl
   ·have F:(["let", "in", "pick", "again"]:List Str).contains x=false:=by simpa using M
    rw[F];have sg:P.signs x=x.cps.toList.map λc=>D.str ⟨#[c]⟩:=rfl
    have W:AE [.lst ((x.cps.toList.map low).map .bl)]=some (.bl (x.cps.toList.all low)):=by rw[q_all,Y]
    have N:aX x.cps.size=true:=hz;simp[-TF,-TH,aA,aB,-VQ,-q_all,aH,le,B,q,M,sg,N,i5,U]at W ⊢
    ac_rfl
theorem IN(h0:0<=i)(h:i<26):aI (.str "abcdefghijklmnopqrstuvwxyz") (.int i)=some (.str ⟨#[97+i.toNat]⟩):=by
 have l:("abcdefghijklmnopqrstuvwxyz" : Str).length=26:=by decide +kernel
 rw[HK (by rw[l];decide) h0 (by rw[l];exact h)];have:∀j:Fin 26,sg "abcdefghijklmnopqrstuvwxyz" (j.val:Int)=97+j.val:=by decide +kernel
 have e:=this ⟨i.toNat,by lia⟩;have q:((i.toNat:Nat):Int)=i:=by lia
 rw[q]at e;rw[e]
noncomputable def iO(c:Int):Int:=if c/26%5=0 then 1 else if c/26%5=4 then 8 else c/26%5+2
def kN(c k:Int):List Nat:=if c/1664%3=0 then UA (1+(c+k)%8).toNat (97+(c%26).toNat)else(UA (iO c).toNat (97+(c%26).toNat)).set (c/130%iO c).toNat (97+((c+1+k)%26).toNat)
def b6(c k:Int):Str:=⟨(kN c k).toArray⟩
theorem yB(c:Int):1<=iO c/\iO c<=8/\iO c≠2:=by
 unfold iO;have:=T4 (c/26) (show(5:Int)≠0 by decide);have:=T5 (c/26) (show(0:Int)<5 by decide);split
 ·lia
 ·split <;> lia
theorem iA(c k:Int):(kN c k).length=(if c/1664%3=0 then(1+(c+k)%8).toNat else(iO c).toNat):=by
 unfold kN;split <;> simp[-TF,-TH,aA,aB]
theorem qN(c k:Int):1<=(b6 c k).length/\(b6 c k).length<=8:=by
 have e:(b6 c k).length=(kN c k).length:=by show(kN c k).toArray.size=_;simp[-TF,-TH,aA,aB]
 have z:=yB c;rw[e,iA];split <;> lia
theorem MO(c k:Int):(b6 c k).cps.toList.all low=true:=by
 show(kN c k).toArray.toList.all low=true;rw[YC];intro x q;have q:x∈kN c k:=by simpa using q
 have a:x=97+(c%26).toNat\/x=97+((c+1+k)%26).toNat:=by
  unfold kN at q;split at q
  ·exact .inl (X0 q)
  ·rcases List.mem_or_eq_of_mem_set q with z|z
   ·exact .inl (X0 z)
   ·exact .inr z
 unfold low;have:97<=x/\x<=122:=by lia
 ac_rfl
theorem ES(c k:Int):∃(a s:Nat),∀i x,i≠s->(kN c k)[i]?=some x->x=a:=by
 unfold kN;split
 ·exact⟨97+(c%26).toNat,100,λi x _ h=>X0 (U9 h)⟩
 ·refine⟨97+(c%26).toNat,(c/130%iO c).toNat,λi x hi h=>?_⟩
  rw[YS (UB hi)]at h;exact X0 (U9 h)
theorem three{a s i j k x y z:Nat}{w:List Nat}(h:∀i x,i≠s->w[i]?=some x->x=a)(G:w[i]?=some x)(B:w[j]?=some y)(hz:w[k]?=some z)(n:i≠j/\i≠k/\j≠k)(m:x≠y/\x≠z/\y≠z):False:=by
 by_cases e:i=s
 ·have p:=h j y (λq=>n.1 (e.trans q.symm)) B
  have q:=h k z (λq=>n.2.1 (e.trans q.symm)) hz;exact m.2.2 (p.trans q.symm)
 ·have p:=h i x e G
  by_cases F:j=s
  ·exact m.2.1 (p.trans (h k z (λq=>n.2.2 (F.trans q.symm)) hz).symm)
  ·exact m.1 (p.trans (h j y F B).symm)
theorem qE{c k:Int}{w:List Nat}(hw:w=[108,101,116]\/w=[112,105,99,107]\/w=[97,103,97,105,110]):kN c k≠w:=by
 rintro rfl;obtain⟨a,s,h⟩:=ES c k;rcases hw with e|e|e <;> rw[e]at h
 ·exact three (i:=0) (j:=1) (k:=2) h rfl rfl rfl (by decide) (by decide)
 ·exact three (i:=0) (j:=1) (k:=2) h rfl rfl rfl (by decide) (by decide)
 ·exact three (i:=0) (j:=1) (k:=3) h rfl rfl rfl (by decide) (by decide)
theorem LF:kN c k≠[105,110]:=by
 intro e;have l:=congrArg V6 e;rw[iA]at l;have z:=yB c;unfold kN at e;split at e
 ·have h0:(105:Nat)∈[105,110]:=by decide
  have h1:(110:Nat)∈[105,110]:=by decide
  rw[<- e]at h0 h1;have:=(X0 h0).trans (X0 h1).symm
  lia
 ·rw[if_neg (by assumption)]at l
  have l:(iO c).toNat=2:=l
  lia
theorem DS(h0:0<=k)(h:k<25):eW (b6 c k)=true:=by
 obtain⟨q,F⟩:=qN c k;have hw:(["let", "in", "pick", "again"]:List Str).contains (b6 c k)=false:=by
  have e:∀s:Str,b6 c k=s->kN c k=s.cps.toList:=λs z=>by rw[<- z];simp_all[b6]
  have G:("let" : Str).cps.toList=[108,101,116]:=by decide
  have J:("in" : Str).cps.toList=[105,110]:=by decide
  have M:("pick" : Str).cps.toList=[112,105,99,107]:=by decide
  have B:("again" : Str).cps.toList=[97,103,97,105,110]:=by decide
  have:¬ (b6 c k = "let" \/ b6 c k = "in" \/ b6 c k = "pick" \/ b6 c k = "again"):=by
   rintro(z|z|z|z)
   ·exact qE (.inl G) (e _ z)
   ·exact LF ((e _ z).trans J)
   ·exact qE (.inr (.inl M)) (e _ z)
   ·exact qE (.inr (.inr B)) (e _ z)
  simpa using this
 unfold eW;rw[hw,MO,decide_eq_true q,decide_eq_true F];rfl
theorem MS(h0:0<=k)(h:k<8)(h2:0<=m)(J:m<8)(e:b6 c k=b6 c m):k=m:=by
 have e:kN c k=kN c m:=by
  have:=congrArg (λs:Str=>s.cps.toList) e;simpa[b6]using this
 have z:=yB c;by_cases q:c/1664%3=0
 ·have l:=congrArg V6 e
  rw[iA,iA,if_pos q,if_pos q]at l
  lia
 ·unfold kN at e
  rw[if_neg q,if_neg q]at e;have B:=T4 (c/130) (show iO c≠0 by lia);have F:=T5 (c/130) (show 0<iO c by lia);have G:=congrArg (λl:List Nat=>l[(c/130%iO c).toNat]?) e;simp[-TF,-TH,aA,aB,List.getElem?_set,show(c/130%iO c).toNat<(iO c).toNat by lia]at G
  lia
theorem lN:∀n:Nat,(UA n [x]).flatten=UA n x
 | 0=>rfl
 | n+1=>by rw[WT,W0,lN n];rfl
theorem KA(l:List Nat)(h:l.length<=100):oS (.str "") (.lst (l.map λg=>.str ⟨#[g]⟩))=some (.str ⟨l.toArray⟩):=by
 have j:=ML (sep := "") (ss:=l.map λg=>(⟨#[g]⟩:Str)) (by
  rw[BI];show l.length+_*0<=_
  lia)
 rw[VQ]at j;refine Eq.trans j ?_;congr 2;rw[B1];have:=join_ones l;cases hs:Str.join "" (l.map λg=>(⟨#[g]⟩:Str))with
 | mk cps=>
  rw[hs]at this;simp only at this;rw[<- this]
theorem A3(h0:0<=i)(h:i<5):dW [D.int 1,.int 3,.int 4,.int 5,.int 8] i=some (.int (if i=0 then 1 else if i=4 then 8 else i+2)):=by
 have:i=0\/i=1\/i=2\/i=3\/i=4:=by lia
 rcases this with rfl|rfl|rfl|rfl|rfl <;> rfl
theorem eN(h0:0<=many)(h:many<=8):dE [.int c,.int many]=some (.lst ((T2 many.toNat).map λ(k:Nat)=>.str (b6 c (k:Int)))):=by
 obtain⟨z1,z2,_⟩:=yB c;have i0:=T4 (c/26) (show(5:Int)≠0 by decide);have i1:=T5 (c/26) (show(0:Int)<5 by decide);have es:=A3 i0 i1;have s0:=T4 (c/130) (show iO c≠0 by lia);have s1:=T5 (c/130) (show 0<iO c by lia);have a0:=T4 c (show(26:Int)≠0 by decide);have a1:=T5 c (show(0:Int)<26 by decide);have z8:aX 8=true:=rfl;have zp:0<iO c:=by lia
 refine bB ?_;unfold i9;rw[aN (bN (d:=.str "abcdefghijklmnopqrstuvwxyz") (by simp[-TF,-TH,aA,aB]))];rw[aN (bN (d:=.int (iO c)) (by simp_all[aH,pA,bX,es,iO,z8]))];rw[aN (bN (d:=.lst []) (by simp[-TF,-TH,aA,aB]))];refine d6 (items:=aG 0 1 many.toNat) (by simp_all[aH,aY h0 (show many<=1000000 by lia)]) (λi ρ=>∃M W,ρ=[some (.int c),some (.int many),some (.str "abcdefghijklmnopqrstuvwxyz"),some (.int (iO c)),some (.lst ((T2 i).map λ(k:Nat)=>.str (b6 c (k:Int)))),M,W]) ⟨none,none,by ac_rfl⟩ ?_ ?_
 ·rintro i x ρ hx ⟨M,W,rfl⟩
  obtain⟨ah,rfl⟩:=aS hx;have hI:(0:Int)+(i:Int)*1=(i:Int):=by lia
  rw[hI];have b0:=T4 (c+1+(i:Int)) (show(26:Int)≠0 by decide);have b1:=T5 (c+1+(i:Int)) (show(0:Int)<26 by decide);have n0:=T4 (c+(i:Int)) (show(8:Int)≠0 by decide);have n1:=T5 (c+(i:Int)) (show(0:Int)<8 by decide);have hz:aX i=true:=decide_eq_true (by lia);have q:aX (iO c).toNat=true:=decide_eq_true (by lia);have U:aX (1+(c+(i:Int))%8).toNat=true:=decide_eq_true (by lia);have B:bT (iO c)=true:=by simp only[bT,UE,decide_eq_true_eq];lia
  have N:bT (1+(c+(i:Int))%8)=true:=by simp only[bT,UE,decide_eq_true_eq];lia
  have Y:=IN a0 a1;have e2:=IN b0 b1;have nl:(kN c (i:Int)).length<=100:=by rw[iA];split <;> lia
  have G:=KA (kN c (i:Int)) nl;have pt:=JV (l:=UA (iO c).toNat (D.str ⟨#[97+(c%26).toNat]⟩)) (k:=c/130%iO c) (e:=.str ⟨#[97+((c+1+(i:Int))%26).toNat]⟩) s0 (by rw[List.length_replicate];lia);refine⟨[some (.int c),some (.int many),some (.str "abcdefghijklmnopqrstuvwxyz"),some (.int (iO c)),some (.lst ((T2 (i+1)).map λ(k:Nat)=>.str (b6 c (k:Int)))),some (.int (i:Int)),some (.lst ((kN c (i:Int)).map λg=>.str ⟨#[g]⟩))],?_,_,_,rfl⟩;have rs:(T2 (i+1)).map (λ(k:Nat)=>D.str (b6 c (k:Int)))=(T2 i).map (λ(k:Nat)=>D.str (b6 c (k:Int)))++[.str (b6 c (i:Int))]:=by rw[List.range_succ,VE];rfl
  rw[rs];by_cases J:c/1664%3=0
  ·have F:kN c (i:Int)=UA (1+(c+(i:Int))%8).toNat (97+(c%26).toNat):=by unfold kN;rw[if_pos J]
   rw[F,List.map_replicate]at G ⊢;have hs:b6 c (i:Int)=⟨(UA (1+(c+(i:Int))%8).toNat (97+(c%26).toNat)).toArray⟩:=by unfold b6;rw[F]
   simp_all[turn,bX,bX zp,pA,Y,e2,lN,q,U,B,N,pt,J,G,hz,hs]
  ·have F:kN c (i:Int)=(UA (iO c).toNat (97+(c%26).toNat)).set (c/130%iO c).toNat (97+((c+1+(i:Int))%26).toNat):=by unfold kN;rw[if_neg J]
   rw[F,List.map_set,List.map_replicate]at G ⊢;have hs:b6 c (i:Int)=⟨((UA (iO c).toNat (97+(c%26).toNat)).set (c/130%iO c).toNat (97+((c+1+(i:Int))%26).toNat)).toArray⟩:=by unfold b6;rw[F]
   simp_all[turn,bX,bX zp,pA,Y,e2,lN,q,B,pt,J,G,hz,hs]
 ·rintro ρ ⟨M,W,rfl⟩
  rw[aP];simp[-TF,-TH,aA,aB]
structure Se where
 (x y z:Int)
noncomputable def mT(s:Se):D:=.tup [.int s.x,.int s.y,.int s.z]
def QC(M:Int)(s:Se):Prop:=(0<=s.x/\s.x<=M)/\(0<=s.y/\s.y<=M)/\0<=s.z/\s.z<=M
def EE(many:Int)(r:Ro):Prop:=(0<=r.j/\r.j<r.k/\r.k<many)/\0<=r.p/\r.p<=10^30/\Bd 61 r.a/\Bd 61 r.b
theorem t4{ss:List Se}{i:Int}(h0:0<=i)(h:i<(ss.length:Int)):∃s∈ss,dW (ss.map mT) i=some (mT s):=by
 obtain⟨d,q,_,e⟩:=mO (l:=ss.map mT) (k:=i) h0 (by rw[TL];exact h);obtain⟨s,hs,rfl⟩:=List.mem_map.mp q;exact⟨s,hs,e⟩
theorem uK{M c:Int}(Y:3<=M)(J:M<10^60):∃s:Se,dX [.int M,.int c]=some (mT s)/\QC M s:=by
 suffices h:∃d,dX [.int M,.int c]=some d/\∃s:Se,d=mT s/\QC M s by
  obtain⟨d,e,s,rfl,h⟩:=h;exact⟨s,e,h⟩
 have G:(10:Int)^60=1000000000000000000000000000000000000000000000000000000000000:=by decide +kernel
 have q:0<M:=by lia
 have B:=T4 c (show(5:Int)≠0 by decide);have U:=T5 c (show(0:Int)<5 by decide);have z0:=T4 (c/10) (UV q);have z1:=T5 (c/10) q;have r1:=aY B (show c%5<=1000000 by lia);refine gI ?_;unfold kS;refine bW (ρ':=[some (.int M),some (.int c),some (.int 1),some (.int 1),none]) (by simp_all[aH,b9]) ?_;refine qU (items:=aG 0 1 (c%5).toNat) (by ac_rfl) (λi ρ=>∃(a b:Int) (o:Option D),ρ=[some (.int M),some (.int c),some (.int a),some (.int b),o]/\(0<=a/\a<M)/\0<=b/\b<M) ⟨1,1,none,rfl,by lia,by lia,by lia⟩ ?_ ?_
 ·rintro i x ρ W ⟨a,b,o,rfl,N,F⟩
  have m1:cP (.int a) (.int 2)=some (.int (a*2)):=d9 (by lia) (by lia) (by decide +kernel) (by decide +kernel);have m2:cP (.int b) (.int ((M+1)/2))=some (.int (b*((M+1)/2))):=d9 (by lia) (by lia) (by lia) (by lia);apply kF
  ·exact mP rfl (by ac_rfl)
  ·exact⟨_,_,_,rfl,⟨T4 _ (UV q),T5 _ q⟩,T4 _ (UV q),T5 _ q⟩
 ·rintro ρ ⟨a,b,o,rfl,N,F⟩
  by_cases h:c/5%2=1
  ·apply mC
   ·ac_rfl
   ·exact⟨⟨M-b,M-a,c/10%M⟩,rfl,show(0<=M-b/\M-b<=M)/\(0<=M-a/\M-a<=M)/\0<=c/10%M/\c/10%M<=M by lia⟩
  ·apply mC
   ·ac_rfl
   ·exact⟨⟨a,b,c/10%M⟩,rfl,show(0<=a/\a<=M)/\(0<=b/\b<=M)/\0<=c/10%M/\c/10%M<=M by lia⟩
theorem vG{B q t:Sv}{ρ ρ1 ρ2 ρ':bJ}{o:Option Out}(h1:B ρ=some (.nx ρ1))(h2:q ρ1=some (.nx ρ2))(e:ρ2=ρ')(h:t ρ'=o):cG B (cG q t) ρ=o:=by rw[aN h1,aN h2,e,h]
theorem rQ{ns:List Int}{M many:Int}{ss:List Se}(h3:3<=M)(F:M<10^60)(hm:1<=many/\many<=6)(hl:(ss.length:Int)=many)(hs:∀s∈ss,QC M s):∃B:List Ro,eO [.int M,.lst (ss.map mT),.lst (ns.map .int)]=some (.lst (B.map bA))/\B.length<=12/\∀r∈B,EE many r:=by
 suffices h:∃d,eO [.int M,.lst (ss.map mT),.lst (ns.map .int)]=some d/\∃B:List Ro,d=.lst (B.map bA)/\B.length<=12/\∀r∈B,EE many r by
  obtain⟨d,e,B,rfl,h⟩:=h;exact⟨B,e,h⟩
 have Mp:0<M:=by lia
 obtain⟨f,hf⟩:=cY ns;have f3:=hf 3 (by decide) (by decide);have ac:∀ {B:List Ro} {r:Ro},(∀r∈B,EE many r)->EE many r->∀q∈B++[r],EE many q:=λh k q hq=>by
  rcases List.mem_append.mp hq with z|z
  ·exact h q z
  ·rw[List.mem_singleton.mp z];exact k
 have el:dS [.lst (ss.map mT)]=some (.int many):=by rw[q_lenL,TL,hl]
 have pw:v6 (.int 10) (.int 30)=some (.int 1000000000000000000000000000000):=tW (by decide) (by decide) (by decide);have r8:bH [.int 8]=some (aG 0 1 8):=aY (by decide) (by decide);refine gI ?_;unfold jK;refine bW (ρ':=VJ _ 3 (some (.lst []))) (by ac_rfl) ?_;refine qU (items:=aG 0 1 8) (by ac_rfl) (λi ρ=>∃(B:List Ro) (o4 o5 W o7 N U:Option D),ρ=[some (.int M),some (.lst (ss.map mT)),some (.lst (ns.map .int)),some (.lst (B.map bA)),o4,o5,W,o7,N,U,none]/\B.length<=i/\∀r∈B,EE many r) ⟨[],none,none,none,none,none,none,rfl,TR _,λ_ h=>nomatch h⟩ ?_ ?_
 ·rintro i x ρ hx ⟨B,o4,o5,W,o7,N,U,rfl,hr,G⟩
  obtain⟨ax,rfl⟩:=aS hx;have hI:0<=(0:Int)+(i:Int)*1/\(0:Int)+(i:Int)*1<8:=by lia
  generalize (0:Int)+(i:Int)*1=I at hI;have fI:=hf (10+I) (by lia) (by lia);generalize f (10+I)=c at fI;have hz:(B.map bA).length<=1000000:=by rw[TL];lia
  have c0:=T4 c (show(5:Int)≠0 by decide);have c1:=T5 c (show(0:Int)<5 by decide);have kp:0<1+c%5:=by lia
  have j0:=T4 (c/5) (UV kp);have j1:=T5 (c/5) kp;obtain⟨j,k,J,ej⟩:∃j k:Int,(0<=j/\j<k)/\∀ {t:Sv} {o:Option Out},t [some (.int M),some (.lst (ss.map mT)),some (.lst (ns.map .int)),some (.lst (B.map bA)),some (.int I),some (.int c),some (.int j),some (.int k),N,U,none]=o->cG (HS 6 7 (aQ (aD 4) (aQ (a8 bD (aD 4) (eC (.int 1))) cN))) (cG (ED (NI (fW (a8 M3 (aD 4) (eC (.int 5)))) (fW (a8 pF (a8 eG (bG bK (aQ (aD 2) (aQ (eC (.int 3)) cN))) (eC (.int 3))) (eC (.int 2))))) (cG (dM 7 (a8 bD (eC (.int 1)) (a8 eG (aD 5) (eC (.int 5))))) (dM 6 (a8 eG (a8 vX (aD 5) (eC (.int 5))) (aD 7)))) JA) t) [some (.int M),some (.lst (ss.map mT)),some (.lst (ns.map .int)),some (.lst (B.map bA)),some (.int I),some (.int c),W,o7,N,U,none]=o:=by
   by_cases h5:5<=I
   ·exact⟨c/5%(1+c%5),1+c%5,⟨j0,j1⟩,λh=>by apply vG;(· ac_rfl);(· ac_rfl);(· rfl);exact h⟩
   ·by_cases h:f 3%3=2
    ·exact⟨c/5%(1+c%5),1+c%5,⟨j0,j1⟩,λh=>by apply vG;(· ac_rfl);(· ac_rfl);(· rfl);exact h⟩
    ·exact⟨I,I+1,by lia,λh=>by apply vG;(· ac_rfl);(· ac_rfl);(· rfl);exact h⟩
  by_cases hk:k<many
  ·obtain⟨⟨X,Y,Z⟩,sm,es⟩:=t4 (ss:=ss) (i:=k) (by lia) (by lia)
   obtain⟨⟨x,y,z⟩,tm,et⟩:=t4 (ss:=ss) (i:=j) (by lia) (by lia);have ay:dW (ss.map mT) k=some (.tup [.int X,.int Y,.int Z]):=es;have ao:dW (ss.map mT) j=some (.tup [.int x,.int y,.int z]):=et;obtain⟨a1,a2,a3⟩:=hs _ sm;obtain⟨b1,b2,b3⟩:=hs _ tm;have m1:=(show Bd 60 X from Bd.of F a1).mulH (show Bd 60 y from Bd.of F b2) (by decide) (by decide);have m2:=(Bd.mod (x:=X*y) Mp F).mulH (show Bd 60 z from Bd.of F b3) (by decide) (by decide);have w0:=T4 (c/25) (show(1000000000000000000000000000000:Int)≠0 by decide);have w1:=T5 (c/25) (show(0:Int)<1000000000000000000000000000000 by decide);apply kF
   ·apply mP;(· rfl);apply vJ;(· ac_rfl);apply DO;refine ej ?_;ac_rfl
   ·exact⟨B++[⟨j,k,X*y%M,(Z-X*y%M*z)%M,c/25%1000000000000000000000000000000⟩],_,_,_,_,_,_,by rw[VE];rfl,by simp[-TF,-TH,aA,aB];lia,ac G ⟨⟨J.1,J.2,hk⟩,w0,show c/25%1000000000000000000000000000000<=(10:Int)^30 by lia,Bd.mod Mp F,Bd.mod Mp F⟩⟩
  ·apply kF
   ·apply mP;(· rfl);apply vJ;(· ac_rfl);apply DO;refine ej ?_;ac_rfl
   ·exact⟨B,_,_,_,_,_,_,rfl,by lia,G⟩
 ·rintro ρ ⟨B,o4,o5,W,o7,N,U,rfl,hr,G⟩
  rw[aP]at hr;have ln:(B.map bA).length=B.length:=TL ..;have lp:(0:Int)<((B.map bA).length:Int)+1:=by lia
  have w0:=T4 (f 3/3) (UV lp);have w1:=T5 (f 3/3) lp;refine bW (by ac_rfl) ?_;generalize f 3/3%(((B.map bA).length:Int)+1)=sp at w0 w1;obtain⟨c1,c2⟩:=iV (w:=B.map bA) (c:=sp) w0 (by lia);refine⟨.lst ((B.drop sp.toNat++B.take sp.toNat).map bA),?_,_,rfl,by simp[-TF,-TH,aA,aB];lia,λr h=>?_⟩
  ·have d1:fJ (.lst (B.map bA)) (some sp) none=some (.lst ((B.map bA).drop sp.toNat)):=by rw[q_slL,c2]
   have d2:fJ (.lst (B.map bA)) none (some sp)=some (.lst ((B.map bA).take sp.toNat)):=by rw[q_slL,c1]
   have hz:((B.map bA).drop sp.toNat).length+((B.map bA).take sp.toNat).length<=1000000:=by simp[-TF,-TH,aA,aB];lia
   rw[VE,List.map_drop,List.map_take]
   ac_rfl
  ·rcases List.mem_append.mp h with z|z
   ·exact G r (List.mem_of_mem_drop z)
   ·exact G r (List.mem_of_mem_take z)
def R4(n:Nat)(t:My.Tm):Prop:=t.1.length=n/\(∀e∈t.1,0<=e/\e<=2)/\Bd 61 t.2
structure Mk where
 nm:Str
 tk:List Int
 gv:Int
 ts:List My.Tm
 p:Int
def eB(m:Mk):D:=.tup [.str m.nm,tupI m.tk,.int m.gv,.lst (m.ts.map j3),.int m.p]
structure OkM(many:Int)(n:Nat)(m:Mk):Prop where
 nm:eW m.nm=true
 nl:m.nm.length<=8
 tk:(∃t,m.tk=[t])\/∃t u,m.tk=[t,u]
 tb:∀t∈m.tk,0<=t/\t<many
 gv:0<=m.gv/\m.gv<many
 tl:m.ts.length<=n
 tt:∀t∈m.ts,R4 m.tk.length t
 pr:0<=m.p/\m.p<=10^30
theorem PZ{q:Type}{P:q->Prop}{l:List q}{x:q}(h:∀y∈l,P y)(k:P x):∀y∈l++[x],P y:=λy B=>by
 rcases List.mem_append.mp B with z|z
 ·exact h y z
 ·rw[List.mem_singleton.mp z];exact k
theorem lO{M x:Int}(B:0<M):∀(ts:List My.Tm) (o1 o2:Option D),(∀t∈ts,cP (.int x) (.int t.2)=some (.int (x*t.2)))->bF (jX 2 (aR (aJ 0) (aR (aJ 1) fV))) mS (nE (aQ (aD 0) (aQ (a8 eG (a8 cP (aD 2) (aD 1)) (aD 3)) cN))) (ts.map j3) [o1,o2,some (.int x),some (.int M)]=some ((ts.map λt=>(t.1,x*t.2%M)).map j3)
 | [],_,_,_=>rfl
 | t::ts,o1,o2,h=>by
  have ih:=lO B ts (some (tupI t.1)) (some (.int t.2)) λu q=>h u (UG _ q)
  have m:=h t (UL ..);exact hZ (ρ':=[some (tupI t.1),some (.int t.2),some (.int x),some (.int M)]) rfl rfl (y:=j3 (t.1,x*t.2%M)) (CM (by ac_rfl)) ih
theorem vE{M many cell:Int}{ss:List Se}{a b c d:Int}{n0 n1:Str}(h3:3<=M)(B:M<10^60)(hm:1<=many/\many<=6)(hl:(ss.length:Int)=many)(hs:∀s∈ss,QC M s)(ak:∀x∈[a,b,c,d],0<=x/\x<=M)(k0:eW n0=true/\n0.length<=8)(k1:eW n1=true/\n1.length<=8) :
  ∃m:Mk,fY [.int M,.lst (ss.map mT),.lst [.int a,.int b,.int c,.int d],.lst [.str n0,.str n1],.int cell]=some (eB m)/\OkM many 7 m:=by
 suffices h:∃dd,fY [.int M,.lst (ss.map mT),.lst [.int a,.int b,.int c,.int d],.lst [.str n0,.str n1],.int cell]=some dd/\∃m:Mk,dd=eB m/\OkM many 7 m by
  obtain⟨dd,e,m,rfl,h⟩:=h;exact⟨m,e,h⟩
 have Mp:0<M:=by lia
 have mp:0<many:=by lia
 have mm:∀x:Int,0<=x%many/\x%many<many:=λx=>⟨T4 x (UV mp),T5 x mp⟩
 have el:dS [.lst (ss.map mT)]=some (.int many):=by rw[q_lenL,TL,hl]
 have pw:v6 (.int 10) (.int 30)=some (.int 1000000000000000000000000000000):=tW (by decide) (by decide) (by decide);have w0:=T4 (cell/1944) (show(1000000000000000000000000000000:Int)≠0 by decide);have w1:=T5 (cell/1944) (show(0:Int)<1000000000000000000000000000000 by decide);have dp:eG (.int (cell/1944)) (.int 1000000000000000000000000000000)=some (.int (cell/1944%1000000000000000000000000000000)):=bX (by decide);generalize cell/1944%1000000000000000000000000000000=pr at w0 w1 dp;have pb:0<=pr/\pr<=10^30:=by lia
 have v0:=T4 (cell/648) (show(3:Int)≠0 by decide);have v1:=T5 (cell/648) (show(0:Int)<3 by decide);have dw:vX (.int (cell/648%3)) (.int 2)=some (.int (cell/648%3/2)):=pA (by decide) (by decide);have hw:cell/648%3/2=0\/cell/648%3/2=1:=by lia
 generalize cell/648%3/2=n at dw hw;obtain⟨nm,an,W⟩:∃nm:Str,dW [D.str n0,.str n1] n=some (.str nm)/\eW nm=true/\nm.length<=8:=by
  rcases hw with rfl|rfl
  ·exact⟨n0,rfl,k0⟩
  ·exact⟨n1,rfl,k1⟩
 obtain⟨a',b',c',d',so,J⟩:∃a' b' c' d':Int,a8 bD (IC fJ (aD 2) (jW (aD 6)) oT) (IC fJ (aD 2) oT (jW (aD 6))) [some (.int M),some (.lst (ss.map mT)),some (.lst [.int a,.int b,.int c,.int d]),some (.lst [.str n0,.str n1]),some (.int cell),some (.int many),some (.int n),none,none,none,none,none,none,none,none,none,none]=some (.lst [.int a',.int b',.int c',.int d'])/\∀x∈[a',b',c',d'],0<=x/\x<=M:=by
  rcases hw with rfl|rfl
  ·exact⟨a,b,c,d,rfl,ak⟩
  ·exact⟨b,c,d,a,rfl,λx hx=>ak x (by simp only[UH,UI,or_false]at hx ⊢;lia)⟩
 have ba:=Bd.of B (J a' (by simp[-TF,-TH,aA,aB]));have bb:=Bd.of B (J b' (by simp[-TF,-TH,aA,aB]));have N:=Bd.of B (J c' (by simp[-TF,-TH,aA,aB]));have U:=Bd.of B (J d' (by simp[-TF,-TH,aA,aB]));have two:Bd 60 2:=⟨by decide +kernel,by decide +kernel⟩;have gb:=mm (cell/108);have dg:eG (.int (cell/108)) (.int many)=some (.int (cell/108%many)):=bX mp;generalize cell/108%many=g at gb dg;have tb:=mm (cell/3);have dt:eG (.int (cell/3)) (.int many)=some (.int (cell/3%many)):=bX mp;generalize cell/3%many=t at tb dt;have ub:=mm (cell/18);have du:eG (.int (cell/18)) (.int many)=some (.int (cell/18%many)):=bX mp;generalize cell/18%many=u at ub du;obtain⟨⟨X,Y,Z⟩,aq,es⟩:=t4 (ss:=ss) (i:=g) gb.1 (by lia);obtain⟨s1,s2,s3⟩:=hs _ aq;have bx:Bd 60 X:=Bd.of B s1;have al:Bd 60 Y:=Bd.of B s2;have bz:Bd 60 Z:=Bd.of B s3;have cq:dW (ss.map mT) g=some (.tup [.int X,.int Y,.int Z]):=es;have v3:=al.mul bz;have m3:=al.mulH bz (by decide) (by decide);have mf:∀ {v:Int},Bd 400 v->cP (.int X) (.int v)=some (.int (X*v)):=λh=>bx.mulH h (by decide) (by decide)
 obtain⟨⟨_,i,z⟩,aw,er⟩:=t4 (ss:=ss) (i:=t) tb.1 (by lia);obtain⟨r1,r2,r3⟩:=hs _ aw;have F:Bd 60 i:=Bd.of B r2;have bw:Bd 60 z:=Bd.of B r3;have G:=F.neg.mul bw;have mo:=F.neg.mulH bw (by decide) (by decide);have cc:dW (ss.map mT) t=some (.tup [.int _,.int i,.int z]):=er;generalize -i*z=o at G mo;refine gI ?_;unfold k6;simp only[aH,TU,WB,UK,WL,Nat.reduceAdd,Nat.reduceSub,UA,List.cons_append,zau];refine bW (cZ (pV (by ac_rfl) el) (by dsimp only[VJ])) (bW (cZ (cQ (by ac_rfl) rfl dw) (by dsimp only[VJ])) (bW (cZ so (by dsimp only[VJ])) ?_));by_cases h0:cell%3=0
 ·have hq:pF (.int (cell%3)) (.int 0)=some (.bl true):=by rw[q_eqI,decide_eq_true h0]
  have n1:=bb.mulH G (by decide) (by decide);have n2:=N.mulH G (by decide) (by decide);have n3:=(N.mul G).mulH G (by decide) (by decide);have n4:=N.mulH F (by decide) (by decide);have n5:=(N.mul F).mulH F (by decide) (by decide);have n6:=bb.mulH F (by decide) (by decide);have n7:=two.mulH N (by decide) (by decide);have n8:=(two.mul N).mulH F (by decide) (by decide);have n9:=((two.mul N).mul F).mulH G (by decide) (by decide);have e1:=mf (((N.mul F).mul F).mono (show 60+60+60<=400 by decide));have e2:=mf ((((bb.mul F).mono (show 60+60<=350 by decide)).add ((((two.mul N).mul F).mul G).mono (show 60+60+60+(60+60)<=350 by decide))).mono (show 350+1<=400 by decide));have e3:=mf (((((ba.mono (show 60<=300 by decide)).add ((bb.mul G).mono (show 60+(60+60)<=300 by decide))).add (((N.mul G).mul G).mono (show 60+(60+60)+(60+60)<=300+1 by decide))).add (v3.mono (show 60+60<=300+1+1 by decide))).mono (show 300+1+1+1<=400 by decide));have cm:=lO (x:=X) Mp [([2],c'*i*i),([1],b'*i+2*c'*i*o),([0],a'+b'*o+c'*o*o+Y*Z)] none none (by simp only[UH,UI,or_false];rintro t (rfl|rfl|rfl) <;> assumption);refine bW (cZ (d:=.tup [.int t]) (t5 (by ac_rfl) rfl (tZ (by ac_rfl)) rfl) (by dsimp only[VJ])) ?_;apply mC
  ·ac_rfl
  ·refine⟨⟨nm,[t],g,_,pr⟩,rfl,W.1,W.2,.inl ⟨t,rfl⟩,λx hx=>by rw[List.mem_singleton.mp hx];exact tb,gb,by simp[-TF,-TH,aA,aB],λq hq=>?_,pb⟩
   simp only[TU,WB,UH,UI,or_false]at hq;rcases hq with rfl|rfl|rfl <;> exact⟨rfl,by simp[-TF,-TH,aA,aB],Bd.mod Mp B⟩
 ·have hq:pF (.int (cell%3)) (.int 0)=some (.bl false):=by rw[q_eqI,decide_eq_false h0]
  obtain⟨⟨_,e,w⟩,ar,eq⟩:=t4 (ss:=ss) (i:=u) ub.1 (by lia);obtain⟨q1,q2,q3⟩:=hs _ ar;have be:Bd 60 e:=Bd.of B q2;have bv:Bd 60 w:=Bd.of B q3;have bp:=be.neg.mul bv;have ap:=be.neg.mulH bv (by decide) (by decide);have ce:dW (ss.map mT) u=some (.tup [.int _,.int e,.int w]):=eq;generalize -e*w=p at bp ap;have n1:=U.mulH F (by decide) (by decide);have n2:=(U.mul F).mulH be (by decide) (by decide);have n3:=bb.mulH G (by decide) (by decide);have n4:=N.mulH bp (by decide) (by decide);have n5:=U.mulH G (by decide) (by decide);have n6:=(U.mul G).mulH bp (by decide) (by decide);have n7:=N.mulH be (by decide) (by decide);have n8:=(U.mul G).mulH be (by decide) (by decide);have n9:=bb.mulH F (by decide) (by decide);have ck:=(U.mul F).mulH bp (by decide) (by decide);have e1:=mf (((U.mul F).mul be).mono (show 60+60+60<=400 by decide));have e2:=mf ((((N.mul be).mono (show 60+60<=350 by decide)).add (((U.mul G).mul be).mono (show 60+(60+60)+60<=350 by decide))).mono (show 350+1<=400 by decide));have e3:=mf ((((bb.mul F).mono (show 60+60<=350 by decide)).add (((U.mul F).mul bp).mono (show 60+60+(60+60)<=350 by decide))).mono (show 350+1<=400 by decide));have e4:=mf ((((ba.mono (show 60<=300 by decide)).add ((bb.mul G).mono (show 60+(60+60)<=300 by decide))).add ((N.mul bp).mono (show 60+(60+60)<=300+1 by decide))).mono (show 300+1+1<=400 by decide));have e5:=mf (((((U.mul G).mul bp).mono (show 60+(60+60)+(60+60)<=350 by decide)).add (v3.mono (show 60+60<=350 by decide))).mono (show 350+1<=400 by decide));have cm:=lO (x:=X) Mp [([1,1],d'*i*e),([0,1],c'*e+d'*o*e),([1,0],b'*i+d'*i*p),([0,0],a'+b'*o+c'*p),([0,0],d'*o*p+Y*Z)] none none (by simp only[UH,UI,or_false];rintro t (rfl|rfl|rfl|rfl|rfl) <;> assumption);refine bW (cZ (d:=.tup [.int t,.int u]) (t5 (by ac_rfl) rfl (tZ (by ac_rfl)) rfl) (by dsimp only[VJ])) ?_;apply mC
  ·ac_rfl
  ·refine⟨⟨nm,[t,u],g,_,pr⟩,rfl,W.1,W.2,.inr ⟨t,u,rfl⟩,λx hx=>by simp only[UH,UI,or_false]at hx;rcases hx with rfl|rfl <;> assumption,gb,by simp[-TF,-TH,aA,aB],λq hq=>?_,pb⟩
   simp only[TU,WB,UH,UI,or_false]at hq;rcases hq with rfl|rfl|rfl|rfl|rfl <;> exact⟨rfl,by simp[-TF,-TH,aA,aB],Bd.mod Mp B⟩
def bO(c:Int)(n:Nat):List D:=(T2 n).map λ(k:Nat)=>.str (b6 c (k:Int))
theorem eT(c:Int)(n:Nat):(bO c n).length=n:=by simp_all[bO]
theorem uW(lo c:Int)(n:Nat):aG lo c n=((T2 n).map λ(i:Nat)=>lo+(i:Int)*c).map .int:=by unfold aG;rw[VQ];rfl
theorem k9{M:Int}(F:3<=M)(q:M<10^60){ns:List Int}{f:Int->Int}(G:∀k:Int,0<=k->k<=1000->bK [.lst (ns.map .int),.int k]=some (.int (f k))):∀(l:List Int) (o:Option D),(∀k∈l,0<=k/\k<=100)->∃ss:List Se,bF (aJ 0) mS (bG dX (aQ (aD 1) (aQ (bG bK (aQ (aD 2) (aQ (a8 bD (eC (.int 4)) (aD 0)) cN))) cN))) (l.map .int) [o,some (.int M),some (.lst (ns.map .int))]=some (ss.map mT)/\ss.length=l.length/\∀s∈ss,QC M s
 | [],_,_=>⟨[],rfl,rfl,λ_ h=>nomatch h⟩
 | k::l,o,h=>by
  obtain⟨ss,e,J,hs⟩:=k9 F q G l (some (.int k)) λx B=>h x (UG _ B)
  have N:=h k (UL ..);have U:=G (4+k) (by lia) (by lia);obtain⟨s,es,ok⟩:=uK (c:=f (4+k)) F q;refine⟨s::ss,hZ (ρ':=[some (.int k),some (.int M),some (.lst (ns.map .int))]) rfl rfl (by ac_rfl) e,by rw[UK,UK,J],λx B=>?_⟩;rcases List.mem_cons.mp B with z|z
  ·rw[z];exact ok
  ·exact hs x z
theorem uQ(ns:List Int):∃(M c:Int) (n:Nat) (B:List Ro) (ms:List Mk),fX [.lst (ns.map .int)]=some (.tup [.int M,.lst (bO c n),.lst (B.map bA),.lst (ms.map eB)])/\(3<=M/\M<10^60/\M%2=1)/\(1<=n/\n<=6)/\(B.length<=12/\∀r∈B,EE (n:Int) r)/\ms.length<=5/\∀m∈ms,OkM (n:Int) 7 m:=by
 obtain⟨f,q⟩:=cY ns;have f0:=q 0 (by decide) (by decide);have f1:=q 1 (by decide) (by decide);have f2:=q 2 (by decide) (by decide);have f3:=q 3 (by decide) (by decide);have a2:=q 24 (by decide) (by decide);have ay:=q 25 (by decide) (by decide);have ae:=q 26 (by decide) (by decide);have a1:=q 27 (by decide) (by decide);have ar:=q 28 (by decide) (by decide);have ag:=q 30 (by decide) (by decide);have ai:(10:Int)^60=1000000000000000000000000000000000000000000000000000000000000:=by decide +kernel
 have pw:v6 (.int 10) (.int 59)=some (.int 100000000000000000000000000000000000000000000000000000000000):=tW (by decide) (by decide) (by decide +kernel);have x0:=T4 (f 1) (show(100000000000000000000000000000000000000000000000000000000000:Int)≠0 by decide);have x1:=T5 (f 1) (show(0:Int)<100000000000000000000000000000000000000000000000000000000000 by decide);have dx:eG (.int (f 1)) (.int 100000000000000000000000000000000000000000000000000000000000)=some (.int (f 1%100000000000000000000000000000000000000000000000000000000000)):=bX (by decide);generalize f 1%100000000000000000000000000000000000000000000000000000000000=x at x0 x1 dx;have y0:=T4 (f 1) (show(4:Int)≠0 by decide);have y1:=T5 (f 1) (show(0:Int)<4 by decide);have dy:eG (.int (f 1)) (.int 4)=some (.int (f 1%4)):=bX (by decide);generalize f 1%4=y at y0 y1 dy;have m1:cP (.int 2) (.int x)=some (.int (2*x)):=d9 (by decide +kernel) (by decide +kernel) (by lia) (by lia);have m2:cP (.int 2) (.int y)=some (.int (2*y)):=d9 (by decide +kernel) (by decide +kernel) (by lia) (by lia)
 suffices h:∃d,fX [.lst (ns.map .int)]=some d/\∃(M c:Int) (n:Nat) (B:List Ro) (ms:List Mk),d=.tup [.int M,.lst (bO c n),.lst (B.map bA),.lst (ms.map eB)]/\(3<=M/\M<10^60/\M%2=1)/\(1<=n/\n<=6)/\(B.length<=12/\∀r∈B,EE (n:Int) r)/\ms.length<=5/\∀m∈ms,OkM (n:Int) 7 m by
  obtain⟨d,e,M,c,n,B,ms,rfl,h⟩:=h;exact⟨M,c,n,B,ms,e,h⟩
 refine gI ?_;unfold k8;simp only[aH,TU,WB,UK,WL,Nat.reduceAdd,Nat.reduceSub,UA,List.cons_append,zau];refine bW (by ac_rfl) ?_;refine xU (λρ=>∃M:Int,ρ=[some (.lst (ns.map .int)),some (.int M),none,none,none,none,none,none,none,none]/\3<=M/\M<10^60/\M%2=1) ?_ ?_
 ·by_cases h:f 0%4=0
  ·exact⟨_,by ac_rfl,3+2*y,rfl,by lia,by lia,by lia⟩
  ·exact⟨_,by ac_rfl,3+2*x,rfl,by lia,by lia,by lia⟩
 rintro ρ ⟨M,rfl,Y,F,U⟩;have Mp:0<M:=by lia
 have v0:=T4 (f 2) (show(4:Int)≠0 by decide);have v1:=T5 (f 2) (show(0:Int)<4 by decide);refine bW (by ac_rfl) ?_;refine xU (λρ=>∃many:Int,ρ=[some (.lst (ns.map .int)),some (.int M),some (.int many),none,none,none,none,none,none,none]/\1<=many/\many<=6) ?_ ?_
 ·by_cases h:f 2/4%8=1
  ·exact⟨_,by ac_rfl,6,rfl,by decide,by decide⟩
  ·exact⟨_,by ac_rfl,1+f 2%4,rfl,by lia,by lia⟩
 rintro ρ ⟨many,rfl,N,J⟩;have rm:bH [.int many]=some (aG 0 1 many.toNat):=aY (by lia) (by lia);obtain⟨ss,es,hl,hs⟩:=k9 Y F q ((T2 many.toNat).map λ(i:Nat)=>(0:Int)+(i:Int)*1) none (λk hk=>by
  obtain⟨i,hi,rfl⟩:=List.mem_map.mp hk;have:=List.mem_range.mp hi
  lia)
 rw[<- uW]at es;rw[TL,YQ]at hl;have W:(ss.length:Int)=many:=by lia
 have zr:(aG 0 1 many.toNat).length<=1000000:=by rw[aP];lia
 have an:fD [.int 24,.int 28]=some [.int 24,.int 25,.int 26,.int 27]:=oC (by decide) (by decide) (by decide) (by decide);have mb:∀x:Int,0<=x%M/\x%M<=M:=λx=>by
  have:=T4 x (UV Mp);have:=T5 x Mp
  lia
 have nn:=eN (c:=f 28) (many:=2) (by decide) (by decide);have e2:(T2 (2:Int).toNat).map (λ(k:Nat)=>D.str (b6 (f 28) (k:Int)))=[.str (b6 (f 28) 0),.str (b6 (f 28) 1)]:=rfl;rw[e2]at nn;obtain⟨sz,hz,dz⟩:∃sz:Int,(0<=sz/\sz<=5)/\∀ {o3 o4 o5:Option D},a8 eG (a8 vX (bG bK (aQ (aD 0) (aQ (eC (.int 3)) cN))) (eC (.int 30))) (a8 aI (uA (aQ (eC (.int 6)) (aQ (eC (.int 3)) cN))) (bG AH (aQ (a8 D9 (aD 2) (eC (.int 4))) cN))) [some (.lst (ns.map .int)),some (.int M),some (.int many),o3,o4,o5,none,none,none,none]=some (.int sz):=by
  have s0:=T4 (f 3/30) (show(6:Int)≠0 by decide);have s1:=T5 (f 3/30) (show(0:Int)<6 by decide);have t0:=T4 (f 3/30) (show(3:Int)≠0 by decide);have t1:=T5 (f 3/30) (show(0:Int)<3 by decide);by_cases h:4<many
  ·have hg:D9 (.int many) (.int 4)=some (.bl true):=congrArg (λb=>some (D.bl b)) (decide_eq_true h)
   have it:aI (.lst [.int 6,.int 3]) (.int (if true=true then 1 else 0))=some (.int 3):=rfl;exact⟨f 3/30%3,by lia,by intros;ac_rfl⟩
  ·have hg:D9 (.int many) (.int 4)=some (.bl false):=congrArg (λb=>some (D.bl b)) (decide_eq_false h)
   have it:aI (.lst [.int 6,.int 3]) (.int (if false=true then 1 else 0))=some (.int 6):=rfl;exact⟨f 3/30%6,by lia,by intros;ac_rfl⟩
 have rz:bH [.int sz]=some (aG 0 1 sz.toNat):=aY (by lia) (by lia);refine bW (by ac_rfl) (bW (by ac_rfl) (bW (by ac_rfl) (bW (cZ dz (by dsimp only[VJ])) (bW (ρ':=[some (.lst (ns.map .int)),some (.int M),some (.int many),some (.lst (ss.map mT)),some (.lst [.int (f 24%M),.int (f 25%M),.int (f 26%M),.int (f 27%M)]),some (.lst [.str (b6 (f 28) 0),.str (b6 (f 28) 1)]),some (.int sz),some (.lst []),none,none]) (by ac_rfl) ?_))));refine qU (items:=aG 0 1 sz.toNat) (by ac_rfl) (λi ρ=>∃(ms:List Mk) (o:Option D),ρ=[some (.lst (ns.map .int)),some (.int M),some (.int many),some (.lst (ss.map mT)),some (.lst [.int (f 24%M),.int (f 25%M),.int (f 26%M),.int (f 27%M)]),some (.lst [.str (b6 (f 28) 0),.str (b6 (f 28) 1)]),some (.int sz),some (.lst (ms.map eB)),o,none]/\ms.length=i/\∀m∈ms,OkM many 7 m) ⟨[],none,rfl,rfl,λ_ h=>nomatch h⟩ ?_ ?_
 ·rintro i x ρ hx ⟨ms,o,rfl,hi,G⟩
  obtain⟨aq,rfl⟩:=aS hx;have hI:0<=(0:Int)+(i:Int)*1/\(0:Int)+(i:Int)*1<=5:=by lia
  generalize (0:Int)+(i:Int)*1=I at hI;have fI:=q (19+I) (by lia) (by lia);obtain⟨m,em,aa⟩:=vE (cell:=f (19+I)) (a:=f 24%M) (b:=f 25%M) (c:=f 26%M) (d:=f 27%M) (n0:=b6 (f 28) 0) (n1:=b6 (f 28) 1) Y F ⟨N,J⟩ W hs (by simp only[UH,UI,or_false];rintro x (rfl|rfl|rfl|rfl) <;> exact mb _) ⟨DS (by decide) (by decide),(qN _ _).2⟩ ⟨DS (by decide) (by decide),(qN _ _).2⟩;have lz:(ms.map eB).length<=1000000:=by rw[TL];lia
  apply kF
  ·exact mP rfl (by ac_rfl)
  ·exact⟨ms++[m],_,by rw[VE];rfl,by simp_all[hi],PZ G aa⟩
 ·rintro ρ ⟨ms,o,rfl,hi,G⟩
  rw[aP]at hi;obtain⟨B,er,hr,ab⟩:=rQ (ns:=ns) Y F ⟨N,J⟩ W hs;have en:=eN (c:=f 30) (many:=many) (by lia) (by lia);have ec:((many.toNat:Nat):Int)=many:=by lia
  apply mC
  ·ac_rfl
  ·exact⟨M,f 30,many.toNat,B,ms,rfl,⟨Y,F,U⟩,by lia,⟨hr,by rw[ec];exact ab⟩,by lia,by rw[ec];exact G⟩
theorem kL(h:∃ρ,f (aH n ds)=some (.nx ρ)):bQ n f ds=some .non:=by
 obtain⟨ρ,e⟩:=h;exact LN e
theorem vK(q:f ρ=some items)(I:Nat->bJ->Prop)(h0:I 0 ρ)(hs:∀i x ρ,items[i]?=some x->I i ρ->∃ρ',turn g b x ρ=some (.nx ρ')/\I (i+1) ρ'):∃ρ',nC f g b ρ=some (.nx ρ'):=by
 obtain⟨ρ',e,_⟩:=gE (g:=g) (b:=b) I h0 hs;exact⟨ρ',by rw[q_for,q,aA];exact e⟩
theorem zM{f:Lv}{g:Gv}{b rest:Sv}{ρ:bJ}{items:List D}(B:f ρ=some items)(I:Nat->bJ->Prop)(h0:I 0 ρ)(hs:∀i x ρ,items[i]?=some x->I i ρ->∃ρ',turn g b x ρ=some (.nx ρ')/\I (i+1) ρ')(k:∀ρ',I items.length ρ'->∃q,rest ρ'=some (.nx q)):∃ρ',cG (nC f g b) rest ρ=some (.nx ρ'):=by
 obtain⟨ρ',e,i⟩:=gE (g:=g) (b:=b) I h0 hs;obtain⟨q,F⟩:=k ρ' i;exact⟨q,by rw[aN (ρ':=ρ') (by rw[q_for,B,aA];exact e)];exact F⟩
theorem FZ(B:3<=M)(q:M<10^60)(F:M%2=1):xF [.int M]=some (.int M):=by
 refine bB ?_;have pw:v6 (.int 10) (.int 60)=some (.int (10^60)):=tW (by decide) (by decide) (by decide +kernel);have a:¬ M<3:=by lia
 have b:¬ 10^60<M:=by lia
 unfold xJ;simp only[Int.reducePow]at pw b
 ac_rfl
theorem lA(h0:0<=p)(h:p<=10^30):gD [.int p]=some (.bl true):=by
 refine bB ?_;have pw:v6 (.int 10) (.int 30)=some (.int (10^30)):=tW (by decide) (by decide) (by decide +kernel);simp only[Int.reducePow]at pw h;simp_all[lE,aH,d8,pw,h0,h]
theorem M8(h:0<M):D0 [.int M,.int n]=some (.int (n%M)):=by
 refine bB ?_;simp_all[P3,aH,bX h]
open Classical in
theorem sY(x:Str):∀l:List Str,(l.map D.str).any (λd=>decide (d=.str x))=l.contains x
 | []=>rfl
 | y::l=>by
  rw[TU,VO,sY x l,List.contains_cons];congr 1;by_cases h:y=x
  ·subst h;simp[-TF,-TH,aA,aB]
  ·have h2:¬ x=y:=λz=>h z.symm
   have q:¬ D.str y=D.str x:=λz=>h (by injection z)
   rw[decide_eq_false q]
   ac_rfl
theorem all_strs:∀l:List Str,(l.map D.str).all gN=true
 | []=>rfl
 | _::l=>by rw[TU,XC,all_strs l];rfl
theorem FM(x:Str)(l:List Str):AF (.str x) (.lst (l.map D.str))=some (.bl (l.contains x)):=by
 show QM (.str x) (.lst (l.map D.str))=_;unfold QM vZ;dsimp only;rw[if_pos ⟨rfl,all_strs l⟩,sY];rfl
def D7(c:Int)(n:Nat):List Str:=(T2 n).map λ(k:Nat)=>b6 c (k:Int)
theorem MP(c:Int)(n:Nat):bO c n=(D7 c n).map D.str:=by unfold bO D7;rw[VQ];rfl
theorem m7(h1:1<=n)(h6:n<=6):fU [.lst (bO c n)]=some .non:=by
 refine kL ?_;unfold fP;have hz:aX n=true:=decide_eq_true (by lia);have a:¬ (n:Int)<1:=by lia
 have b:¬ 6<(n:Int):=by lia
 rw[aN (ρ':=aH 3 [.lst (bO c n)]) (by simp_all[aH,eT,a,b])];refine vK (items:=eE 0 (bO c n)) (by ac_rfl) (λi ρ=>∃F J,ρ=[some (.lst (bO c n)),F,J]) ⟨none,none,rfl⟩ ?_;rintro i x ρ N ⟨F,J,rfl⟩;obtain⟨y,B,rfl⟩:=fB N;have hi:i<n:=by have:=(List.getElem?_eq_some_iff.mp B).1;rw[eT]at this;exact this
 have W:y=.str (b6 c (i:Int)):=by
  unfold bO at B;rw[T6,zar hi]at B;exact(UF B).symm
 subst W;have G:=nR (x:=b6 c (i:Int)) (by have:=(qN c (i:Int)).2;lia);rw[DS (by lia) (by lia)]at G;have ct:=(iV (w:=bO c n) (c:=(i:Int)) (by lia) (by rw[eT];lia)).1;have tk:(bO c n).take i=(D7 c i).map D.str:=by
  rw[<- MP];unfold bO;rw[<- List.map_take,List.take_range,Nat.min_eq_left (by lia)]
 have U:(D7 c i).contains (b6 c (i:Int))=false:=by
  rw[<- YO,List.contains_iff_mem];intro Y;obtain⟨k,M,e⟩:=List.mem_map.mp Y;have M:=List.mem_range.mp M;have:=MS (c:=c) (k:=(k:Int)) (m:=(i:Int)) (by lia) (by lia) (by lia) (by lia) e
  lia
 have q:=FM (b6 c (i:Int)) (D7 c i);rw[U]at q;rw[Nat.zero_add];refine⟨[some (.lst (bO c n)),some (.int (i:Int)),some (.str (b6 c (i:Int)))],?_,_,_,rfl⟩;simp_all[turn,G,ct,tk,q]
noncomputable def red(M:Int)(r:Ro):Ro:=⟨r.j,r.k,r.a%M,r.b%M,r.p⟩
theorem uT{M:Int}{n:Nat}{q:List Ro}(h3:3<=M)(hl:q.length<=12)(hr:∀r∈q,EE (n:Int) r):kZ [.int M,.int (n:Int),.lst (q.map bA)]=some (.tup ((q.map (red M)).map bA)):=by
 have Mp:0<M:=by lia
 have hz:aX q.length=true:=decide_eq_true (by lia);have b:(q.length:Int)<=12:=by lia
 refine bB ?_;unfold lM;rw[aN (ρ':=aH 9 [.int M,.int (n:Int),.lst (q.map bA)]) (by simp_all[aH,b])];rw[aN (bN (d:=.lst []) (by simp[-TF,-TH,aA,aB]))];refine d6 (items:=q.map bA) (by ac_rfl) (λi ρ=>∃U o5 J F G,ρ=[some (.int M),some (.int (n:Int)),some (.lst (q.map bA)),some (.lst (((q.take i).map (red M)).map bA)),U,o5,J,F,G]) ⟨none,none,none,none,none,by ac_rfl⟩ ?_ ?_
 ·rintro i x ρ W ⟨U,o5,J,F,G,rfl⟩
  rw[T6]at W;obtain⟨r,B,rfl⟩:=map_some W;obtain⟨⟨j0,Y,kn⟩,p0,p1,_⟩:=hr r (U9 B);have vp:=lA p0 p1;have hi:i<q.length:=(List.getElem?_eq_some_iff.mp B).1;have N:aX (min i q.length)=true:=decide_eq_true (by lia);refine⟨[some (.int M),some (.int (n:Int)),some (.lst (q.map bA)),some (.lst (((q.take (i+1)).map (red M)).map bA)),some (.int r.j),some (.int r.k),some (.int r.a),some (.int r.b),some (.int r.p)],?_,_,_,_,_,_,rfl⟩;rw[zay,B];simp_all[turn,bA,red,j0,Y,kn,vp,M8 Mp,N,kH]
 ·rintro ρ ⟨U,o5,J,F,G,rfl⟩
  rw[TL,zaz]
  ac_rfl
theorem gO{n:Nat}{k:List Int}(h:k.length=n)(h2:∀e∈k,0<=e/\e<=2):dD [.int (n:Int),tupI k]=some .non:=by
 refine kL ?_;unfold dC;rw[aN (ρ':=aH 3 [.int (n:Int),tupI k]) (by simp_all[aH,tupI,h])];refine vK (items:=k.map .int) (by ac_rfl) (λi ρ=>∃o,ρ=[some (.int (n:Int)),some (tupI k),o]) ⟨none,rfl⟩ ?_;rintro i x ρ q ⟨o,rfl⟩;rw[T6]at q;obtain⟨e,B,rfl⟩:=map_some q;have:=h2 e (U9 B);exact⟨[some (.int (n:Int)),some (tupI k),some (.int e)],by simp_all[turn,show ¬ e<0 by lia,show ¬ 8<e by lia],_,rfl⟩
theorem nV{M:Int}(h0:0<M){ρ1 ρ2:Option D}:∀(qs:List My.Tm) (o1 o2:Option D),bF (jX 2 (aR (aJ 0) (aR (aJ 1) fV))) (fW (a8 AI (bG D0 (aQ (aD 2) (aQ (aD 1) cN))) (eC (.int 0)))) (nE (aQ (aD 0) (aQ (bG D0 (aQ (aD 2) (aQ (aD 1) cN))) cN))) (qs.map j3) [o1,o2,some (.int M)]=some ((My.mQ M qs).map j3)
 | [],o1,o2=>rfl
 | t::qs,o1,o2=>by
  have ih:=nV h0 (ρ1:=ρ1) (ρ2:=ρ2) qs (some (tupI t.1)) (some (.int t.2));rw[TU,bF];by_cases e:t.2%M=0
  ·simp[-TF,-TH,aA,aB,j3,M8 h0,e,My.mQ]at ih ⊢
   exact ih
  ·simp[-TF,-TH,aA,aB,j3,M8 h0,e,My.mQ]at ih ⊢
   rw[ih]
   ac_rfl
theorem y8{q:Type}(l:List (List Int×q)):(bP l).length=l.length:=(cW l).length_eq
theorem zV{M:Int}{cs:List My.Tm}(h0:0<M)(h:cs.length<64):nZ [.int M,.dT (cs.map kD)]=some (.tup ((My.mQ M (bP cs)).map j3)):=by
 refine bB ?_;have e:=nV h0 (ρ1:=none) (ρ2:=none) (bP cs) none none;have hz:aX (bP cs).length=true:=decide_eq_true (by rw[y8];lia);simp_all[nW,aH,uX h,i5,e,hz]
theorem V_form{M:Int}{n:Nat}{ts:List My.Tm}(h0:0<M)(hn:n=1\/n=2)(hl:ts.length<=7)(Y:∀t∈ts,R4 n t):C8 [.int M,.int (n:Int),.lst (ts.map j3)]=some (.tup ((My.mQ M (bP (My.bM ts))).map j3)):=by
 refine bB ?_;unfold CT;rw[aN (ρ':=aH 6 [.int M,.int (n:Int),.lst (ts.map j3)]) (by rcases hn with rfl|rfl <;> simp_all[aH])];rw[aN (ρ':=[some (.int M),some (.int (n:Int)),some (.lst (ts.map j3)),some (.dT []),none,none]) (by ac_rfl)];refine d6 (items:=ts.map j3) (by simp[-TF,-TH,aA,aB]) (λi ρ=>∃F o5,ρ=[some (.int M),some (.int (n:Int)),some (.lst (ts.map j3)),some (.dT ((My.bM (ts.take i)).map kD)),F,o5]) ⟨none,none,rfl⟩ ?_ ?_
 ·rintro i x ρ G ⟨F,o5,rfl⟩
  rw[T6]at G;obtain⟨t,J,rfl⟩:=map_some G;obtain⟨U,W,_⟩:=Y t (U9 J);have es:My.bM (ts.take (i+1))=My.mR (My.bM (ts.take i)) t:=by rw[zay,J];exact My.zG _ _
  have q:(My.bM (ts.take i)).length<=1000000:=by
   have:=(My.lJ (ts.take i)).1;rw[Y0]at this
   lia
  have N:=gO U W;refine⟨[some (.int M),some (.int (n:Int)),some (.lst (ts.map j3)),some (.dT ((My.bM (ts.take (i+1))).map kD)),some (tupI t.1),some (.int t.2)],?_,_,_,rfl⟩;have B:=FX (cs:=My.bM (ts.take i)) t.1 ((My.look (My.bM (ts.take i)) t.1).getD 0+t.2) q;cases e:My.look (My.bM (ts.take i)) t.1 with
  | none=>simp[-TF,-TH,aA,aB,turn,j3,N,e,es,My.mR]at B ⊢;simp_all[B]
  | some v=>simp[-TF,-TH,aA,aB,turn,j3,N,e,es,My.mR]at B ⊢;simp_all[B]
 ·rintro ρ ⟨F,o5,rfl⟩
  have hs:(My.bM ts).length<64:=by have:=(My.lJ ts).1;lia
  rw[TL,zaz];simp_all[zV h0 hs]
theorem xB:∀(k:List Int) (m:Int),(∀e∈k,0<=e/\e<=2)->m<=2->k.foldl (λm y=>if y>m then y else m) m<=2
 | [],m,_,h=>h
 | e::k,m,h,hm=>by
  rw[Y8];refine xB k _ (λx q=>h x (UG _ q)) ?_;have:=(h e (UL ..)).2;split <;> lia
theorem F3(h:∀e∈k,0<=e/\e<=2)(B:d<=2):My.v8 d k<=2:=by
 cases k with
 | nil=>exact B
 | cons e k=>exact xB k e (λx q=>h x (UG _ q)) (h e (UL ..)).2
def NG(M:Int)(ts:List My.Tm):D:=.tup ((My.mQ M (bP (My.bM ts))).map j3)
theorem sA(h0:0<M)(hn:n=1\/n=2)(Y:ts.length<=7)(J:∀t∈ts,R4 n t):jP [.int M,.int (n:Int),.lst (ts.map j3)]=some (NG M ts):=by
 have W:=V_form h0 hn Y J;refine bB ?_;unfold jU;rw[aN (bN (d:=NG M ts) (by simp_all[aH,W,NG]))];refine d6 (items:=ts.map j3) (by ac_rfl) (λi ρ=>∃q o5 B,ρ=[some (.int M),some (.int (n:Int)),some (.lst (ts.map j3)),some (NG M ts),q,o5,B]) ⟨none,none,none,rfl⟩ ?_ ?_
 ·rintro i x ρ F ⟨q,o5,B,rfl⟩
  rw[T6]at F;obtain⟨t,U,rfl⟩:=map_some F;obtain⟨G,N,_⟩:=J t (U9 U);refine⟨[some (.int M),some (.int (n:Int)),some (.lst (ts.map j3)),some (NG M ts),q,some (tupI t.1),some (.int t.2)],?_,_,_,_,rfl⟩;have mx:tV [tupI t.1]=some (.int (My.v8 0 t.1)):=by
   cases hk:t.1 with
   | nil=>rw[hk]at G;simp[-TF,-TH,aA,aB]at G;lia
   | cons e k=>exact q_max1
  have ml:=F3 N (d:=0) (by decide);simp_all[-q_max1,turn,j3,mx,show ¬ 2<My.v8 0 t.1 by lia]
 ·rintro ρ ⟨q,o5,B,rfl⟩
  simp[-TF,-TH,aA,aB]
theorem E6{κ:Type}[DecidableEq κ](l:List (κ×D))(k:κ)(e:D):c9 (putD l k e) k=some e:=by
 unfold c9 putD;split
 ·rename_i h
  induction l with
  | nil=>simp[-TF,-TH,aA,aB]at h
  | cons p l ih=>
   by_cases q:p.1=k
   ·simp_all[q]
   ·rw[VO,decide_eq_false q,Bool.false_or]at h
    rw[TU,if_neg q,List.find?_cons_of_neg (by simpa using q)];exact ih h
 ·rename_i h
  rw[List.find?_append];have:l.find? (λp=>decide (p.1=k))=none:=by
   rw[List.find?_eq_none];intro p q z;exact h (List.any_eq_true.mpr ⟨p,q,z⟩)
  rw[this];simp[-TF,-TH,aA,aB]
theorem FK{κ:Type}[DecidableEq κ]{l:List (κ×D)}{k:κ}{e:D}{P:D->Prop}(h:∀p∈l,P p.2)(F:P e):∀p∈putD l k e,P p.2:=by
 intro p B;unfold putD at B;split at B
 ·obtain⟨q,G,rfl⟩:=List.mem_map.mp B
  split
  ·exact F
  ·exact h q G
 ·rcases List.mem_append.mp B with z|z
  ·exact h p z
  ·rw[List.mem_singleton.mp z];exact F
theorem p7{κ:Type}[DecidableEq κ](l:List (κ×D))(k:κ)(e:D):(putD l k e).length<=l.length+1:=by
 unfold putD;split
 ·rw[TL];lia
 ·rw[VN];simp[-TF,-TH,aA,aB]
theorem G8{κ:Type}[DecidableEq κ]{l:List (κ×D)}{k:κ}(h:c9 l k=some d):∃p∈l,p.2=d:=by
 obtain⟨p,q,e⟩:=map_some h;exact⟨p,List.mem_of_find?_eq_some q,e⟩
def EG(M:Int)(m:Mk):D:=.tup [.str m.nm,tupI m.tk,.int m.gv,NG M m.ts,.int m.p]
theorem m5{M:Int}{ms:List Mk}(hl:ms.length<=5):fQ [.lst (ms.map (EG M))]=some .non:=by
 refine kL ?_;unfold fO;rw[aN (bN (d:=.dT []) (by simp[-TF,-TH,aA,aB]))];refine vK (items:=ms.map (EG M)) (by ac_rfl) (λi ρ=>∃(ys:List (List Key×D)) (o2 o3 W o5 U J:Option D),ρ=[some (.lst (ms.map (EG M))),some (.dT ys),o2,o3,W,o5,U,J]/\ys.length<=i/\∀p∈ys,∃c:Int,p.2=.int c/\c<=(i:Int)) ⟨[],none,none,none,none,none,none,by ac_rfl,TR _,λ_ h=>nomatch h⟩ ?_;rintro i x ρ N ⟨ys,o2,o3,W,o5,U,J,rfl,hy,Y⟩;rw[T6]at N;obtain⟨m,hm,rfl⟩:=map_some N;have hi:i<ms.length:=(List.getElem?_eq_some_iff.mp hm).1;have hz:aX ys.length=true:=decide_eq_true (by lia);have q:IE (.tup [.str m.nm,.int (m.tk.length:Int)])=some [.inr m.nm,.inl (m.tk.length:Int)]:=rfl;generalize hk:([.inr m.nm,.inl (m.tk.length:Int)]:List Key)=k at q;have lk:bU (.dT ys) (.tup [.str m.nm,.int (m.tk.length:Int)])=some (c9 ys k):=by
  show(IE (.tup [.str m.nm,.int (m.tk.length:Int)])).map _=_;rw[q];rfl
 have B:∃c:Int,((c9 ys k).getD (.int 0))=.int c/\c<=(i:Int):=by
  cases hv:c9 ys k with
  | none=>exact⟨0,rfl,by lia⟩
  | some d=>
   obtain⟨p,G,rfl⟩:=G8 hv;exact Y p G
 obtain⟨c,ec,ad⟩:=B;have pt:rB (.dT ys) (.tup [.str m.nm,.int (m.tk.length:Int)]) (.int (c+1))=some (.dT (putD ys k (.int (c+1)))):=by
  unfold _root_.P.rB;dsimp only;rw[q,aA,if_pos hz]
 have F:bU (.dT (putD ys k (.int (c+1)))) (.tup [.str m.nm,.int (m.tk.length:Int)])=some (some (.int (c+1))):=by
  show(IE (.tup [.str m.nm,.int (m.tk.length:Int)])).map _=_;rw[q,aB,E6]
 refine⟨[some (.lst (ms.map (EG M))),some (.dT (putD ys k (.int (c+1)))),some (.str m.nm),some (tupI m.tk),some (.int m.gv),some (NG M m.ts),some (.int m.p),some (.tup [.str m.nm,.int (m.tk.length:Int)])],?_,_,_,_,_,_,_,_,rfl,UY (p7 _ _ _) (by lia),FK (P:=λd=>∃c:Int,d=.int c/\c<=((i+1:Nat):Int)) (λp G=>by obtain⟨c,e,h⟩:=Y p G;exact⟨c,e,by lia⟩) ⟨c+1,rfl,by lia⟩⟩;simp_all[turn,EG,tupI,lk,ec,pt,F,show ¬ 6<c+1 by lia]
theorem pK(ok:OkM (n:Int) 7 m):gU [.int (n:Int),.str m.nm,tupI m.tk,.int m.gv,.int m.p]=some .non:=by
 have G:=nR (x:=m.nm) (by have:=ok.nl;lia);rw[ok.nm]at G;have M:=lA ok.pr.1 ok.pr.2;have hz:aX (m.tk.length+1)=true:=by rcases ok.tk with⟨t,e⟩|⟨t,u,e⟩ <;> rw[e] <;> rfl
 have q:(m.tk.length:Int)=1\/(m.tk.length:Int)=2:=by rcases ok.tk with⟨t,e⟩|⟨t,u,e⟩ <;> rw[e] <;> simp[-TF,-TH,aA,aB]
 refine kL ?_;unfold gT;rw[aN (ρ':=aH 6 [.int (n:Int),.str m.nm,tupI m.tk,.int m.gv,.int m.p]) (by ac_rfl)];rw[aN (ρ':=aH 6 [.int (n:Int),.str m.nm,tupI m.tk,.int m.gv,.int m.p]) (by rcases q with e|e <;> simp_all[aH,tupI,e])];have F:jY (a8 bD (bG oR (aQ (aD 2) cN)) (uA (aQ (aD 3) cN))) (aH 6 [.int (n:Int),.str m.nm,tupI m.tk,.int m.gv,.int m.p])=some ((m.tk++[m.gv]).map .int):=by simp_all[aH,tupI,oR,hz]
 refine zM (items:=(m.tk++[m.gv]).map .int) F (λi ρ=>∃o,ρ=[some (.int (n:Int)),some (.str m.nm),some (tupI m.tk),some (.int m.gv),some (.int m.p),o]) ⟨none,rfl⟩ ?_ ?_
 ·rintro i x ρ B ⟨o,rfl⟩
  rw[T6]at B;obtain⟨e,J,rfl⟩:=map_some B;have b:0<=e/\e<(n:Int):=PZ (P:=λe=>0<=e/\e<(n:Int)) ok.tb ok.gv e (U9 J);exact⟨[some (.int (n:Int)),some (.str m.nm),some (tupI m.tk),some (.int m.gv),some (.int m.p),some (.int e)],by simp_all[turn,d8,b.1,b.2],_,rfl⟩
 ·rintro ρ ⟨o,rfl⟩
  exact⟨[some (.int (n:Int)),some (.str m.nm),some (tupI m.tk),some (.int m.gv),some (.int m.p),o],by ac_rfl⟩
theorem uG{M:Int}{n:Nat}{ms:List Mk}(h3:3<=M)(hl:ms.length<=5)(ho:∀m∈ms,OkM (n:Int) 7 m):k7 [.int M,.int (n:Int),.lst (ms.map eB)]=some (.tup (ms.map (EG M))):=by
 have Mp:0<M:=by lia
 have b:(ms.length:Int)<=16:=by lia
 refine bB ?_;unfold lK;rw[aN (ρ':=aH 9 [.int M,.int (n:Int),.lst (ms.map eB)]) (by simp_all[aH,b])];rw[aN (bN (d:=.lst []) (by simp[-TF,-TH,aA,aB]))];refine d6 (items:=ms.map eB) (by ac_rfl) (λi ρ=>∃J o5 G q B,ρ=[some (.int M),some (.int (n:Int)),some (.lst (ms.map eB)),some (.lst ((ms.take i).map (EG M))),J,o5,G,q,B]) ⟨none,none,none,none,none,by ac_rfl⟩ ?_ ?_
 ·rintro i x ρ U ⟨J,o5,G,q,B,rfl⟩
  rw[T6]at U;obtain⟨m,N,rfl⟩:=map_some U;have ok:=ho m (U9 N);have hi:i<ms.length:=(List.getElem?_eq_some_iff.mp N).1;have F:aX (min i ms.length)=true:=decide_eq_true (by lia);have W:=pK ok;have Y:=sA (M:=M) (n:=m.tk.length) (ts:=m.ts) Mp (by rcases ok.tk with⟨t,e⟩|⟨t,u,e⟩ <;> rw[e] <;> simp[-TF,-TH,aA,aB]) ok.tl ok.tt;refine⟨[some (.int M),some (.int (n:Int)),some (.lst (ms.map eB)),some (.lst ((ms.take (i+1)).map (EG M))),some (.str m.nm),some (tupI m.tk),some (.int m.gv),some (.lst (m.ts.map j3)),some (.int m.p)],?_,_,_,_,_,_,rfl⟩;rw[zay,N];simp only[tupI]at W;simp_all[turn,eB,EG,tupI,W,Y,F,gG]
 ·rintro ρ ⟨J,o5,G,q,B,rfl⟩
  rw[TL,zaz];simp_all[gG,m5 hl]
def EI(M c:Int)(n:Nat)(q:List Ro)(ms:List Mk):D:=.tup [.int M,.tup (bO c n),.tup ((q.map (red M)).map bA),.tup (ms.map (EG M))]
theorem K6{M c:Int}{n:Nat}{B:List Ro}{ms:List Mk}(q:3<=M/\M<10^60/\M%2=1)(J:1<=n/\n<=6)(G:B.length<=12/\∀r∈B,EE (n:Int) r)(U:ms.length<=5)(ho:∀m∈ms,OkM (n:Int) 7 m):DC [.int M,.lst (bO c n),.lst (B.map bA),.lst (ms.map eB)]=some (EI M c n B ms):=by
 have N:=FZ q.1 q.2.1 q.2.2;have Y:=m7 (c:=c) J.1 J.2;have F:=uT q.1 G.1 G.2;have W:=uG q.1 U ho;refine bB ?_;simp[-TF,-TH,aA,aB,C4,aH,N,Y,F,W,eT,gG,EI]at F ⊢
theorem rT(hB:aI bk (.int 2)=some (.tup (rs.map bA)))(g:GR M many rs)(hj:0<=j/\j<=100)(hk:0<=k/\k<=100):∃d,eQ [bk,.int j,.int k]=some d/\((d=.non/\¬ Rch rs j k)\/∃w,d=tupI w/\IsF rs k j w):=by
 refine gI ?_;unfold jM;have e0:(pS (aD 2) (nE cN)) (aH 7 [bk,.int j,.int k])=some (.dK ([(k,[])].map fK)):=by ac_rfl
 rw[aN (bN e0)];have rd:=u9 (a:=k-1) (b:=j-1) (by lia) (by lia) (by lia) (by lia);have J:k-1-(j-1)=k-j:=by lia
 rw[J]at rd;refine qU (items:=aG (k-1) (-1) (k-j).toNat) (by ac_rfl) (λi ρ=>∃ds o4 o5 F,ρ=[some (bk),some (.int j),some (.int k),some (.dK (ds.map fK)),o4,o5,F]/\FI rs k (k-(i:Int)) ds/\ds.length<=1+i*13) ⟨[(k,[])],none,none,none,by ac_rfl,by simpa using FI.start rs k,by simp[-TF,-TH,aA,aB]⟩ ?_ ?_
 ·rintro i x ρ hx ⟨ds,o4,o5,F,rfl,U,hz⟩
  obtain⟨aq,rfl⟩:=aS hx;generalize hc:k-1+(i:Int) * -1=c;have ec:k-(i:Int)=c+1:=by lia
  rw[ec]at U;have inner:=gE (g:=jX 2 (aR (aJ 5) (aR (aJ 6) fV))) (b:=(ED (qZ (fW (a8 pF (a8 aI (aD 6) (eC (.int 0))) (aD 4))) (qZ (fW (a8 AF (a8 aI (aD 6) (eC (.int 1))) (aD 3))) (fW (a8 iE (aD 4) (aD 3))))) (AA 3 (aD 4) (a8 bD (nE (aQ (aD 5) cN)) (a8 aI (aD 3) (a8 aI (aD 6) (eC (.int 1)))))) JA))
   (items:=eE 0 (rs.map bA)) (ρ:=[some (bk),some (.int j),some (.int k),some (.dK (ds.map fK)),some (.int c),o5,F])
   (λt ρ => ∃q W p6, ρ = [some (bk), some (.int j), some (.int k), some (.dK (q.map fK)), some (.int c), W, p6] /\ FJ rs k c t q /\ q.length <= ds.length+t) ⟨ds, o5, F, rfl, U.go, TR _⟩ (by
    rintro t x ρ hx ⟨q,W,p6,rfl,B,G⟩;obtain⟨y,hy,rfl⟩:=fB hx;rw[T6]at hy;obtain⟨r,N,rfl⟩:=map_some hy;have ht:t<rs.length:=(List.getElem?_eq_some_iff.mp N).1;have hr:dA rs (t:Int)=some r:=by unfold dA;rw[if_pos (by lia)];simpa using N
    rw[Nat.zero_add];have lk:=p9 q r.k;have lc:=p9 q c;have i1:AF (.int r.k) (.dK (q.map fK))=some (.bl (aZ q r.k).isSome):=by
     show((bU (.dK (q.map fK)) (.int r.k)).map (·.isSome)).map D.bl=_;rw[lk];cases aZ q r.k <;> rfl
    have i2:iE (.int c) (.dK (q.map fK))=some (.bl (!(aZ q c).isSome)):=by
     show((bU (.dK (q.map fK)) (.int c)).map (·.isSome)).map (λb=>D.bl (!b))=_;rw[lc];cases aZ q c <;> rfl
    by_cases hn:r.j=c/\(aZ q r.k).isSome=true/\aZ q c=none
    ·obtain⟨h1,h2,Y⟩:=hn
     obtain⟨w,hw⟩:=Option.isSome_iff_exists.mp h2;have gl:=vH g (B.it _ _ hw).2.2.way;have it:aI (.dK (q.map fK)) (.int r.k)=some (tupI w):=by
      show(bU (.dK (q.map fK)) (.int r.k)).join=_;rw[lk,hw];rfl
     have ad:=CI (v:=[(t:Int)]) (w:=w) (by simp[-TF,-TH,aA,aB];have:=(B.it _ _ hw).1;have:=(g.jk r (dH hr));lia);have pt:=LJ (ds:=q) (x:=c) (w:=(t:Int)::w) Y (by have:=g.len;lia);refine⟨[some (bk),some (.int j),some (.int k),some (.dK ((q++[(c,(t:Int)::w)]).map fK)),some (.int c),some (.int (t:Int)),some (bA r)],?_,_,_,_,rfl,B.put (by lia) hr h1 hw Y,by simp[-TF,-TH,aA,aB];lia⟩;have tt:D.tup [.int (t:Int)]=tupI [(t:Int)]:=rfl;simp only[List.singleton_append]at ad;simp_all[-VE,turn,NA,HZ,h1,i1,h2,i2,Y,it,tt,ad,pt]
    ·refine⟨[some (bk),some (.int j),some (.int k),some (.dK (q.map fK)),some (.int c),some (.int (t:Int)),some (bA r)],?_,_,_,_,rfl,B.skip g hr hn,by lia⟩
     by_cases h1:r.j=c
     ·by_cases h2:(aZ q r.k).isSome=true
      ·have Y:(aZ q c).isSome=true:=by
        cases e:aZ q c with
        | none=>exact absurd ⟨h1,h2,e⟩ hn
        | some v=>rfl
       ac_rfl
      ·ac_rfl
     ·ac_rfl)
  obtain⟨ρ2,ef,q,W,p6,rfl,B,G⟩:=inner;rw[iR,TL]at B G;refine⟨[some (bk),some (.int j),some (.int k),some (.dK (q.map fK)),some (.int c),W,p6],?_,_,_,_,_,rfl,?_,by have:=g.len;lia⟩
  ·simp_all[turn,hB,ef]
  ·have:=B.done (by lia)
   have e2:k-((i+1:Nat):Int)=c:=by lia
   rw[e2];exact this
 ·rintro ρ' ⟨ds,o4,o5,F,rfl,U,hz⟩
  rw[aP]at U;obtain⟨z1,z2⟩:=U.end g (j:=j) (by lia);have lj:=p9 ds j;cases e:aZ ds j with
  | none=>exact⟨.non,by simp_all[lj,e],.inl ⟨rfl,z2 e⟩⟩
  | some w=>exact⟨tupI w,by simp_all[lj,e],.inr ⟨w,rfl,z1 w e⟩⟩
theorem BK(h:Rch rs j x):x=j\/∃m r,dA rs m=some r/\r.k=x/\Rch rs j r.j:=by
 obtain⟨w,hw⟩:=h;rcases List.eq_nil_or_concat w with rfl|⟨v,m,rfl⟩
 ·exact .inl (UF hw).symm
 ·rw[List.concat_eq_append,iT]at hw
  obtain⟨e,B,hw⟩:=bind_some hw;obtain⟨r,q,hw⟩:=bind_some (show(dA rs m).bind (λr=>if r.j=e then gw rs r.k []else none)=some x from hw);split at hw
  ·rename_i hj
   exact .inr ⟨m,r,q,UF hw,v,by rw[hj];exact B⟩
  ·cases hw
theorem CH(h:Rch rs j r.j)(q:dA rs m=some r):Rch rs j r.k:=by
 obtain⟨w,hw⟩:=h;exact⟨w++[m],G4 hw q rfl⟩
theorem LV{M:Int}{q:List Ro}{i:Nat}{r:Ro}(h:q[i]?=some r):dA (q.map (red M)) (i:Int)=some (red M r):=by
 unfold dA;rw[if_pos (by lia),U5,T6,h];rfl
theorem KB{M:Int}{n:Nat}{F:List Ro}(U:3<=M)(N:F.length<=12)(J:∀r∈F,EE (n:Int) r):GR M (n:Int) (F.map (red M)):=by
 have B:0<M:=by lia
 refine⟨by rw[TL];exact N,λr h=>?_,λr h=>?_,λr h=>?_⟩ <;> obtain⟨q,G,rfl⟩:=List.mem_map.mp h
 ·exact(J q G).1
 ·exact⟨⟨T4 _ (UV B),T5 _ B⟩,T4 _ (UV B),T5 _ B⟩
 ·exact⟨(J q G).2.1,(J q G).2.2.1⟩
theorem EU{K:Nat}{p:Int->Bool}{c:Int}{b:Bool}(h0:0<=c)(h:c<(K:Int)):rB (bY K p) (.int c) (.bl b)=some (bY K λx=>if x=c then b else p x):=by
 have:=FH (K:=K) (f:=λx=>D.bl (p x)) (c:=c) (d:=.bl b) h0 h;refine Eq.trans this ?_;show some (D.lst _)=some (D.lst _);congr 2;refine zaw λx _=>?_
 show(if(x:Int)=c then D.bl b else D.bl (p x))=D.bl (if(x:Int)=c then b else p x);split <;> rfl
theorem z4{K:Nat}{p q:Int->Bool}(h:∀x:Int,0<=x->x<(K:Int)->p x=q x):bY K p=bY K q:=by
 unfold bY;congr 1;exact zaw λx B=>by rw[h (x:Int) (by lia) (by have:=List.mem_range.mp B;lia)]
open Classical in
def RT(q:List Ro)(j x:Int):Bool:=decide (Rch q j x)
theorem c6:RT rs j x=true↔Rch rs j x:=by unfold RT;simp[-TF,-TH,aA,aB]
theorem rY{M:Int}{n:Nat}{B:List Ro}(g:GR M (n:Int) (B.map (red M)))(hn:n<=6):jJ [.int (n:Int),.lst (B.map bA)]=some (a9 n (RT (B.map (red M)))):=by
 have r1:=yW (show n<=1000000 by lia);have hz:aX n=true:=decide_eq_true (by lia);generalize hR:B.map (red M)=R at g;have ak:∀r∈B,0<=r.j/\r.j<r.k/\r.k<(n:Int):=λr h=>g.jk (red M r) (by rw[<- hR];exact List.mem_map.mpr ⟨r,h,rfl⟩)
 refine bB ?_;unfold jD;rw[aN (bN (d:=.lst []) (by simp[-TF,-TH,aA,aB]))];refine d6 (items:=aG 0 1 n) (by simp_all[aH,r1]) (λi ρ=>∃o3 o4 o5 J,ρ=[some (.int (n:Int)),some (.lst (B.map bA)),some (.lst ((T2 i).map λ(j:Nat)=>bY n (RT R (j:Int)))),o3,o4,o5,J]) ⟨none,none,none,none,by ac_rfl⟩ ?_ ?_
 ·rintro i x ρ G ⟨o3,o4,o5,J,rfl⟩
  obtain⟨a0,rfl⟩:=aS G;have hI:(0:Int)+(i:Int)*1=(i:Int):=by lia
  rw[hI];have ao:bF (aJ 0) mS (a8 pF (aD 0) (aD 1)) (aG 0 1 n) [none,some (.int (i:Int))]=some ((T2 n).map λ(k:Nat)=>D.bl (decide ((k:Int)=(i:Int)))):=by
   rw[A7];exact sG (K:=n) (F:=λk=>D.bl (decide (k=(i:Int)))) (λk _ _=>by simp[-TF,-TH,aA,aB]) (T2 n) none λk hk=>List.mem_range.mp hk
  have r2:fD [.int ((i:Int)+1),.int (n:Int)]=some (aG ((i:Int)+1) 1 ((n:Int)-((i:Int)+1)).toNat):=oC (by lia) (by lia) (by lia) (by lia);obtain⟨ρ',e,p,aj,Y,rfl,N,U⟩:=gE (g:=aJ 5) (b:=nC (jY (aD 1)) (aJ 6) (ED (qZ (fW (a8 pF (a8 aI (aD 6) (eC (.int 1))) (aD 5))) (fW (a8 aI (aD 4) (a8 aI (aD 6) (eC (.int 0)))))) (AA 4 (aD 5) (eC (.bl true))) JA)) (items:=aG ((i:Int)+1) 1 ((n:Int)-((i:Int)+1)).toNat)
   (ρ:=[some (.int (n:Int)),some (.lst (B.map bA)),some (.lst ((T2 i).map λ(j:Nat)=>bY n (RT R (j:Int)))),some (.int (i:Int)),some (bY n λx=>decide (x=(i:Int))),o5,J])
   (λt ρ => ∃(p:Int -> Bool) (o5 J:Option D), ρ = [some (.int (n:Int)), some (.lst (B.map bA)), some (.lst ((T2 i).map λ(j:Nat) => bY n (RT R (j:Int)))), some (.int (i:Int)), some (bY n p), o5, J] /\ (∀x:Int, x<(i:Int)+1+(t:Int) -> (p x = true ↔ Rch R (i:Int) x)) /\ ∀x:Int, (i:Int)+1+(t:Int) <= x -> p x = false) ⟨_, o5, J, rfl, λx G => by
    rw[decide_eq_true_eq];refine⟨λz=>by rw[z];exact Rch.refl R _,λz=>by have:=z.le g;lia⟩,λx G=>decide_eq_false (by lia)⟩ (by
   rintro t x ρ G ⟨p,o5,J,rfl,N,U⟩;obtain⟨au,rfl⟩:=aS G;generalize hk:(i:Int)+1+(t:Int)*1=kk;have ek:(i:Int)+1+(t:Int)=kk:=by lia
   rw[ek]at N U;have kn:kk<(n:Int):=by lia
   obtain⟨ρ',e,p',Y,rfl,am,al,ae⟩:=gE (g:=aJ 6) (b:=(ED (qZ (fW (a8 pF (a8 aI (aD 6) (eC (.int 1))) (aD 5))) (fW (a8 aI (aD 4) (a8 aI (aD 6) (eC (.int 0)))))) (AA 4 (aD 5) (eC (.bl true))) JA)) (items:=B.map bA)
    (ρ:=[some (.int (n:Int)),some (.lst (B.map bA)),some (.lst ((T2 i).map λ(j:Nat)=>bY n (RT R (j:Int)))),some (.int (i:Int)),some (bY n p),some (.int kk),J])
    (λu ρ => ∃(p:Int -> Bool) (J:Option D), ρ = [some (.int (n:Int)), some (.lst (B.map bA)), some (.lst ((T2 i).map λ(j:Nat) => bY n (RT R (j:Int)))), some (.int (i:Int)), some (bY n p), some (.int kk), J] /\ (∀x:Int, x<kk -> (p x = true ↔ Rch R (i:Int) x)) /\ (∀x:Int, kk<x -> p x = false) /\ (p kk = true ↔ ∃(m:Int) (r:Ro), m<(u:Int) /\ dA R m = some r /\ r.k = kk /\ Rch R (i:Int) r.j)) ⟨p, J, rfl, N, λx G => U x (by lia), by
     rw[U kk (by lia)];refine⟨λz=>(nomatch z),λ⟨m,r,hm,W,_⟩=>?_⟩;have:=(gJ W).1
     lia⟩ (by
    rintro u x ρ G ⟨p,J,rfl,N,U,W⟩;rw[T6]at G;obtain⟨r,ag,rfl⟩:=map_some G;have ra:dA R (u:Int)=some (red M r):=by rw[<- hR];exact LV ag
    have b:=ak r (U9 ag);have skip:¬ (r.k=kk/\p r.j=true)->(p kk=true↔∃(m:Int) (r:Ro),m<((u+1:Nat):Int)/\dA R m=some r/\r.k=kk/\Rch R (i:Int) r.j):=λhn=>by
     rw[W];refine⟨λ⟨m,q,a,z⟩=>⟨m,q,by lia,z⟩,λ⟨m,q,a,ab,aa,af⟩=>?_⟩;by_cases em:m=(u:Int)
     ·subst em
      rw[ra]at ab;cases ab;exact absurd ⟨aa,(N r.j (by have:r.k=kk:=aa;lia)).mpr af⟩ hn
     ·exact⟨m,q,by lia,ab,aa,af⟩
    by_cases h1:r.k=kk
    ·have rj:=gH (p:=p) b.1 (show r.j<(n:Int) by lia)
     by_cases h2:p r.j=true
     ·have rp:=EU (p:=p) (c:=kk) (b:=true) (by lia) kn
      refine⟨[some (.int (n:Int)),some (.lst (B.map bA)),some (.lst ((T2 i).map λ(j:Nat)=>bY n (RT R (j:Int)))),some (.int (i:Int)),some (bY n λx=>if x=kk then true else p x),some (.int kk),some (bA r)],?_,_,_,rfl,λx G=>?_,λx G=>?_,?_⟩
      ·simp_all[turn,HZ,NA,h1,rj,h2,rp]
      ·rw[if_neg (by lia)];exact N x G
      ·rw[if_neg (by lia)];exact U x G
      ·rw[if_pos rfl]
       exact⟨λ_=>⟨u,red M r,by lia,ra,h1,(N r.j (by lia)).mp h2⟩,λ_=>rfl⟩
     ·refine⟨[some (.int (n:Int)),some (.lst (B.map bA)),some (.lst ((T2 i).map λ(j:Nat)=>bY n (RT R (j:Int)))),some (.int (i:Int)),some (bY n p),some (.int kk),some (bA r)],?_,_,_,rfl,N,U,skip λz=>h2 z.2⟩
      have ah:p r.j=false:=by simpa using h2
      simp_all[turn,HZ,NA,h1,rj,ah]
    ·refine⟨[some (.int (n:Int)),some (.lst (B.map bA)),some (.lst ((T2 i).map λ(j:Nat)=>bY n (RT R (j:Int)))),some (.int (i:Int)),some (bY n p),some (.int kk),some (bA r)],?_,_,_,rfl,N,U,skip λz=>h1 z.1⟩
     simp_all[turn,HZ,h1])
   rw[TL]at ae;refine⟨[some (.int (n:Int)),some (.lst (B.map bA)),some (.lst ((T2 i).map λ(j:Nat)=>bY n (RT R (j:Int)))),some (.int (i:Int)),some (bY n p'),some (.int kk),Y],?_,p',_,_,rfl,λx G=>?_,λx G=>al x (by lia)⟩
   ·simp_all[turn,e]
   ·by_cases ex:x=kk
    ·subst ex
     rw[ae];refine⟨λ⟨m,r,_,W,hk,z⟩=>by rw[<- hk];exact CH z W,λz=>?_⟩;rcases BK z with z|⟨m,r,W,hk,z⟩
     ·lia
     ·refine⟨m,r,?_,W,hk,z⟩
      have:=(gJ W).2;rw[<- hR,TL]at this;exact this
    ·exact am x (by lia))
  rw[aP]at N U;have er:bY n p=bY n (RT R (i:Int)):=z4 λx h0 h1=>by
   rw[W7,c6];exact N x (by lia)
  refine⟨[some (.int (n:Int)),some (.lst (B.map bA)),some (.lst ((T2 (i+1)).map λ(j:Nat)=>bY n (RT R (j:Int)))),some (.int (i:Int)),some (bY n p),aj,Y],?_,_,_,_,_,rfl⟩;have ai:aX i=true:=decide_eq_true (by lia);have ad:(D.lst ((T2 n).map λ(k:Nat)=>D.bl (decide ((k:Int)=(i:Int)))))=bY n λx=>decide (x=(i:Int)):=rfl
  rw[List.range_succ,VE];simp only[TU,WB];simp_all[-VE,turn,r1,aP,hz,i5,ao,ad,r2,e,er,ai]
 ·rintro ρ ⟨o3,o4,o5,J,rfl⟩
  rw[aP]
  ac_rfl
theorem IsF.uniq(g:GR M many R):∀ {x:Int} {w w':List Int},IsF R k x w->IsF R k x w'->w=w'
 | x,[],[],_,_=>rfl
 | x,[],n::w,h,h'=>by
  obtain⟨r,B,F,h2,_⟩:=h';have a:=(g.jk r (dH B)).2.1;have b:=Rch.le g h2.rch;have h:x=k:=h
  lia
 | x,n::w,[],h',h=>by
  obtain⟨r,B,F,h2,_⟩:=h';have a:=(g.jk r (dH B)).2.1;have b:=Rch.le g h2.rch;have h:x=k:=h
  lia
 | x,n::w,m::v,⟨r,B,F,h2,h3⟩,⟨q,hq,hi,g2,g3⟩=>by
  have nm:n=m:=by
   rcases Int.lt_trichotomy n m with z|z|z
   ·exact absurd h2.rch (g3 n r z B F)
   ·exact z
   ·exact absurd g2.rch (h3 m q z hq hi)
  subst nm;rw[B]at hq;cases hq;rw[IsF.uniq g h2 g2]
theorem kM:dA (rs.map (red M)) i=(dA rs i).map (red M):=by
 unfold dA;by_cases h:0<=i
 ·rw[if_pos h,if_pos h,T6]
 ·rw[if_neg h,if_neg h];rfl
theorem sJ(h:w.length<=900):bD (tupI w) (.tup [.int x])=some (tupI (w++[x])):=by
 have q:aX (w.length+1)=true:=decide_eq_true (by lia);simp_all[tupI,q]
theorem HN:aI (bA r) (.int 0)=some (.int r.j):=by unfold bA;rw[q_itT];exact at0
theorem D5:aI (bA r) (.int 1)=some (.int r.k):=by unfold bA;rw[q_itT];exact at1
theorem uM{M:Int}{n:Nat}{B:List Ro}(g:GR M (n:Int) (B.map (red M))){j k:Int}(j0:0<=j)(k0:0<=k/\k<(n:Int))(h:Rch (B.map (red M)) j k)(ne:j≠k){o5:Option D}:∃(r:Nat) (q:Ro),cG (dM 5 (eC (.int 0))) (mK (NI (fW (a8 AI (a8 aI (a8 aI (aD 0) (aD 5)) (eC (.int 0))) (aD 2))) (vW (fW (a8 aI (a8 aI (aD 1) (a8 aI (a8 aI (aD 0) (aD 5)) (eC (.int 1)))) (aD 3))))) (dM 5 (a8 bD (aD 5) (eC (.int 1))))) [some (.lst (B.map bA)),some (a9 n (RT (B.map (red M)))),some (.int j),some (.int k),some d4,o5]=some (.nx [some (.lst (B.map bA)),some (a9 n (RT (B.map (red M)))),some (.int j),some (.int k),some d4,some (.int (r:Int))])/\dA B (r:Int)=some q/\q.j=j/\Rch (B.map (red M)) q.k k/\∀m F,m<(r:Int)->dA (B.map (red M)) m=some F->F.j=j->¬ Rch (B.map (red M)) F.k k:=by
 rcases h.inv with z|⟨i,r0,hi,hj,hr⟩
 ·exact absurd z ne
 rw[aN (bN (d:=.int 0) (by simp[-TF,-TH,aA,aB]))];rw[kM]at hi;obtain⟨q0,U,rfl⟩:=map_some hi;have il:=gJ U;obtain⟨ρ',e,r,q,rfl,h1,h2,h3,h4⟩:=pU (c:=(NI (fW (a8 AI (a8 aI (a8 aI (aD 0) (aD 5)) (eC (.int 0))) (aD 2))) (vW (fW (a8 aI (a8 aI (aD 1) (a8 aI (a8 aI (aD 0) (aD 5)) (eC (.int 1)))) (aD 3)))))) (b:=(dM 5 (a8 bD (aD 5) (eC (.int 1))))) (λm ρ=>∃r:Nat,ρ=[some (.lst (B.map bA)),some (a9 n (RT (B.map (red M)))),some (.int j),some (.int k),some d4,some (.int (r:Int))]/\(r:Int)<=i/\B.length-r=m/\∀m F,m<(r:Int)->dA (B.map (red M)) m=some F->F.j=j->¬ Rch (B.map (red M)) F.k k) (λρ=>∃(r:Nat) (q:Ro),ρ=[some (.lst (B.map bA)),some (a9 n (RT (B.map (red M)))),some (.int j),some (.int k),some d4,some (.int (r:Int))]/\dA B (r:Int)=some q/\q.j=j/\Rch (B.map (red M)) q.k k/\∀m F,m<(r:Int)->dA (B.map (red M)) m=some F->F.j=j->¬ Rch (B.map (red M)) F.k k) (by
  rintro m ρ ⟨r,rfl,ri,rl,Y⟩;have aa:r<B.length:=by lia
  have J:dA B (r:Int)=some B[r]:=by unfold dA;rw[if_pos (by lia),U5];exact UU aa
  have ab:B[r]∈B:=XX aa;generalize B[r]=q at J ab;have at_:=qL J;have gq:=g.jk (red M q) (ZZ ab);have gq:0<=q.j/\q.j<q.k/\q.k<(n:Int):=gq;have m1:=iX (K:=n) (P:=RT (B.map (red M))) (k:=q.k) (by lia) gq.2.2;have m2:=gH (K:=n) (p:=RT (B.map (red M)) q.k) k0.1 k0.2;have go:(¬ (q.j=j/\Rch (B.map (red M)) q.k k))->∃N ρ',N<m/\dM 5 (a8 bD (aD 5) (eC (.int 1))) [some (.lst (B.map bA)),some (a9 n (RT (B.map (red M)))),some (.int j),some (.int k),some d4,some (.int (r:Int))]=some (.nx ρ')/\∃r:Nat,ρ'=[some (.lst (B.map bA)),some (a9 n (RT (B.map (red M)))),some (.int j),some (.int k),some d4,some (.int (r:Int))]/\(r:Int)<=i/\B.length-r=N/\∀m F,m<(r:Int)->dA (B.map (red M)) m=some F->F.j=j->¬ Rch (B.map (red M)) F.k k:=λno=>by
   have ne:(r:Int)≠i:=λz=>by
    rw[z,U]at J;cases J;exact no ⟨hj,hr⟩
   refine⟨B.length-(r+1),_,by lia,by simp[-TF,-TH,aA,aB] <;> rfl,r+1,rfl,by lia,rfl,λN F aj G W=>?_⟩;by_cases z:N<(r:Int)
   ·exact Y N F z G W
   ·have:N=(r:Int):=by lia
    subst this;rw[kM,J]at G;cases G;exact λz=>no ⟨W,z⟩
  by_cases c1:q.j=j
  ·by_cases c2:Rch (B.map (red M)) q.k k
   ·refine .inr ⟨?_,r,q,rfl,J,c1,c2,Y⟩
    rw[c6.mpr c2]at m2;simp_all[at_,HN,D5,c1,m1,m2]
   ·have rf:RT (B.map (red M)) q.k k=false:=by rw[zal];exact λz=>c2 (c6.mp z)
    rw[rf]at m2;exact .inl ⟨by simp_all[at_,HN,D5,c1,m1,m2],go λz=>c2 z.2⟩
  ·exact .inl ⟨by ac_rfl,go λz=>c1 z.1⟩) 100000 B.length [some (.lst (B.map bA)),some (a9 n (RT (B.map (red M)))),some (.int j),some (.int k),some d4,some (.int ((0:Nat):Int))] (by
   have:=g.len;rw[TL]at this;lia) ⟨0,rfl,by lia,by lia,λm F hm G=>by
   unfold dA at G;rw[if_neg (by lia)]at G;cases G⟩
 exact⟨r,q,e,h1,h2,h3,h4⟩
theorem rR{M:Int}{n:Nat}{B:List Ro}(g:GR M (n:Int) (B.map (red M)))(hn:n<=6){j k:Int}(j0:0<=j)(k0:0<=k/\k<(n:Int))(h:Rch (B.map (red M)) j k):∃w,eK [.lst (B.map bA),a9 n (RT (B.map (red M))),.int j,.int k]=some (tupI w)/\IsF (B.map (red M)) k j w:=by
 suffices h:∃d,eK [.lst (B.map bA),a9 n (RT (B.map (red M))),.int j,.int k]=some d/\∃w,d=tupI w/\IsF (B.map (red M)) k j w by
  obtain⟨d,e,w,rfl,h⟩:=h;exact⟨w,e,h⟩
 refine gI ?_;unfold i7;rw[aN (bN (d:=tupI []) (by ac_rfl))];have jk:=Rch.le g h;refine oB (λm ρ=>∃(F:Int) (w:List Int) (o:Option D),ρ=[some (.lst (B.map bA)),some (a9 n (RT (B.map (red M)))),some (.int F),some (.int k),some (tupI w),o]/\0<=F/\Rch (B.map (red M)) F k/\(k-F).toNat=m/\(w.length:Int)<=F/\∀v,IsF (B.map (red M)) k F v->IsF (B.map (red M)) k j (w++v)) (λρ=>∃(w:List Int) (o:Option D),ρ=[some (.lst (B.map bA)),some (a9 n (RT (B.map (red M)))),some (.int k),some (.int k),some (tupI w),o]/\IsF (B.map (red M)) k j w) (k-j).toNat (by lia) ⟨j,[],none,by ac_rfl,j0,h,rfl,by simp[-TF,-TH,aA,aB];lia,λv G=>G⟩ ?_ ?_
 ·rintro m ρ ⟨F,w,o,rfl,J,Y,hm,hw,G⟩
  by_cases ne:F=k
  ·subst ne
   refine .inr ⟨by simp[-TF,-TH,aA,aB],w,o,rfl,?_⟩;have:=G [] rfl
   rwa [W9]at this
  ·obtain⟨r,q,e,h1,h2,U,h4⟩:=uM g (d4:=tupI w) (o5:=o) J k0 Y ne
   have at_:=qL h1;have W:=g.jk (red M q) (ZZ (dH h1));have W:0<=q.j/\q.j<q.k/\q.k<(n:Int):=W;have qk:=Rch.le g U;have ac:=Rch.le g Y;have sn:=sJ (w:=w) (x:=(r:Int)) (by lia);have es:∀ {g h k:Sv} {ρ:bJ},cG g (cG h k) ρ=cG (cG g h) k ρ:=by
    intro g h k ρ;unfold cG;cases g ρ with
    | none=>rfl
    | some o=>cases o <;> rfl
   refine .inl ⟨by simp_all[ne],(k-q.k).toNat,[some (.lst (B.map bA)),some (a9 n (RT (B.map (red M)))),some (.int q.k),some (.int k),some (tupI (w++[(r:Int)])),some (.int (r:Int))],by lia,?_,q.k,w++[(r:Int)],_,rfl,by lia,U,rfl,by simp[-TF,-TH,aA,aB];lia,λv N=>?_⟩
   ·rw[es,aN e]
    simp_all[sn,at_,D5]
   ·rw[List.append_assoc]
    exact G _ ⟨red M q,by rw[kM,h1];rfl,h2,N,h4⟩
 ·rintro ρ ⟨w,o,rfl,hw⟩
  exact⟨_,by simp[-TF,-TH,aA,aB] <;> rfl,w,rfl,hw⟩
theorem IsF.len(g:GR M many R):∀ {x:Int} {w:List Int},IsF R k x w->(w.length:Int)<=k-x
 | x,[],h=>by have h:x=k:=h;simp[-TF,-TH,aA,aB];lia
 | x,m::w,⟨r,hr,hj,h2,_⟩=>by
  have a:=IsF.len g h2;have b:=(g.jk r (dH hr)).2.1;simp[-TF,-TH,aA,aB];lia
theorem wI{q:Type}{l:List q}{x:q}:dW (l++[x]) (-1)=some x:=by
 have:rG (l++[x]).length (-1)=some l.length:=by
  unfold rG;rw[VN,zag];rw[if_neg (by decide)];split
  ·exact congrArg some (by lia)
  ·lia
 unfold dW;rw[this,aA];simp[-TF,-TH,aA,aB]
theorem cJ{c:Bv}{τ:bJ}{p:D->Bool}:∀(l:List D) (o:Option D),(∀x∈l,c (some x::τ)=some (p x))->bF (aJ 0) c (aD 0) l (o::τ)=some (l.filter p)
 | [],_,_=>rfl
 | x::l,o,h=>by
  have ih:=cJ l (some x) λy B=>h y (UG _ B)
  have q:=h x (UL ..);rw[bF,show aJ 0 x (o::τ)=some (some x::τ)from rfl,aA,q,aA,zah];cases p x with
  | true=>rw[if_pos rfl,if_pos rfl,show aD 0 (some x::τ)=some x from rfl,aA,ih,aA]
  | false=>rw[if_neg (by decide),if_neg (by decide),ih]
def QB(rs R:List Ro)(j k:Int)(d:D):Bool:=match d with
 | .int r=>match dA rs r with
  | some q=>decide (q.j=j) && RT R q.k k
  | none=>false
 | _=>false
theorem dO{M:Int}{n:Nat}{B:List Ro}(g:GR M (n:Int) (B.map (red M)))(hn:n<=6){j k cell:Int}(j0:0<=j)(k0:0<=k/\k<(n:Int))(h:Rch (B.map (red M)) j k):∃w:List Int,dP [.lst (B.map bA),a9 n (RT (B.map (red M))),.int j,.int k,.int cell]=some (tupI w)/\w.length<=10:=by
 suffices h:∃d,dP [.lst (B.map bA),a9 n (RT (B.map (red M))),.int j,.int k,.int cell]=some d/\∃w:List Int,d=tupI w/\w.length<=10 by
  obtain⟨d,e,w,rfl,h⟩:=h;exact⟨w,e,h⟩
 have hl:B.length<=12:=by have:=g.len;rwa [TL]at this
 refine gI ?_;unfold oF;rw[aN (bN (d:=tupI []) (by ac_rfl))];have jk:=Rch.le g h;have el:dS [.lst (B.map bA)]=some (.int (B.length:Int)):=by rw[q_lenL,TL]
 have rl:bH [.int (B.length:Int)]=some (aG 0 1 B.length):=by
  have:=aY (show(0:Int)<=(B.length:Int) by lia) (show(B.length:Int)<=1000000 by lia)
  rwa [U5]at this
 refine oB (λm ρ=>∃(F c:Int) (w:List Int) (o:Option D),ρ=[some (.lst (B.map bA)),some (a9 n (RT (B.map (red M)))),some (.int F),some (.int k),some (.int c),some (tupI w),o]/\0<=F/\Rch (B.map (red M)) F k/\(k-F).toNat=m/\(w.length:Int)<=F) (λρ=>∃(c:Int) (w:List Int) (o:Option D),ρ=[some (.lst (B.map bA)),some (a9 n (RT (B.map (red M)))),some (.int k),some (.int k),some (.int c),some (tupI w),o]/\w.length<=10) (k-j).toNat (by lia) ⟨j,cell,[],none,rfl,j0,h,rfl,by simp[-TF,-TH,aA,aB];lia⟩ ?_ ?_
 ·rintro m ρ ⟨F,c,w,o,rfl,al,hr,hm,hw⟩
  by_cases ne:F=k
  ·subst ne
   exact .inr ⟨by simp[-TF,-TH,aA,aB],c,w,o,rfl,by lia⟩
  ·have Y:=cJ (c:=qZ (fW (a8 pF (a8 aI (a8 aI (aD 1) (aD 0)) (eC (.int 0))) (aD 2))) (fW (a8 aI (a8 aI (aD 3) (a8 aI (a8 aI (aD 1) (aD 0)) (eC (.int 1)))) (aD 4)))) (τ:=[some (.lst (B.map bA)),some (.int F),some (a9 n (RT (B.map (red M)))),some (.int k)]) (p:=QB B (B.map (red M)) F k) (aG 0 1 B.length) none (λx hx=>by
    obtain⟨i,hi⟩:=List.mem_iff_getElem?.mp hx;obtain⟨G,rfl⟩:=aS hi;have e0:(0:Int)+(i:Int)*1=(i:Int):=by lia
    rw[e0];have eq:B[i]?=some B[i]:=UU G;have J:dA B (i:Int)=some B[i]:=by unfold dA;rw[if_pos (by lia),U5];exact eq
    have at_:=qL J;have gq:0<=B[i].j/\B[i].j<B[i].k/\B[i].k<(n:Int):=g.jk (red M B[i]) (ZZ (XX G));have mt:=iX (P:=RT (B.map (red M))) (show 0<=B[i].k by lia) gq.2.2;have rt:=gH (p:=RT (B.map (red M)) B[i].k) k0.1 k0.2;unfold QB;dsimp only;rw[J];dsimp only;by_cases hj:B[i].j=F
    ·simp_all[at_,HN,D5,hj,mt,rt]
    ·simp_all[at_,HN,hj])
   generalize hL:(aG 0 1 B.length).filter (QB B (B.map (red M)) F k)=L at Y;have inv:∀d∈L,∃(r:Int) (q:Ro),d=.int r/\dA B r=some q/\q.j=F/\Rch (B.map (red M)) q.k k:=λd U=>by
    rw[<- hL]at U;obtain⟨h1,h2⟩:=List.mem_filter.mp U;obtain⟨i,hi⟩:=List.mem_iff_getElem?.mp h1;obtain⟨G,rfl⟩:=aS hi;unfold QB at h2;dsimp only at h2;cases J:dA B (0+(i:Int)*1)with
    | none=>rw[J]at h2;cases h2
    | some q=>
     rw[J]at h2;simp only[UE,decide_eq_true_eq]at h2;exact⟨_,q,rfl,J,h2.1,c6.mp h2.2⟩
   have ll:L.length<=12:=by rw[<- hL];refine UY (zaA ..) ?_;rw[aP];exact hl
   have W:0<(L.length:Int):=by
    rcases hr.inv with z|⟨a,r,h1,h2,N⟩
    ·exact absurd z ne
    ·rw[kM]at h1
     obtain⟨q,h4,rfl⟩:=map_some h1;have mem:D.int a∈L:=by
      rw[<- hL];refine List.mem_filter.mpr ⟨?_,?_⟩
      ·have:=gJ h4
       unfold aG;exact List.mem_map.mpr ⟨a.toNat,List.mem_range.mpr (by lia),by rw[show(0:Int)+((a.toNat:Nat):Int)*1=a by lia]⟩
      ·unfold QB
       dsimp only;rw[h4];simp only[UE,decide_eq_true_eq];exact⟨h2,c6.mpr N⟩
     have:=List.length_pos_of_mem mem
     lia
   have a0:=T4 c (UV W);have a1:=T5 c W;obtain⟨d,U,_,ed⟩:=mO a0 a1;obtain⟨r,q,rfl,h1,h2,N⟩:=inv d U;have at_:=qL h1;have gq:0<=q.j/\q.j<q.k/\q.k<(n:Int):=g.jk (red M q) (ZZ (dH h1));have qk:=Rch.le g N;have af:=Rch.le g hr;have sn:=sJ (w:=w) (x:=r) (by lia);have zl:(aG 0 1 B.length).length<=1000000:=by rw[aP];lia
   have dd:vX (.int c) (.int (L.length:Int))=some (.int (c/(L.length:Int))):=pA W (by lia);have la:aI (tupI (w++[r])) (.int (-1))=some (.int r):=by
    show dW ((w++[r]).map D.int) (-1)=_;rw[VE];exact wI
   refine .inl ⟨by simp_all[ne],(k-q.k).toNat,[some (.lst (B.map bA)),some (a9 n (RT (B.map (red M)))),some (.int q.k),some (.int k),some (.int (c/(L.length:Int))),some (tupI (w++[r])),some (.lst L)],by lia,?_,q.k,_,w++[r],_,rfl,by lia,N,rfl,by simp[-TF,-TH,aA,aB];lia⟩;rw[aN (cZ (d:=.lst L) (ρ':=[some (.lst (B.map bA)),some (a9 n (RT (B.map (red M)))),some (.int F),some (.int k),some (.int c),some (tupI w),some (.lst L)]) (wZ (IL (xT (pV (by ac_rfl) el) rfl) rl) zl Y) rfl)];rw[aN (cZ (d:=tupI (w++[r])) (ρ':=[some (.lst (B.map bA)),some (a9 n (RT (B.map (red M)))),some (.int F),some (.int k),some (.int c),some (tupI (w++[r])),some (.lst L)]) (by ac_rfl) rfl)];rw[aN (cZ (ρ':=[some (.lst (B.map bA)),some (a9 n (RT (B.map (red M)))),some (.int F),some (.int k),some (.int (c/(L.length:Int))),some (tupI (w++[r])),some (.lst L)]) (by ac_rfl) rfl)];have r1:=D5 (r:=q);exact cZ (d:=.int q.k) (by ac_rfl) rfl
 ·rintro ρ ⟨c,w,o,rfl,hw⟩
  exact⟨_,PR rfl,w,rfl,hw⟩
inductive Gd:Nat->D->Prop
 | int {k:Nat} {i:Int}:Gd k (.int i)
 | str {k:Nat} {s:Str}:Gd k (.str s)
 | tup {k:Nat} {l:List D} (h:∀d∈l,Gd k d):Gd (k+1) (.tup l)
theorem Gd.mono{k m:Nat}{d:D}(h:Gd k d)(l:k<=m):Gd m d:=by
 induction h generalizing m with
 | int=>exact .int
 | str=>exact .str
 | tup _ ih=>
  obtain⟨m,rfl⟩:∃p,m=p+1:=⟨m-1,by lia⟩;exact .tup λd q=>ih d q (by lia)
theorem Gd.ints{k:Nat}{w:List Int}:Gd (k+1) (tupI w):=.tup λd q=>by
 obtain⟨i,_,rfl⟩:=List.mem_map.mp q;exact .int
theorem CO{k:Nat}:∀l:List D,(∀d∈l,∃x,e8 d=some x/\x.nb=true/\x.dep<=k)->∃xs,gM l=some xs/\My.EK xs=true/\My.rE xs<=k
 | [],_=>⟨[],rfl,rfl,U4 _⟩
 | a::l,h=>by
  obtain⟨x,h1,h2,J⟩:=h a (UL ..);obtain⟨xs,q,B,G⟩:=CO l λd F=>h d (UG _ F)
  exact⟨x::xs,by rw[gM,h1,TF,q,TF],by rw[My.EK,h2,B];rfl,by rw[My.rE];lia⟩
theorem Gd.x{k:Nat}{d:D}(h:Gd k d):∃x,e8 d=some x/\x.nb=true/\x.dep<=k:=by
 induction h with
 | int=>exact⟨_,rfl,rfl,U4 _⟩
 | str=>exact⟨_,rfl,rfl,U4 _⟩
 | @tup k l _ ih=>
  obtain⟨xs,h1,h2,q⟩:=CO l ih;exact⟨.tup xs,by rw[e8,h1];rfl,by rw[My.Dx.nb];exact h2,by rw[My.Dx.dep];lia⟩
theorem Gd.ok{k:Nat}{d:D}(h:Gd k d)(l:k<=60):gN d=true:=by
 obtain⟨x,h1,h2,q⟩:=h.x;unfold gN;rw[h1];show(x.nb && decide (x.dep<=60))=true;rw[h2,decide_eq_true (show x.dep<=60 by lia)];rfl
theorem OA{l:List D}{k:Nat}(h:Gd k (.tup l))(q:k<=60):AI (.tup l) (.tup l)=some (.bl false):=by
 unfold AI AM;rw[if_pos (.inr ⟨rfl,rfl,h.ok q,h.ok q⟩)];simp[-TF,-TH,aA,aB]
theorem DN{a b:Str}:pF (.str a) (.str b)=some (.bl (decide (a=b))):=by
 unfold pF AM;rw[if_pos (.inl rfl)];simp[-TF,-TH,aA,aB]
theorem oW{a b:List D}(h:a.length+b.length<=1000000):bD (.tup a) (.tup b)=some (.tup (a++b)):=if_pos (decide_eq_true h)
inductive LR:Nat->D->Prop
 | base {n:Nat} {s:Str} {l:List D} {w:List Int} (hs:s ≠ "let") (hl:l.length<=10) (hw:w.length<=20):LR n (.tup ((.str s::l)++[tupI w]))
 | lets {n:Nat} {x:Str} {j:Int} {o t:D} (h:LR n t):LR (n+1) (.tup [.str "let",.str x,.int j,o,t])
theorem LR.mono{n m:Nat}{d:D}(h:LR n d)(l:n<=m):LR m d:=by
 induction h generalizing m with
 | base hs hl hw=>exact .base hs hl hw
 | lets _ ih=>
  obtain⟨m,rfl⟩:∃p,m=p+1:=⟨m-1,by lia⟩;exact .lets (ih (by lia))
theorem KH{w:List D}:cutD w none (some (-1))=w.dropLast:=by
 have q:HT.sIx w.length w.length (some (-1))=w.length-1:=by
  show(if(-1:Int)<0 then(-1+(w.length:Int)).toNat else min (-1:Int).toNat w.length)=_;rw[if_pos (by decide)];lia
 have B:HT.sIx w.length 0 none=0:=rfl;unfold _root_.P.cutD;rw[q,B,List.dropLast_eq_take];simp[-TF,-TH,aA,aB]
theorem FB{bk:D}{j k:Int}{v:List Int}(hv:eQ [bk,.int j,.int k]=some (tupI v))(M:v.length<=20){n:Nat}{d:D}(h:LR n d):∀ {q f:Nat},Gd (q+1) d->n<f->∃l,m8 5 cS f [bk,d,.int j,.int k]=some (.tup l)/\m8 2 cR f [d,tupI v]=some (.tup l)/\Gd (q+1) (.tup l):=by
 induction h with
 | @base n s l w hs hl hw=>
  intro q f B hf;obtain⟨f,rfl⟩:∃p,f=p+1:=⟨f-1,by lia⟩;have G:((.str s::l)++[tupI w]:List D).length=l.length+2:=by simp[-TF,-TH,aA,aB]
  have el:dS [.tup ((.str s::l)++[tupI w])]=some (.int ((l.length:Int)+2)):=by rw[q_lenT,G];rfl
  have i0:aI (.tup ((.str s::l)++[tupI w])) (.int 0)=some (.str s):=at0;have Y:pF (.str s) (.str "let")=some (.bl false):=by rw[DN,decide_eq_false hs]
  have tk:((.str s::l)++[tupI w]:List D).take (l.length+1)=.str s::l:=List.take_left' (by simp[-TF,-TH,aA,aB]);have s1:fJ (.tup ((.str s::l)++[tupI w])) none (some ((l.length:Int)+2-1))=some (.tup (.str s::l)):=by
   rw[q_slT,(iV (by lia) (by rw[G];lia)).1,show((l.length:Int)+2-1).toNat=l.length+1 by lia,tk]
  have s2:fJ (.tup ((.str s::l)++[tupI w])) none (some (-1))=some (.tup (.str s::l)):=by
   rw[q_slT,KH,List.dropLast_concat]
  have N:aI (.tup ((.str s::l)++[tupI w])) (.int ((l.length:Int)+2-1))=some (tupI w):=by
   show dW _ _=_;rw[show(l.length:Int)+2-1=((l.length+1:Nat):Int) by lia];exact bZ (j:=l.length+1) (by simp[-TF,-TH,aA,aB])
  have i2:aI (.tup ((.str s::l)++[tupI w])) (.int (-1))=some (tupI w):=wI;have U:bD (tupI w) (tupI v)=some (tupI (w++v)):=by
   unfold tupI;rw[oW (by simp[-TF,-TH,aA,aB];lia),VE]
  have a2:bD (.tup (.str s::l)) (.tup [tupI (w++v)])=some (.tup ((.str s::l)++[tupI (w++v)])):=oW (by simp[-TF,-TH,aA,aB];lia);have gl:Gd (q+1) (.tup ((.str s::l)++[tupI (w++v)])):=by
   cases B with
   | tup B=>
    refine .tup λd F=>?_
    rcases List.mem_append.mp F with z|z
    ·exact B d (W5 _ z)
    ·rw[List.mem_singleton.mp z]
     have:=B (tupI w) (VU _ (List.mem_singleton.mpr rfl));generalize hd':tupI w=dw at this;cases this with
     | int=>cases hd'
     | str=>cases hd'
     | tup _=>exact .ints
  generalize (.str s::l)++[tupI w]=L at *;refine⟨_,bB ?_,bB ?_,gl⟩
  ·generalize m8 5 cS f=R
   unfold cS;rw[show aH 5 [bk,.tup L,.int j,.int k]=[some bk,some (.tup L),some (.int j),some (.int k),none]from rfl]
   ac_rfl
  ·generalize m8 2 cR f=R
   unfold cR;rw[show aH 2 [.tup L,tupI v]=[some (.tup L),some (tupI v)]from rfl]
   ac_rfl
 | @lets n x j' o t h ih=>
  intro q f B hf;obtain⟨f,rfl⟩:∃p,f=p+1:=⟨f-1,by lia⟩;cases B with
  | tup B=>
   have J:=B t (by simp[-TF,-TH,aA,aB]);obtain⟨q,rfl⟩:∃p,q=p+1:=by
    cases q with
    | zero=>cases h <;> cases J
    | succ q=>exact⟨q,rfl⟩
   obtain⟨l,W,e2,g⟩:=ih (f:=f) J (by lia);have Y:pF (.str "let") (.str "let")=some (.bl true):=by rw[DN,decide_eq_true rfl]
   have el:dS [.tup [.str "let",.str x,.int j',o,t]]=some (.int 5):=rfl;have s1:fJ (.tup [.str "let",.str x,.int j',o,t]) none (some (5-1))=some (.tup [.str "let",.str x,.int j',o]):=rfl;have s2:fJ (.tup [.str "let",.str x,.int j',o,t]) none (some 4)=some (.tup [.str "let",.str x,.int j',o]):=rfl;have N:aI (.tup [.str "let",.str x,.int j',o,t]) (.int (5-1))=some t:=rfl;have U:bD (.tup [.str "let",.str x,.int j',o]) (.tup [.tup l])=some (.tup [.str "let",.str x,.int j',o,.tup l]):=rfl;refine⟨_,bB (d:=.tup [.str "let",.str x,.int j',o,.tup l]) ?_,bB ?_,.tup λd F=>?_⟩
   ·generalize m8 5 cS f=R at W
    unfold cS;rw[show aH 5 [bk,.tup [.str "let",.str x,.int j',o,t],.int j,.int k]=[some bk,some (.tup [.str "let",.str x,.int j',o,t]),some (.int j),some (.int k),none]from rfl]
    ac_rfl
   ·generalize m8 2 cR f=R at e2
    unfold cR;rw[show aH 2 [.tup [.str "let",.str x,.int j',o,t],tupI v]=[some (.tup [.str "let",.str x,.int j',o,t]),some (tupI v)]from rfl]
    ac_rfl
   ·simp only[UH,UI,or_false]at F
    rcases F with rfl|rfl|rfl|rfl|rfl
    ·exact .str
    ·exact .str
    ·exact .int
    ·exact B _ (by simp[-TF,-TH,aA,aB])
    ·exact g
theorem qD{R:List Ro}{n:Nat}{want:Int}(h0:0<=want)(h1:want<(n:Int)):∃L:List D,bF (aJ 0) (fW (a8 aI (a8 aI (aD 1) (aD 0)) (aD 2))) (aD 0) (aG 0 1 n) [none,some (a9 n (RT R)),some (.int want)]=some L/\0<(L.length:Int)/\L.length<=n/\∀d∈L,∃j:Int,d=.int j/\0<=j/\j<(n:Int)/\Rch R j want:=by
 refine⟨_,cJ (p:=λd=>match d with | .int j=>RT R j want|_=>false) (aG 0 1 n) none (λx B=>?_),?_,?_,λd J=>?_⟩
 ·obtain⟨i,hi⟩:=List.mem_iff_getElem?.mp B
  obtain⟨q,rfl⟩:=aS hi;have G:=iX (K:=n) (P:=RT R) (k:=0+(i:Int)*1) (by lia) (by lia);have rt:=gH (K:=n) (p:=RT R (0+(i:Int)*1)) h0 h1;exact qW (cQ (cQ rfl rfl G) rfl rt)
 ·have mem:D.int want∈(aG 0 1 n).filter (λd=>match d with | .int j=>RT R j want|_=>false):=by
   refine List.mem_filter.mpr ⟨?_,c6.mpr (Rch.refl _ _)⟩;unfold aG;exact List.mem_map.mpr ⟨want.toNat,List.mem_range.mpr (by lia),by rw[show(0:Int)+((want.toNat:Nat):Int)*1=want by lia]⟩
  have:=List.length_pos_of_mem mem
  lia
 ·refine UY (zaA ..) ?_
  rw[aP];exact TR _
 ·obtain⟨M,F⟩:=List.mem_filter.mp J
  obtain⟨i,hi⟩:=List.mem_iff_getElem?.mp M;obtain⟨q,rfl⟩:=aS hi;exact⟨_,rfl,by lia,by lia,c6.mp F⟩
noncomputable def b5(kn:List (Str×Int)):List D:=kn.map λp=>.tup [.str p.1,.int p.2]
theorem BW{R:List Ro}{n:Nat}{want:Int}{kn:List (Str×Int)}(B:∀p∈kn,0<=p.2/\p.2<(n:Int))(h0:0<=want)(h1:want<(n:Int)):∃L:List D,bF (aJ 0) (fW (a8 aI (a8 aI (aD 1) (a8 aI (aD 0) (eC (.int 1)))) (aD 2))) (aD 0) (b5 kn) [none,some (a9 n (RT R)),some (.int want)]=some L/\L.length<=kn.length/\∀d∈L,∃(x:Str) (j:Int),d=.tup [.str x,.int j]/\0<=j/\j<(n:Int)/\Rch R j want:=by
 refine⟨_,cJ (p:=λd=>match d with | .tup [_,.int j]=>RT R j want|_=>false) (b5 kn) none (λx F=>?_),?_,λd U=>?_⟩
 ·obtain⟨p,q,rfl⟩:=List.mem_map.mp F
  obtain⟨G,J⟩:=B p q;have N:=iX (K:=n) (P:=RT R) G J;have rt:=gH (K:=n) (p:=RT R p.2) h0 h1;exact qW (cQ (cQ rfl (cQ rfl rfl rfl) N) rfl rt)
 ·refine UY (zaA ..) ?_
  unfold b5;rw[TL];exact TR _
 ·obtain⟨W,M⟩:=List.mem_filter.mp U
  obtain⟨p,q,rfl⟩:=List.mem_map.mp W;exact⟨p.1,p.2,rfl,(B p q).1,(B p q).2,c6.mp M⟩
structure Wo(M:Int)(n:Nat)(rs:List Ro)(ms:List Mk):Prop where
 mp:0<M
 hn:1<=n/\n<=6
 g:GR M (n:Int) (rs.map (red M))
 ml:ms.length<=5
 mo:∀m∈ms,OkM (n:Int) 7 m
def wD(ns:List Int)(M:Int)(n:Nat)(q:List Ro)(ms:List Mk)(c:Int):D:=.tup [.lst (ns.map .int),.int M,.lst (q.map bA),.lst (ms.map eB),a9 n (RT (q.map (red M))),.lst (bO c 8)]
abbrev eA(p0 p1 p2 p3:Int):D:=.lst [.int p0,.int p1,.int p2,.int p3]
noncomputable def cst:Nat->Int
 | 0=>2
 | d+1=>2+3*cst d
def Res(k:Int)(q:Nat)(p0 p2 p3:Int)(r:Option (D×D)):Prop:=∃(part rd:D) (q0 q1 q2 q3:Int),r=some (.tup [part,rd],eA q0 q1 q2 q3)/\(p0<=q0/\q0<=p0+k)/\(p2<=q2/\q2<=8)/\(0<=q3/\q3<=p3)/\LR p3.toNat rd/\Gd q rd
theorem kR{ns:List Int}{M c:Int}{n:Nat}{F:List Ro}{ms:List Mk}(B:Wo M n F ms){kn:List (Str×Int)}(hk:∀p∈kn,0<=p.2/\p.2<(n:Int))(kl:kn.length<=100){want cell p0 p1 p2 p3:Int}(hw:0<=want/\want<(n:Int))(h0:0<=p0/\p0<=900)(h2:p2<=8)(h3:0<=p3):Res 1 2 p0 p2 p3 (cV [wD ns M n F ms c,eA p0 p1 p2 p3,.lst (b5 kn),.int want,.int cell]):=by
 obtain⟨f,hf⟩:=cY ns;have Mp:=B.mp;obtain⟨L,cm,ll,hL⟩:=BW (R:=F.map (red M)) hk hw.1 hw.2;obtain⟨K,cn,kp,kk,hK⟩:=qD (R:=F.map (red M)) hw.1 hw.2;have zl:(b5 kn).length<=1000000:=by unfold b5;rw[TL];lia
 have el:dS [a9 n (RT (F.map (red M)))]=some (.int (n:Int)):=by unfold a9;rw[q_lenL,TL,YQ]
 have rl:bH [.int (n:Int)]=some (aG 0 1 n):=by
  have:=aY (show(0:Int)<=(n:Int) by lia) (show(n:Int)<=1000000 by have:=B.hn;lia)
  rwa [U5]at this
 have zr:(aG 0 1 n).length<=1000000:=by rw[aP];have:=B.hn;lia
 have fk:=hf (p0+1) (by lia) (by lia)
 suffices h:∃(d l:D),gA (aH 15 [wD ns M n F ms c,eA p0 p1 p2 p3,.lst (b5 kn),.int want,.int cell])=some (.rt d l)/\Res 1 2 p0 p2 p3 (some (d,l)) by
  obtain⟨d,l,e,h⟩:=h;rw[show cV [wD ns M n F ms c,eA p0 p1 p2 p3,.lst (b5 kn),.int want,.int cell]=some (d,l)from j9 e];exact h
 unfold gA jE;rw[show aH 15 [wD ns M n F ms c,eA p0 p1 p2 p3,.lst (b5 kn),.int want,.int cell]=[some (wD ns M n F ms c),some (eA p0 p1 p2 p3),some (.lst (b5 kn)),some (.int want),some (.int cell),none,none,none,none,none,none,none,none,none,none]from rfl];have un:b9 6 (aR (aJ 5) (aR (aJ 6) (aR (aJ 7) (aR (aJ 8) (aR (aJ 9) (aR (aJ 10) fV)))))) (wD ns M n F ms c) [some (wD ns M n F ms c),some (eA p0 p1 p2 p3),some (.lst (b5 kn)),some (.int want),some (.int cell),none,none,none,none,none,none,none,none,none,none]=some [some (wD ns M n F ms c),some (eA p0 p1 p2 p3),some (.lst (b5 kn)),some (.int want),some (.int cell),some (.lst (ns.map .int)),some (.int M),some (.lst (F.map bA)),some (.lst (ms.map eB)),some (a9 n (RT (F.map (red M)))),some (.lst (bO c 8)),none,none,none,none]:=rfl;have N:∀ {d l:D} {q:Qv} {ρ:bJ},q ρ=some (.rt d l)->Res 1 2 p0 p2 p3 (some (d,l))->∃d l,q ρ=some (.rt d l)/\Res 1 2 p0 p2 p3 (some (d,l)):=λa b=>⟨_,_,a,b⟩
 by_cases hc:0<(L.length:Int)/\0<cell%4
 ·obtain⟨J,c2⟩:=hc
  have a0:=T4 (cell/4) (UV J);have U:=T5 (cell/4) J;obtain⟨d,G,_,ed⟩:=mO a0 U;obtain⟨x,j,rfl,Y,j1,W⟩:=hL d G;obtain⟨w,ew,wl⟩:=dO (cell:=cell/64) B.g B.hn.2 Y hw W;apply N
  ·ac_rfl
  ·exact⟨_,.tup [.str "name",.str x,tupI w],p0,p1,p2,p3,rfl,by lia,by lia,by lia,LR.base (l:=[.str x]) (by decide) (by simp[-TF,-TH,aA,aB]) (by lia),.tup λd G=>by
    simp only[UH,UI,or_false]at G;rcases G with rfl|rfl|rfl
    ·exact .str
    ·exact .str
    ·exact .ints⟩
 ·have a0:=T4 (cell/4) (UV kp)
  have U:=T5 (cell/4) kp;obtain⟨d,G,_,ed⟩:=mO a0 U;obtain⟨j,rfl,Y,j1,W⟩:=hK d G;obtain⟨w,ew,wl⟩:=dO (cell:=cell/64) B.g B.hn.2 Y hw W;have fin:Res 1 2 p0 p2 p3 (some (.tup [.tup [.str "number",.int (f (p0+1)%M),.int j],.tup [.str "number",.int (f (p0+1)%M),.int j,tupI w]],eA (p0+1) p1 p2 p3)):=
   ⟨_, _, _, _, _, _, rfl, by lia, by lia, by lia, LR.base (l:=[.int _, .int j]) (by decide) (by simp[-TF, -TH, aA, aB]) (by lia), .tup λd G => by
    simp only[UH,UI,or_false]at G;rcases G with rfl|rfl|rfl|rfl
    ·exact .str
    ·exact .int
    ·exact .int
    ·exact .ints⟩
  by_cases J:0<(L.length:Int)
  ·have c2:¬ 0<cell%4:=λz=>hc ⟨J,z⟩
   apply N
   ·ac_rfl
   ·exact fin
  ·apply N
   ·ac_rfl
   ·exact fin
theorem kK:∀d:Nat,2<=cst d
 | 0=>by decide
 | d+1=>by have:=kK d;unfold cst;lia
theorem sL{kn:List (Str×Int)}{x:Str}{j:Int}:b5 (kn++[(x,j)])=b5 kn++[.tup [.str x,.int j]]:=by unfold b5;rw[VE];rfl
theorem qS{c p:Int}(h0:0<=p)(h:p<8):dW (bO c 8) p=some (.str (b6 c p)):=by
 obtain⟨n,rfl⟩:=Int.eq_ofNat_of_zero_le h0;refine bZ ?_;unfold bO;rw[T6,zar (by lia)];rfl
def GH(G:Fq)(ns:List Int)(M c:Int)(n:Nat)(q:List Ro)(ms:List Mk)(d:Nat):Prop:=∀ {kn:List (Str×Int)} {want nest p0 p1 p2 p3:Int},(∀p∈kn,0<=p.2/\p.2<(n:Int))->kn.length+d<=90->0<=want/\want<(n:Int)->0<=p0/\p0+cst d<=900->0<=p2/\p2<=8->0<=p3->Res (cst d) (2*d+2) p0 p2 p3 (G [wD ns M n q ms c,eA p0 p1 p2 p3,.lst (b5 kn),.int want,.int (d:Int),.int nest])
theorem wR{n:Nat}{kn:List (Str×Int)}{x:Str}{j:Int}(q:∀p∈kn,0<=p.2/\p.2<(n:Int))(h:0<=j/\j<(n:Int)):∀p∈kn++[(x,j)],0<=p.2/\p.2<(n:Int):=λp B=>by
 rcases List.mem_append.mp B with z|z
 ·exact q p z
 ·rw[List.mem_singleton.mp z];exact h
theorem sD{G Bq:Fq}{ns:List Int}{M c:Int}{n d:Nat}{F:List Ro}{ms:List Mk}(B:Wo M n F ms)(Hg:GH G ns M c n F ms d){kn:List (Str×Int)}(hk:∀p∈kn,0<=p.2/\p.2<(n:Int))(kl:kn.length+(d+1)<=90){want nest cell p0 p1 p2 p3:Int}(hw:0<=want/\want<(n:Int))(h0:0<=p0/\p0+2*cst d<=900)(h2:0<=p2/\p2<8)(h3:0<=p3)(h5:cell%8=5->0<p3):Res (2*cst d) (2*d+3) p0 p2 p3 (m9 21 (dF G Bq) [wD ns M n F ms c,eA p0 p1 p2 p3,.lst (b5 kn),.int want,.int ((d:Int)+1),.int nest,.int cell]):=by
 have cp:=kK d;have np:0<(n:Int):=by have:=B.hn;lia
 obtain⟨K,cn,kp,kk,hK⟩:=qD (R:=F.map (red M)) hw.1 hw.2;have zk:(b5 kn).length+1<=1000000:=by unfold b5;rw[TL];lia
 have el:dS [a9 n (RT (F.map (red M)))]=some (.int (n:Int)):=by unfold a9;rw[q_lenL,TL,YQ]
 have rl:bH [.int (n:Int)]=some (aG 0 1 n):=by
  have:=aY (show(0:Int)<=(n:Int) by lia) (show(n:Int)<=1000000 by have:=B.hn;lia)
  rwa [U5]at this
 have zr:(aG 0 1 n).length<=1000000:=by rw[aP];have:=B.hn;lia
 have nx:=qS (c:=c) h2.1 h2.2
 suffices h:∃(J l:D),dF G Bq (aH 21 [wD ns M n F ms c,eA p0 p1 p2 p3,.lst (b5 kn),.int want,.int ((d:Int)+1),.int nest,.int cell])=some (.rt J l)/\Res (2*cst d) (2*d+3) p0 p2 p3 (some (J,l)) by
  obtain⟨J,l,e,h⟩:=h;rw[j9 e];exact h
 unfold dF;rw[show aH 21 [wD ns M n F ms c,eA p0 p1 p2 p3,.lst (b5 kn),.int want,.int ((d:Int)+1),.int nest,.int cell]=[some (wD ns M n F ms c),some (eA p0 p1 p2 p3),some (.lst (b5 kn)),some (.int want),some (.int ((d:Int)+1)),some (.int nest),some (.int cell),none,none,none,none,none,none,none,none,none,none,none,none,none,none]from rfl];have un:b9 6 (aR (aJ 7) (aR (aJ 8) (aR (aJ 9) (aR (aJ 10) (aR (aJ 11) (aR (aJ 12) fV)))))) (wD ns M n F ms c) [some (wD ns M n F ms c),some (eA p0 p1 p2 p3),some (.lst (b5 kn)),some (.int want),some (.int ((d:Int)+1)),some (.int nest),some (.int cell),none,none,none,none,none,none,none,none,none,none,none,none,none,none]=some [some (wD ns M n F ms c),some (eA p0 p1 p2 p3),some (.lst (b5 kn)),some (.int want),some (.int ((d:Int)+1)),some (.int nest),some (.int cell),some (.lst (ns.map .int)),some (.int M),some (.lst (F.map bA)),some (.lst (ms.map eB)),some (a9 n (RT (F.map (red M)))),some (.lst (bO c 8)),none,none,none,none,none,none,none,none]:=rfl;have ad:∀ {J l:D} {q:Qv} {ρ:bJ},q ρ=some (.rt J l)->Res (2*cst d) (2*d+3) p0 p2 p3 (some (J,l))->∃J l,q ρ=some (.rt J l)/\Res (2*cst d) (2*d+3) p0 p2 p3 (some (J,l)):=λa b=>⟨_,_,a,b⟩
 have dm:(d:Int)+1-1=(d:Int):=by lia
 by_cases c5:cell%8=5
 ·have pp:=h5 c5
  have j0:=T4 (cell/8) (UV np);have j1:=T5 (cell/8) np;have dj:eG (.int (cell/8)) (.int (n:Int))=some (.int (cell/8%(n:Int))):=bX np;generalize cell/8%(n:Int)=j at j0 j1 dj;obtain⟨pa,ra,a0,N,a2,a3,ea,aj,au,am,la,ga⟩:=Hg (kn:=kn) (want:=j) (nest:=nest) (p0:=p0) (p1:=p1) (p2:=p2+1) (p3:=p3-1) hk (by lia) ⟨j0,j1⟩ (by lia) (by lia) (by lia);obtain⟨pb,Y,b0,b1,b2,b3,W,ae,as,aw,lb,gb⟩:=Hg (kn:=kn++[(b6 c p2,j)]) (want:=want) (nest:=nest) (p0:=a0) (p1:=N) (p2:=a2) (p3:=a3) (wR hk ⟨j0,j1⟩) (by simp[-TF,-TH,aA,aB];lia) hw (by lia) (by lia) (by lia);rw[<- dm]at ea W;rw[sL]at W;apply ad
  ·ac_rfl
  ·refine⟨_,.tup [.str "let",.str (b6 c p2),.int j,ra,Y],b0,b1,b2,b3,rfl,by lia,by lia,by lia,?_,.tup λx U=>?_⟩
   ·rw[show p3.toNat=(p3-1).toNat+1 by lia]
    exact .lets (lb.mono (by lia))
   ·simp only[UH,UI,or_false]at U
    rcases U with rfl|rfl|rfl|rfl|rfl
    ·exact .str
    ·exact .str
    ·exact .int
    ·exact ga
    ·exact gb
 ·have a0:=T4 (cell/32) (UV kp)
  have N:=T5 (cell/32) kp;obtain⟨J,hd,_,ed⟩:=mO a0 N;obtain⟨k,rfl,k0,k1,hr⟩:=hK J hd;obtain⟨w,ew,wl⟩:=dO (cell:=cell/192) B.g B.hn.2 k0 hw hr;obtain⟨pa,ra,a0,N,a2,a3,ea,aj,au,am,la,ga⟩:=Hg (kn:=kn) (want:=k) (nest:=nest) (p0:=p0) (p1:=p1) (p2:=p2+1) (p3:=p3) hk (by lia) ⟨k0,k1⟩ (by lia) (by lia) (by lia);obtain⟨pb,Y,b0,b1,b2,b3,W,ae,as,aw,lb,gb⟩:=Hg (kn:=kn++[(b6 c p2,k)]) (want:=k) (nest:=nest+1) (p0:=a0) (p1:=N) (p2:=a2) (p3:=a3) (wR hk ⟨k0,k1⟩) (by simp[-TF,-TH,aA,aB];lia) ⟨k0,k1⟩ (by lia) (by lia) (by lia);rw[<- dm]at ea W;rw[sL]at W;apply ad
  ·ac_rfl
  ·refine⟨_,.tup [.str "again",.int _,.int k,.str (b6 c p2),ra,Y,tupI w],b0,b1,b2,b3,rfl,by lia,by lia,by lia,LR.base (l:=[.int _,.int k,.str _,ra,Y]) (by decide) (by simp[-TF,-TH,aA,aB]) (by lia),.tup λx U=>?_⟩
   simp only[UH,UI,or_false]at U;rcases U with rfl|rfl|rfl|rfl|rfl|rfl|rfl
   ·exact .str
   ·exact .int
   ·exact .int
   ·exact .str
   ·exact ga
   ·exact gb
   ·exact .ints
theorem bL{s t:Qv}{ρ ρ':bJ}{R:D->D->Prop}(h:s ρ=some (.nx ρ'))(k:∃d l,t ρ'=some (.rt d l)/\R d l):∃d l,nB s t ρ=some (.rt d l)/\R d l:=by
 obtain⟨d,l,e,r⟩:=k;exact⟨d,l,mF h (DM e),r⟩
theorem kB{s t:Qv}{ρ:bJ}{d l:D}{R:D->D->Prop}(h:s ρ=some (.rt d l))(r:R d l):∃d l,nB s t ρ=some (.rt d l)/\R d l:=⟨d,l,mF h rfl,r⟩
theorem wK{i z zc:Nat}{ms:List (Option Nat)}{it:Lv}{g:Gv}{f:Qe}{ρ q ρ':bJ}{y l:D}{xs ds:List D}(hz:aD z ρ=some y)(hi:it ρ=some xs)(zs:xs.length<=1000000)(B:oZ zc g f xs (i5 ms ρ)=some (ds,q))(F:aD zc q=some l)(k:(ρ.set z (some l)).set i (some (.lst ds))=ρ'):xZ i z zc ms it g f ρ=some (.nx ρ'):=by
 unfold xZ;rw[hz,aA];refine xD ?_ k;unfold xY;rw[hi,aA];refine(if_pos (decide_eq_true zs)).trans ?_;rw[B,aA,F,aB]
theorem xO{R:List Ro}{n:Nat}{ms:List Mk}{want:Int}(ho:∀m∈ms,OkM (n:Int) 7 m)(h0:0<=want)(h1:want<(n:Int)):∃L:List D,bF (aJ 0) (fW (a8 aI (a8 aI (aD 1) (a8 aI (a8 aI (aD 2) (aD 0)) (eC (.int 2)))) (aD 3))) (aD 0) (aG 0 1 ms.length) [none,some (a9 n (RT R)),some (.lst (ms.map eB)),some (.int want)]=some L/\∀d∈L,∃(v:Int) (m:Mk),d=.int v/\m∈ms/\dW (ms.map eB) v=some (eB m)/\Rch R m.gv want:=by
 have at_:∀i:Nat,i<ms.length->∃m∈ms,dW (ms.map eB) (0+(i:Int)*1)=some (eB m)/\ms[i]?=some m:=λi hi=>by
  refine⟨ms[i],XX hi,?_,UU hi⟩;rw[show(0:Int)+(i:Int)*1=(i:Int) by lia];exact bZ (by rw[T6,UU hi];rfl)
 refine⟨_,cJ (p:=λd=>match d with | .int j=>(match ms[j.toNat]? with|some m=>RT R m.gv want|none=>false)|_=>false) (aG 0 1 ms.length) none (λx M=>?_),λd U=>?_⟩
 ·obtain⟨i,hi⟩:=List.mem_iff_getElem?.mp M
  obtain⟨q,rfl⟩:=aS hi;obtain⟨m,J,B,G⟩:=at_ i q;have ok:=(ho m J).gv;have N:=iX (K:=n) (P:=RT R) ok.1 ok.2;have rt:=gH (K:=n) (p:=RT R m.gv) h0 h1;have Y:aI (eB m) (.int 2)=some (.int m.gv):=rfl;dsimp only;rw[show((0:Int)+(i:Int)*1).toNat=i by lia,G];exact qW (cQ (cQ rfl (cQ (cQ rfl rfl (IV B)) rfl Y) N) rfl rt)
 ·obtain⟨W,F⟩:=List.mem_filter.mp U
  obtain⟨i,hi⟩:=List.mem_iff_getElem?.mp W;obtain⟨q,rfl⟩:=aS hi;obtain⟨m,J,B,G⟩:=at_ i q;dsimp only at F;rw[show((0:Int)+(i:Int)*1).toNat=i by lia,G]at F;exact⟨_,m,rfl,J,B,c6.mp F⟩
theorem f7{G:Fq}{ns:List Int}{M c:Int}{n d:Nat}{B:List Ro}{ms:List Mk}(Hg:GH G ns M c n B ms d){kn:List (Str×Int)}(hk:∀p∈kn,0<=p.2/\p.2<(n:Int))(kl:kn.length+d<=90){nest:Int}:∀(ks:List Int) (o:Option D) (p0 p1 p2 p3:Int),(∀k∈ks,0<=k/\k<(n:Int))->0<=p0/\p0+(ks.length:Int)*cst d<=900->0<=p2/\p2<=8->0<=p3->∃(q:List (D×D)) (o':Option D) (F U N J:Int),oZ 2 (aJ 0) (cA 2 G (aD 1) (aQ (aD 3) (aQ (aD 0) (aQ (a8 HW (aD 4) (eC (.int 1))) (aQ (aD 5) cN))))) (ks.map .int) [o,some (wD ns M n B ms c),some (eA p0 p1 p2 p3),some (.lst (b5 kn)),some (.int ((d:Int)+1)),some (.int nest)]=some (q.map λp=>.tup [p.1,p.2],[o',some (wD ns M n B ms c),some (eA F U N J),some (.lst (b5 kn)),some (.int ((d:Int)+1)),some (.int nest)])/\q.length=ks.length/\(p0<=F/\F<=p0+(ks.length:Int)*cst d)/\(p2<=N/\N<=8)/\(0<=J/\J<=p3)/\∀p∈q,Gd (2*d+2) p.2
 | [],o,p0,p1,p2,p3,_,h0,h2,h3=>⟨[],o,p0,p1,p2,p3,rfl,rfl,by simp[-TF,-TH,aA,aB],by lia,by lia,λ_ h=>nomatch h⟩
 | k::ks,o,p0,p1,p2,p3,hks,h0,h2,h3=>by
  have cp:=kK d;have lc:((k::ks).length:Int)*cst d=(ks.length:Int)*cst d+cst d:=by
   rw[UK,Int.natCast_add,Int.add_mul];simp[-TF,-TH,aA,aB]
  have nn:0<=(ks.length:Int)*cst d:=Int.mul_nonneg (by lia) (by lia);rw[lc]at h0 ⊢;obtain⟨pa,ra,a0,W,Y,a3,ea,aj,an,ak,la,ga⟩:=Hg (kn:=kn) (want:=k) (nest:=nest) (p0:=p0) (p1:=p1) (p2:=p2) (p3:=p3) hk kl (hks k (UL ..)) (by lia) h2 h3;obtain⟨q,o',F,U,N,J,e,hl,g0,g2,g3,gg⟩:=f7 Hg hk kl ks (some (.int k)) a0 W Y a3 (λx hx=>hks x (UG _ hx)) (by lia) (by lia) (by lia);refine⟨(pa,ra)::q,o',F,U,N,J,?_,by rw[UK,UK,hl],by lia,by lia,by lia,λp hp=>?_⟩
  ·have dm:(d:Int)+1-1=(d:Int):=by lia
   rw[<- dm]at ea;have ec:cA 2 G (aD 1) (aQ (aD 3) (aQ (aD 0) (aQ (a8 HW (aD 4) (eC (.int 1))) (aQ (aD 5) cN)))) [some (.int k),some (wD ns M n B ms c),some (eA p0 p1 p2 p3),some (.lst (b5 kn)),some (.int ((d:Int)+1)),some (.int nest)]=some (.tup [pa,ra],eA a0 W Y a3):=by ac_rfl
   rw[TU,oZ,show aJ 0 (.int k) [o,some (wD ns M n B ms c),some (eA p0 p1 p2 p3),some (.lst (b5 kn)),some (.int ((d:Int)+1)),some (.int nest)]=some [some (.int k),some (wD ns M n B ms c),some (eA p0 p1 p2 p3),some (.lst (b5 kn)),some (.int ((d:Int)+1)),some (.int nest)]from rfl,aA,ec,aA];exact(congrArg (Option.map _) e).trans rfl
  ·rcases List.mem_cons.mp hp with z|z
   ·rw[z];exact ga
   ·exact gg p z
theorem lV:∀(prs:List (D×D)) (o:Option D),bF (aJ 0) mS (a8 aI (aD 0) (eC (.int 0))) (prs.map λp=>.tup [p.1,p.2]) [o]=some (prs.map (·.1))
 | [],_=>rfl
 | p::prs,o=>hZ (ρ':=[some (.tup [p.1,p.2])]) rfl rfl (cQ rfl rfl rfl) (lV prs _)
theorem l8:∀(prs:List (D×D)) (o:Option D),bF (aJ 0) mS (a8 aI (aD 0) (eC (.int 1))) (prs.map λp=>.tup [p.1,p.2]) [o]=some (prs.map (·.2))
 | [],_=>rfl
 | p::prs,o=>hZ (ρ':=[some (.tup [p.1,p.2])]) rfl rfl (cQ rfl rfl rfl) (l8 prs _)
theorem DI{a:Bv}{s t u:Qv}{ρ:bJ}{R:D->D->Prop}(h:a ρ=some true)(k:∃d l,s ρ=some (.rt d l)/\R d l):∃d l,nB (IG a s t) u ρ=some (.rt d l)/\R d l:=by
 obtain⟨d,l,e,r⟩:=k;exact⟨d,l,mF (DY h (HP rfl e)) rfl,r⟩
theorem vI{a:Bv}{s u:Qv}{ρ:bJ}{R:D->D->Prop}(h:a ρ=some false)(k:∃d l,u ρ=some (.rt d l)/\R d l):∃d l,nB (IG a s QA) u ρ=some (.rt d l)/\R d l:=by
 obtain⟨d,l,e,r⟩:=k;exact⟨d,l,mF (DY h (ND rfl rfl)) (DM e),r⟩
theorem DH{f:Ev}{ρ:bJ}{xs:List D}(h:f ρ=some (.tup xs)):jY f ρ=some xs:=by unfold jY;rw[h,aA]
theorem wJ{a:Bv}{c:Bool}{s u:Qv}{ρ:bJ}{R:D->D->Prop}(h:a ρ=some c)(q:c=false)(k:∃d l,u ρ=some (.rt d l)/\R d l):∃d l,nB (IG a s QA) u ρ=some (.rt d l)/\R d l:=vI (q ▸ h) k
theorem GG{a:Bv}{c:Bool}{s t u:Qv}{ρ:bJ}{R:D->D->Prop}(h:a ρ=some c)(q:c=true)(k:∃d l,s ρ=some (.rt d l)/\R d l):∃d l,nB (IG a s t) u ρ=some (.rt d l)/\R d l:=DI (q ▸ h) k
theorem AU{a:Bv}{s u:Qv}{ρ:bJ}{R:D->D->Prop}(p:Prop)(h:a ρ=some true/\p\/a ρ=some false)(hs:p->∃d l,s ρ=some (.rt d l)/\R d l)(q:∃d l,u ρ=some (.rt d l)/\R d l):∃d l,nB (IG a s QA) u ρ=some (.rt d l)/\R d l:=by
 rcases h with⟨h,z⟩|h
 ·exact DI h (hs z)
 ·exact vI h q
theorem qA{s:Qv}{ρ:bJ}{d l:D}{R:D->D->Prop}(h:s ρ=some (.rt d l))(r:R d l):∃d l,s ρ=some (.rt d l)/\R d l:=⟨d,l,h,r⟩
def BH(G:Fq)(ns:List Int)(M c:Int)(n:Nat)(q:List Ro)(ms:List Mk)(d:Nat):Prop:=∀ {kn:List (Str×Int)} {want nest cell p0 p1 p2 p3:Int},(∀p∈kn,0<=p.2/\p.2<(n:Int))->kn.length+(d+1)<=90->0<=want/\want<(n:Int)->0<=p0/\p0+2*cst d<=900->0<=p2/\p2<8->0<=p3->(cell%8=5->0<p3)->Res (2*cst d) (2*d+3) p0 p2 p3 (G [wD ns M n q ms c,eA p0 p1 p2 p3,.lst (b5 kn),.int want,.int ((d:Int)+1),.int nest,.int cell])
theorem Res.to{k G:Int}{q F:Nat}{p0 p2 p3 B:Int}{r:D×D}(h:Res k q B p2 p3 (some r))(a:p0<=B)(b:B+k<=p0+G)(c:q<=F):Res G F p0 p2 p3 (some (r.1,r.2)):=by
 obtain⟨x,y,U,M,W,N,e,h0,h2,J,l,g⟩:=h;exact⟨x,y,U,M,W,N,e,by lia,h2,J,l,g.mono c⟩
theorem rX{G Bq:Fq}{ns:List Int}{M c:Int}{n d:Nat}{F:List Ro}{ms:List Mk}(B:Wo M n F ms)(Hg:GH G ns M c n F ms d)(Hb:BH Bq ns M c n F ms d){kn:List (Str×Int)}(hk:∀p∈kn,0<=p.2/\p.2<(n:Int))(kl:kn.length+(d+1)<=90){want nest p0 p1 p2 p3:Int}(hw:0<=want/\want<(n:Int))(h0:0<=p0/\p0+cst (d+1)<=900)(h2:0<=p2/\p2<=8)(h3:0<=p3):Res (cst (d+1)) (2*(d+1)+2) p0 p2 p3 (m9 21 (bS G Bq) [wD ns M n F ms c,eA p0 p1 p2 p3,.lst (b5 kn),.int want,.int ((d:Int)+1),.int nest]):=by
 have cp:=kK d;have cs:cst (d+1)=2+3*cst d:=rfl;rw[cs]at h0 ⊢;have np:0<(n:Int):=by have:=B.hn;lia
 obtain⟨f,hf⟩:=cY ns;have fk:=hf (p0+1) (by lia) (by lia);generalize f (p0+1)=cell at fk;obtain⟨L,cL,hL⟩:=xO (R:=F.map (red M)) B.mo hw.1 hw.2;obtain⟨K,cn,kp,kk,hK⟩:=qD (R:=F.map (red M)) hw.1 hw.2;have el:dS [a9 n (RT (F.map (red M)))]=some (.int (n:Int)):=by unfold a9;rw[q_lenL,TL,YQ]
 have rl:bH [.int (n:Int)]=some (aG 0 1 n):=by
  have:=aY (show(0:Int)<=(n:Int) by lia) (show(n:Int)<=1000000 by have:=B.hn;lia)
  rwa [U5]at this
 have zr:(aG 0 1 n).length<=1000000:=by rw[aP];have:=B.hn;lia
 have em:dS [.lst (ms.map eB)]=some (.int (ms.length:Int)):=by rw[q_lenL,TL]
 have rm:bH [.int (ms.length:Int)]=some (aG 0 1 ms.length):=by
  have:=aY (show(0:Int)<=(ms.length:Int) by lia) (show(ms.length:Int)<=1000000 by have:=B.ml;lia)
  rwa [U5]at this
 have zm:(aG 0 1 ms.length).length<=1000000:=by rw[aP];have:=B.ml;lia
 suffices h:∃(N l:D),bS G Bq (aH 21 [wD ns M n F ms c,eA p0 p1 p2 p3,.lst (b5 kn),.int want,.int ((d:Int)+1),.int nest])=some (.rt N l)/\Res (2+3*cst d) (2*(d+1)+2) p0 p2 p3 (some (N,l)) by
  obtain⟨N,l,e,h⟩:=h;rw[j9 e];exact h
 unfold bS;rw[show aH 21 [wD ns M n F ms c,eA p0 p1 p2 p3,.lst (b5 kn),.int want,.int ((d:Int)+1),.int nest]=[some (wD ns M n F ms c),some (eA p0 p1 p2 p3),some (.lst (b5 kn)),some (.int want),some (.int ((d:Int)+1)),some (.int nest),none,none,none,none,none,none,none,none,none,none,none,none,none,none,none]from rfl];have un:b9 6 (aR (aJ 6) (aR (aJ 7) (aR (aJ 8) (aR (aJ 9) (aR (aJ 10) (aR (aJ 11) fV)))))) (wD ns M n F ms c) [some (wD ns M n F ms c),some (eA p0 p1 p2 p3),some (.lst (b5 kn)),some (.int want),some (.int ((d:Int)+1)),some (.int nest),none,none,none,none,none,none,none,none,none,none,none,none,none,none,none]=some [some (wD ns M n F ms c),some (eA p0 p1 p2 p3),some (.lst (b5 kn)),some (.int want),some (.int ((d:Int)+1)),some (.int nest),some (.lst (ns.map .int)),some (.int M),some (.lst (F.map bA)),some (.lst (ms.map eB)),some (a9 n (RT (F.map (red M)))),some (.lst (bO c 8)),none,none,none,none,none,none,none,none,none]:=rfl;refine bL (vO rfl un) (bL (by ac_rfl) (bL (by ac_rfl) (bL (by ac_rfl) (bL (by ac_rfl) ?_))));have d0:¬ (d:Int)+1=0:=by lia
 have ac:∃N l,cV [wD ns M n F ms c,eA (p0+1) (p1-1) p2 p3,.lst (b5 kn),.int want,.int (cell/8)]=some (N,l)/\Res (2+3*cst d) (2*(d+1)+2) p0 p2 p3 (some (N,l)):=by
  have r:=kR (ns:=ns) (c:=c) (cell:=cell/8) (p1:=p1-1) B hk (by lia) hw (show 0<=p0+1/\p0+1<=900 by lia) h2.2 h3;obtain⟨x,y,W,U,q2,Y,e,rest⟩:=r;exact⟨_,_,e,Res.to (r:=(_,_)) ⟨x,y,W,U,q2,Y,rfl,rest⟩ (by lia) (by lia) (by lia)⟩
 obtain⟨ld,ll,le,lr⟩:=ac;by_cases h1:p1-1<0
 ·exact kB (by ac_rfl) lr
 by_cases ax:cell%8<2
 ·exact kB (by ac_rfl) lr
 by_cases ad:cell%8<5
 ·by_cases h4:(L.length:Int)=0
  ·exact kB (by ac_rfl) lr
  ·have c1:0<(L.length:Int):=by lia
   have a0:=T4 (cell/8) (UV c1);have a1:=T5 (cell/8) c1;obtain⟨N,hd,_,ed⟩:=mO a0 a1;obtain⟨v,m,rfl,hm,az,hr⟩:=hL N hd;have ok:=B.mo m hm;obtain⟨w,ew,wl⟩:=dO (cell:=cell/48) B.g B.hn.2 ok.gv.1 hw hr;have tl:m.tk.length<=2:=by rcases ok.tk with⟨t,e⟩|⟨t,u,e⟩ <;> rw[e] <;> simp[-TF,-TH,aA,aB]
   have tc:(m.tk.length:Int)*cst d<=2*cst d:=Int.mul_le_mul_of_nonneg_right (by lia) (by lia);obtain⟨q,o',W,U,q2,Y,ec,pl,g0,g2,g3,gg⟩:=f7 Hg hk (by lia) (nest:=nest) m.tk none (p0+1) (p1-1) p2 p3 ok.tb (by lia) h2 h3;have pz:(q.map λp=>D.tup [p.1,p.2]).length<=1000000:=by rw[TL];lia
   have tz:(m.tk.map D.int).length<=1000000:=by rw[TL];lia
   have cf:=lV q none;have cg:=l8 q none;have bi:aI (eB m) (.int 0)=some (.str m.nm):=rfl;have be:aI (eB m) (.int 1)=some (.tup (m.tk.map .int)):=rfl;have bc:aI (eB m) (.int 2)=some (.int m.gv):=rfl;refine wJ (c:=decide ((L.length:Int)=0)) (by ac_rfl) (decide_eq_false h4) ?_;refine GG (c:=decide (cell%8<5)) (by ac_rfl) (decide_eq_true ad) ?_;refine bL (by ac_rfl) ?_;dsimp only[VJ];refine bL (wK (y:=eA (p0+1) (p1-1) p2 p3) rfl (DH (by ac_rfl)) tz ec rfl (by dsimp only[VJ])) ?_;refine qA (by ac_rfl) ?_;refine⟨_,.tup [.str "use",.int v,.tup (q.map (·.2)),tupI w],W,U,q2,Y,rfl,by lia,by lia,by lia,LR.base (l:=[.int v,.tup (q.map (·.2))]) (by decide) (by simp[-TF,-TH,aA,aB]) (by lia),?_⟩;rw[show 2*(d+1)+2=(2*d+3)+1 by lia];refine .tup λx J=>?_
   simp only[UH,UI,or_false]at J;rcases J with rfl|rfl|rfl|rfl
   ·exact .str
   ·exact .int
   ·refine .tup λx J=>?_
    obtain⟨p,hp,rfl⟩:=List.mem_map.mp J;exact gg p hp
   ·exact .ints
 refine vI (by ac_rfl) ?_;refine wJ (c:=decide (cell%8<5)) (by ac_rfl) (decide_eq_false ad) ?_;refine AU (p2<8/\(cell%8=5->0<p3)) ?_ (λhp=>?_) ?_
 ·by_cases h4:p2<8
  ·by_cases h5:cell%8=5
   ·have h7:¬ cell%8=7:=by lia
    by_cases h6:0<p3
    ·exact .inl ⟨by ac_rfl,h4,λ_=>h6⟩
    ·exact .inr (by ac_rfl)
   ·by_cases h7:cell%8=7
    ·by_cases h6:nest<2
     ·exact .inl ⟨Eq.trans (b:=some (decide (nest<2))) (by ac_rfl) (by rw[decide_eq_true h6]),h4,λz=>absurd z h5⟩
     ·exact .inr (Eq.trans (b:=some (decide (nest<2))) (by ac_rfl) (by rw[decide_eq_false h6]))
    ·exact .inr (by ac_rfl)
  ·exact .inr (by ac_rfl)
 ·have r:=Hb (kn:=kn) (want:=want) (nest:=nest) (cell:=cell) (p0:=p0+1) (p1:=p1-1) (p2:=p2) (p3:=p3) hk kl hw (by lia) ⟨h2.1,hp.1⟩ h3 hp.2
  obtain⟨x,y,W,U,q2,Y,e,rest⟩:=r;exact qA (by ac_rfl) (Res.to (r:=(_,_)) ⟨x,y,W,U,q2,Y,rfl,rest⟩ (by lia) (by lia) (by lia))
 ·have j0:=T4 (cell/8) (UV np)
  have j1:=T5 (cell/8) np;have dj:eG (.int (cell/8)) (.int (n:Int))=some (.int (cell/8%(n:Int))):=bX np;generalize cell/8%(n:Int)=j at j0 j1 dj;have a0:=T4 (cell/48) (UV kp);have a1:=T5 (cell/48) kp;obtain⟨N,hd,_,ed⟩:=mO a0 a1;obtain⟨k,rfl,k0,k1,hr⟩:=hK N hd;obtain⟨w,ew,wl⟩:=dO (cell:=cell/288) B.g B.hn.2 k0 hw hr;obtain⟨q,o',W,U,q2,Y,ec,pl,g0,g2,g3,gg⟩:=f7 Hg hk (by lia) (nest:=nest) [j,k,k] none (p0+1) (p1-1) p2 p3 (by intro i hi;simp[-TF,-TH,aA,aB]at hi;rcases hi with rfl|rfl <;> lia) (by simp[-TF,-TH,aA,aB];lia) h2 h3;simp only[UK,WL]at pl g0;have pz:(q.map λp=>D.tup [p.1,p.2]).length<=1000000:=by rw[TL];lia
  have tz:([j,k,k].map D.int).length<=1000000:=by simp[-TF,-TH,aA,aB]
  have cf:=lV q none;have cg:=l8 q none;have s1:fJ (.tup [.str "pick",.int j,.int k]) (some 1) none=some (.tup [.int j,.int k]):=rfl;have s2:fJ (.tup [.str "pick",.int j,.int k]) (some 2) none=some (.tup [.int k]):=rfl;have s3:bD (.tup [.int j,.int k]) (.tup [.int k])=some (.tup ([j,k,k].map .int)):=oW (by simp[-TF,-TH,aA,aB]);have t1:bD (.tup [.str "pick",.int j,.int k]) (.tup (q.map (·.1)))=some (.tup ([.str "pick",.int j,.int k]++q.map (·.1))):=oW (by simp[-TF,-TH,aA,aB];lia);have t2:bD (.tup [.str "pick",.int j,.int k]) (.tup (q.map (·.2)))=some (.tup ([.str "pick",.int j,.int k]++q.map (·.2))):=oW (by simp[-TF,-TH,aA,aB];lia);have t3:bD (.tup ([.str "pick",.int j,.int k]++q.map (·.2))) (.tup [tupI w])=some (.tup (([.str "pick",.int j,.int k]++q.map (·.2))++[tupI w])):=oW (by simp[-TF,-TH,aA,aB];lia);refine bL (by ac_rfl) ?_;refine bL (by ac_rfl) ?_;dsimp only[VJ];refine bL (wK (y:=eA (p0+1) (p1-1) p2 p3) rfl (DH (by ac_rfl)) tz ec rfl (by dsimp only[VJ])) ?_;refine qA (by ac_rfl) ?_;refine⟨_,.tup (([.str "pick",.int j,.int k]++q.map (·.2))++[tupI w]),W,U,q2,Y,rfl,by lia,by lia,by lia,LR.base (l:=[.int j,.int k]++q.map (·.2)) (by decide) (by simp[-TF,-TH,aA,aB];lia) (by lia),?_⟩;rw[show 2*(d+1)+2=(2*d+3)+1 by lia];refine .tup λx J=>?_
  rcases List.mem_append.mp J with J|J
  ·rcases List.mem_append.mp J with J|J
   ·simp only[UH,UI,or_false]at J
    rcases J with rfl|rfl|rfl
    ·exact .str
    ·exact .int
    ·exact .int
   ·obtain⟨p,hp,rfl⟩:=List.mem_map.mp J
    exact(gg p hp).mono (by lia)
  ·rw[List.mem_singleton.mp J];exact .ints
theorem pO{G Bq:Fq}{ns:List Int}{M c:Int}{n:Nat}{q:List Ro}{ms:List Mk}(B:Wo M n q ms){kn:List (Str×Int)}(W:∀p∈kn,0<=p.2/\p.2<(n:Int))(kl:kn.length<=90){want nest p0 p1 p2 p3:Int}(hw:0<=want/\want<(n:Int))(h0:0<=p0/\p0+2<=900)(h2:0<=p2/\p2<=8)(J:0<=p3):Res 2 2 p0 p2 p3 (m9 21 (bS G Bq) [wD ns M n q ms c,eA p0 p1 p2 p3,.lst (b5 kn),.int want,.int 0,.int nest]):=by
 obtain⟨f,U⟩:=cY ns;have fk:=U (p0+1) (by lia) (by lia);generalize f (p0+1)=cell at fk;obtain⟨L,cL,hL⟩:=xO (R:=q.map (red M)) B.mo hw.1 hw.2;have em:dS [.lst (ms.map eB)]=some (.int (ms.length:Int)):=by rw[q_lenL,TL]
 have rm:bH [.int (ms.length:Int)]=some (aG 0 1 ms.length):=by
  have:=aY (show(0:Int)<=(ms.length:Int) by lia) (show(ms.length:Int)<=1000000 by have:=B.ml;lia)
  rwa [U5]at this
 have zm:(aG 0 1 ms.length).length<=1000000:=by rw[aP];have:=B.ml;lia
 suffices h:∃(F l:D),bS G Bq (aH 21 [wD ns M n q ms c,eA p0 p1 p2 p3,.lst (b5 kn),.int want,.int 0,.int nest])=some (.rt F l)/\Res 2 2 p0 p2 p3 (some (F,l)) by
  obtain⟨F,l,e,h⟩:=h;rw[j9 e];exact h
 unfold bS;rw[show aH 21 [wD ns M n q ms c,eA p0 p1 p2 p3,.lst (b5 kn),.int want,.int 0,.int nest]=[some (wD ns M n q ms c),some (eA p0 p1 p2 p3),some (.lst (b5 kn)),some (.int want),some (.int 0),some (.int nest),none,none,none,none,none,none,none,none,none,none,none,none,none,none,none]from rfl];have un:b9 6 (aR (aJ 6) (aR (aJ 7) (aR (aJ 8) (aR (aJ 9) (aR (aJ 10) (aR (aJ 11) fV)))))) (wD ns M n q ms c) [some (wD ns M n q ms c),some (eA p0 p1 p2 p3),some (.lst (b5 kn)),some (.int want),some (.int 0),some (.int nest),none,none,none,none,none,none,none,none,none,none,none,none,none,none,none]=some [some (wD ns M n q ms c),some (eA p0 p1 p2 p3),some (.lst (b5 kn)),some (.int want),some (.int 0),some (.int nest),some (.lst (ns.map .int)),some (.int M),some (.lst (q.map bA)),some (.lst (ms.map eB)),some (a9 n (RT (q.map (red M)))),some (.lst (bO c 8)),none,none,none,none,none,none,none,none,none]:=rfl;refine bL (vO rfl un) (bL (by ac_rfl) (bL (by ac_rfl) (bL (by ac_rfl) (bL (by ac_rfl) ?_))));have d0:(0:Int)=0:=rfl;obtain⟨x,y,q0,N,q2,Y,e,rest⟩:=kR (ns:=ns) (c:=c) (cell:=cell/8) (p1:=p1-1) B W (by lia) hw (show 0<=p0+1/\p0+1<=900 by lia) h2.2 J;exact kB (by ac_rfl) (Res.to (r:=(_,_)) ⟨x,y,q0,N,q2,Y,rfl,rest⟩ (by lia) (by lia) (by lia))
theorem rP{ns:List Int}{M c:Int}{n:Nat}{G:List Ro}{ms:List Mk}(B:Wo M n G ms)(d:Nat):∀m:Nat,2*d+1<=m->GH (GB m).1 ns M c n G ms d:=by
 induction d with
 | zero=>
  intro m Y;obtain⟨m,rfl⟩:∃i,m=i+1:=⟨m-1,by lia⟩;intro kn want nest p0 p1 p2 p3 F J hw h0 h2 q;exact pO B F (by lia) hw h0 h2 q
 | succ d ih=>
  intro m Y;obtain⟨m,rfl⟩:∃i,m=(i+1)+1:=⟨m-2,by lia⟩;have N:GH (GB (m+1)).1 ns M c n G ms d:=ih (m+1) (by lia);have U:GH (GB m).1 ns M c n G ms d:=ih m (by lia);intro kn want nest p0 p1 p2 p3 F J hw h0 h2 q;rw[show(((d+1:Nat)):Int)=(d:Int)+1 by lia];refine rX (Bq:=(GB (m+1)).2) B N ?_ F J hw h0 h2 q;intro kn want nest cell p0 p1 p2 p3 F J hw h0 h2 q W;exact sD B U F J hw h0 h2 q W
theorem rN(ns:List Int){n:Nat}(hn:1<=n){c:Int}:∃kn:List (Str×Int),eM [.lst (ns.map .int),.int (n:Int),.lst (bO c 8)]=some (.lst (b5 kn))/\kn.length<=3/\∀p∈kn,0<=p.2/\p.2<(n:Int):=by
 obtain⟨f,M⟩:=cY ns;have N:=M 32 (by decide) (by decide);generalize f 32=cell at N;have F:(0:Int)<(n:Int):=by lia
 have B:∀y:Int,0<=y%(n:Int)/\y%(n:Int)<(n:Int):=λy=>⟨T4 _ (UV F),T5 _ F⟩
 have n0:=qS (c:=c) (p:=0) (by decide) (by decide);have n1:=qS (c:=c) (p:=1) (by decide) (by decide);have U:=qS (c:=c) (p:=2) (by decide) (by decide);have G:cell%4=0\/cell%4=1\/cell%4=2\/cell%4=3:=by lia
 have Y:aI (.lst [.int 4,.int 24,.int 144]) (.int 0)=some (.int 4):=rfl;have i1:aI (.lst [.int 4,.int 24,.int 144]) (.int 1)=some (.int 24):=rfl;have i2:aI (.lst [.int 4,.int 24,.int 144]) (.int 2)=some (.int 144):=rfl;have go:∀ {r:Int} {L:List D} (kn:List (Str×Int)),cell%4=r->bH [.int r]=some L->L.length<=1000000->bF (aJ 0) mS (nE (aQ (a8 aI (aD 1) (aD 0)) (aQ (a8 eG (a8 vX (aD 2) (a8 aI (uA (aQ (eC (.int 4)) (aQ (eC (.int 24)) (aQ (eC (.int 144)) cN)))) (aD 0))) (aD 3)) cN))) L [none,some (.lst (bO c 8)),some (.int cell),some (.int (n:Int))]=some (b5 kn)->eM [.lst (ns.map .int),.int (n:Int),.lst (bO c 8)]=some (.lst (b5 kn)):=λ{r L} kn J rl zl hc=>by
  have W:eG (.int cell) (.int 4)=some (.int r):=by rw[bX (by decide),J]
  refine bB ?_;unfold jS
  ac_rfl
 rcases G with h|h|h|h
 ·exact⟨[],go [] h (L:=[]) rfl (by decide) rfl,by simp[-TF,-TH,aA,aB],λ_ z=>nomatch z⟩
 ·refine⟨[(b6 c 0,cell/4%(n:Int))],go _ h (L:=[.int 0]) rfl (by simp[-TF,-TH,aA,aB]) (show _=some [D.tup [.str (b6 c 0),.int (cell/4%(n:Int))]] by ac_rfl),by simp[-TF,-TH,aA,aB],λp q=>?_⟩
  rw[List.mem_singleton.mp q];exact B _
 ·refine⟨[(b6 c 0,cell/4%(n:Int)),(b6 c 1,cell/24%(n:Int))],go _ h (L:=[.int 0,.int 1]) rfl (by simp[-TF,-TH,aA,aB]) (show _=some [D.tup [.str (b6 c 0),.int (cell/4%(n:Int))],D.tup [.str (b6 c 1),.int (cell/24%(n:Int))]] by ac_rfl),by simp[-TF,-TH,aA,aB],λp q=>?_⟩
  simp only[UH,UI,or_false]at q;rcases q with rfl|rfl <;> exact B _
 ·refine⟨[(b6 c 0,cell/4%(n:Int)),(b6 c 1,cell/24%(n:Int)),(b6 c 2,cell/144%(n:Int))],go _ h (L:=[.int 0,.int 1,.int 2]) rfl (by simp[-TF,-TH,aA,aB]) (show _=some [D.tup [.str (b6 c 0),.int (cell/4%(n:Int))],D.tup [.str (b6 c 1),.int (cell/24%(n:Int))],D.tup [.str (b6 c 2),.int (cell/144%(n:Int))]] by ac_rfl),by simp[-TF,-TH,aA,aB],λp q=>?_⟩
  simp only[UH,UI,or_false]at q;rcases q with rfl|rfl|rfl <;> exact B _
theorem B8{F:Fq}{f0 fl:Ev}{fs:Lv}{ρ:bJ}{q r z:D}{l es:List D}(h0:f0 ρ=some q)(B:fl ρ=some (.lst l))(hs:fs ρ=some es)(e:F (q::.lst l::es)=some (r,z)):qJ F f0 fl fs ρ=some r:=by
 unfold qJ;rw[h0,aA,B,aA,hs,aA];show(F (q::.lst l::es)).map (·.1)=_;rw[e,aB]
theorem mX(ns:List Int){M:Int}{n:Nat}{F:List Ro}{ms:List Mk}(B:Wo M n F ms):∃(kn:List (Str×Int)) (want:Int) (q G:D),fN [.lst (ns.map .int),.int M,.lst (F.map bA),.lst (ms.map eB),a9 n (RT (F.map (red M)))]=some (.tup [.lst (b5 kn),.int want,q,G])/\(0<=want/\want<(n:Int))/\LR 2 G/\Gd 10 G:=by
 obtain⟨f,Y⟩:=cY ns;have f1:=Y 31 (by decide) (by decide);have f2:=Y 32 (by decide) (by decide);generalize f 31=c at f1;generalize f 32=cell at f2;have J:(0:Int)<(n:Int):=by have:=B.hn;lia
 obtain⟨kn,eh,kl,hk⟩:=rN ns (c:=c) B.hn.1;have nn:dE [.int c,.int 8]=some (.lst (bO c 8)):=eN (c:=c) (many:=8) (by decide) (by decide);have el:dS [a9 n (RT (F.map (red M)))]=some (.int (n:Int)):=by unfold a9;rw[q_lenL,TL,YQ]
 have W:=T4 (cell/1000) (UV J);have U:=T5 (cell/1000) J;have dj:eG (.int (cell/1000)) (.int (n:Int))=some (.int (cell/1000%(n:Int))):=bX J;generalize cell/1000%(n:Int)=want at W U dj;have ek:dS [.lst (b5 kn)]=some (.int (kn.length:Int)):=by rw[q_lenL];unfold b5;rw[TL]
 obtain⟨q,G,q0,q1,q2,q3,N,g0,g2,g3,lr,gd⟩:=rP (ns:=ns) (c:=c) B 4 10 (by decide) (kn:=kn) (want:=want) (nest:=0) (p0:=37) (p1:=10) (p2:=(kn.length:Int)) (p3:=2) hk (by lia) ⟨W,U⟩ (by decide) (by lia) (by decide);have N:i8 [wD ns M n F ms c,.lst [.int 37,.int 10,.int (kn.length:Int),.int 2],.lst (b5 kn),.int want,.int 4,.int 0]=some (.tup [q,G],eA q0 q1 q2 q3):=N;refine⟨kn,want,q,G,?_,⟨W,U⟩,lr,gd⟩;refine bB ?_;unfold fS;rw[aN (bN (d:=.lst (bO c 8)) (by ac_rfl))];rw[aN (bN (d:=.lst (b5 kn)) (by ac_rfl))];rw[aN (bN (d:=.int want) (by ac_rfl))];rw[aN (bN (d:=wD ns M n F ms c) (show _=some (D.tup [.lst (ns.map .int),.int M,.lst (F.map bA),.lst (ms.map eB),a9 n (RT (F.map (red M))),.lst (bO c 8)]) by ac_rfl))];refine(aN (ρ':=[some (.lst (ns.map .int)),some (.int M),some (.lst (F.map bA)),some (.lst (ms.map eB)),some (a9 n (RT (F.map (red M)))),some (.lst (bO c 8)),some (.lst (b5 kn)),some (.int want),some (wD ns M n F ms c),some q,some G]) (C5 (B8 rfl (by ac_rfl) (by ac_rfl) N) rfl)).trans ?_
 ac_rfl
theorem N2(ns:List Int)(hl:ns.length<=63):bQ 14 DV [.lst (ns.map .int)]=some (.bl true):=by
 obtain⟨M,c,n,F,ms,eb,hM,hn,hr,hm,Y⟩:=uQ ns;have vb:=K6 (c:=c) hM hn hr hm Y;have g:=KB hM.1 hr.1 hr.2;have vr:=rY g hn.2;have B:Wo M n F ms:=⟨by lia,hn,g,hm,Y⟩;have np:(0:Int)<(n:Int):=by lia
 obtain⟨kn,j,G,U,vp,hj,lr,gd⟩:=mX ns B;have hB:aI (EI M c n F ms) (.int 2)=some (.tup ((F.map (red M)).map bA)):=rfl;have ec:dS [.lst (bO c n)]=some (.int (n:Int)):=by rw[q_lenL,eT]
 have rl:bH [.int (n:Int)]=some (aG 0 1 n):=by
  have:=aY (show(0:Int)<=(n:Int) by lia) (show(n:Int)<=1000000 by lia)
  rwa [U5]at this
 have mt:=iX (K:=n) (P:=RT (F.map (red M))) hj.1 hj.2;refine bB ?_;unfold DV;rw[aN (ρ':=[some (.lst (ns.map .int)),some (.int M),some (.lst (bO c n)),some (.lst (F.map bA)),some (.lst (ms.map eB)),none,none,none,none,none,none,none,none,none]) (by ac_rfl)];rw[aN (bN (d:=EI M c n F ms) (by ac_rfl))];rw[aN (bN (d:=a9 n (RT (F.map (red M)))) (by ac_rfl))];rw[aN (ρ':=[some (.lst (ns.map .int)),some (.int M),some (.lst (bO c n)),some (.lst (F.map bA)),some (.lst (ms.map eB)),some (EI M c n F ms),some (a9 n (RT (F.map (red M)))),some (.lst (b5 kn)),some (.int j),some G,some U,none,none,none]) (by ac_rfl)];refine d6 (items:=aG 0 1 n) (by ac_rfl) (λi ρ=>∃(W J N:Option D),ρ=[some (.lst (ns.map .int)),some (.int M),some (.lst (bO c n)),some (.lst (F.map bA)),some (.lst (ms.map eB)),some (EI M c n F ms),some (a9 n (RT (F.map (red M)))),some (.lst (b5 kn)),some (.int j),some G,some U,W,J,N]) ⟨none,none,none,rfl⟩ ?_ ?_
 ·rintro i y ρ hy ⟨W,J,N,rfl⟩
  obtain⟨ap,rfl⟩:=aS hy;have k0:0<=(0:Int)+(i:Int)*1:=by lia
  have k1:(0:Int)+(i:Int)*1<(n:Int):=by lia
  generalize (0:Int)+(i:Int)*1=k at k0 k1;have rt:=gH (K:=n) (p:=RT (F.map (red M)) j) k0 k1;by_cases hR:Rch (F.map (red M)) j k
  ·have tr:RT (F.map (red M)) j k=true:=c6.mpr hR
   rw[tr]at rt;obtain⟨v,ef,aa⟩:=rR g hn.2 hj.1 ⟨k0,k1⟩ hR;obtain⟨d,ew,hd⟩:=rT hB g ⟨hj.1,by lia⟩ ⟨k0,by lia⟩;rcases hd with⟨_,no⟩|⟨v',rfl,ab⟩
   ·exact absurd hR no
   have uq:=IsF.uniq g ab aa;subst uq;have vl:=IsF.len g aa;obtain⟨l,c1,c2,gl⟩:=FB ew (by lia) lr (q:=9) (f:=3) gd (by decide);have c1:nX [EI M c n F ms,U,.int j,.int k]=some (.tup l):=c1;have c2:oA [U,tupI v']=some (.tup l):=c2;have ne:=OA gl (by decide);have it:t8 "tuple" (D.tup l)=true:=rfl;generalize EI M c n F ms=bk at c1 ⊢;generalize a9 n (RT (F.map (red M)))=mm at mt ef ⊢;refine⟨[some (.lst (ns.map .int)),some (.int M),some (.lst (bO c n)),some (.lst (F.map bA)),some (.lst (ms.map eB)),some bk,some mm,some (.lst (b5 kn)),some (.int j),some G,some U,some (.int k),some (.tup l),some (.tup l)],?_,_,_,_,rfl⟩;refine mP (ρ':=[some (.lst (ns.map .int)),some (.int M),some (.lst (bO c n)),some (.lst (F.map bA)),some (.lst (ms.map eB)),some bk,some mm,some (.lst (b5 kn)),some (.int j),some G,some U,some (.int k),J,N]) rfl ?_
   ac_rfl
  ·have fl:RT (F.map (red M)) j k=false:=by
    cases h:RT (F.map (red M)) j k with
    | false=>rfl
    | true=>exact absurd (c6.mp h) hR
   rw[fl]at rt;refine⟨[some (.lst (ns.map .int)),some (.int M),some (.lst (bO c n)),some (.lst (F.map bA)),some (.lst (ms.map eB)),some (EI M c n F ms),some (a9 n (RT (F.map (red M)))),some (.lst (b5 kn)),some (.int j),some G,some U,some (.int k),J,N],?_,_,_,_,rfl⟩;refine mP (ρ':=[some (.lst (ns.map .int)),some (.int M),some (.lst (bO c n)),some (.lst (F.map bA)),some (.lst (ms.map eB)),some (EI M c n F ms),some (a9 n (RT (F.map (red M)))),some (.lst (b5 kn)),some (.int j),some G,some U,some (.int k),J,N]) rfl ?_
   ac_rfl
 ·rintro ρ ⟨W,J,N,rfl⟩
  simp[-TF,-TH,aA,aB]
theorem RK:Bds top tab:=by
 unfold tab
 repeat (refine Bds.cons ?_ ?_;· (repeat intro _);rfl)
 exact Bds.nil
theorem K0{l:zak}{w:World}{K:S9}{h:Heap}{mg:Str->Option Value}{fa:Addr}{k:Nat}(X:K.In h)(G:h.Ns UO mg)(al:mg "law" = some (.ref fa))(D:Des K top tab)(B:Nos K blt)(J:Gis K R0)
  {f0:Addr} {ak ae:Option Addr} {aj:Array (Option Value)} {ai ag af ad ac ah:Value} (a0:WW K UO "law" = some (some (.ref f0))) (l0:K.lookup f0=some ⟨ai,ak,.func (VX "law" "law" (cI s_law) (a6 s_law) (aE s_law) .none ag af ad ae ac ah),aj⟩) (c0:XB K ac "law" = true) (k0:WR K (.ref f0)=true)
  {q:Addr} {ab:Option Addr} {Y:Nat} {aa:Array (Option Value)} {N F U M:Tok} (gaWORDS:WW K UO "WORDS" = some (some (.ref q))) (glWORDS:K.lookup q=some ⟨.type "tuple",ab,.seq #[.str "let" N,.str "in" F,.str "pick" U,.str "again" M] Y,aa⟩)
  (ok:∀base:Heap,K.In base->base.Ns UO mg->Txt K mg->My.BodyOk l.prog w K mg base "law" s_law ["script", "M", "kinds", "roads", "makes", "made", "reach", "heads", "j", "part", "reading", "k", "found", "due"] k (My.t6 K)) :
  ∃fd:VG,(∀(s:S8) (v:Value),BindsTo s fd ⟨[v],[]⟩ [("script",v)])/\∀base:Heap,K.In base->base.Ns UO mg->FnOk l.prog w K mg base uD (k+1) fa fd ["script"] (My.t6 K):=by
 have e:=al.symm.trans (ZY X G a0);cases e;have F0:=DL (st:=s_law) l0 c0 k0;have T:Txt K mg:=⟨Des.d X G D RK,λx hx=>PySem.W.mg_none_of X G (B x hx),Gis.d X G J,⟨⟨_,ZY X G gaWORDS,_,_,_,glWORDS,rfl,rfl,by show 4<=TK;decide,.cons ⟨_,rfl⟩ (.cons ⟨_,rfl⟩ (.cons ⟨_,rfl⟩ (.cons ⟨_,rfl⟩ (.nil))))⟩⟩⟩;refine⟨VX "law" "law" (cI s_law) (a6 s_law) (aE s_law) .none ag af ad ae ac ah,λs v=>.of_eq rfl,λbase kb nb=>?_⟩;exact(ok base kb nb T).fn F0 sc_law (λvs H Q E h=>by obtain⟨a,ns,e,_⟩:=h;rw[e];rfl)
end Law
namespace PySem.W.Fast
theorem tw3784911984434449211:0=0:=rfl
theorem tw15482016619193050555:0=0:=rfl
theorem tw5258414955380055543:0=0:=rfl
theorem tw6034576764484504929:0=0:=rfl
theorem tw7274400402322298658:0=0:=rfl
theorem tw5472559025399946864:0=0:=rfl
theorem tw192232009852795237:0=0:=rfl
theorem tw49383654226267111:0=0:=rfl
theorem tw5135096888653559154:0=0:=rfl
theorem tw2987019600118410027:0=0:=rfl
theorem tw564361743706230427:0=0:=rfl
theorem tw5960098113198994728:0=0:=rfl
theorem tw8049640129163038514:0=0:=rfl
theorem tw6569787888657108118:0=0:=rfl
theorem tw5084560304212546411:0=0:=rfl
theorem tw1428551427505822396:0=0:=rfl
theorem tw12832360923147179385:0=0:=rfl
theorem tw9736170301517606497:0=0:=rfl
theorem tw6270721783511960525:0=0:=rfl
theorem tw8851912962687981555:0=0:=rfl
theorem tw8636145145029793099:0=0:=rfl
theorem tw6124484318082858220:0=0:=rfl
theorem tw200968632081263567:0=0:=rfl
theorem tw16407312728632366044:0=0:=rfl
theorem tw9139190269378253789:0=0:=rfl
theorem tw2260840463464811083:0=0:=rfl
theorem tw4498687471438227484:0=0:=rfl
theorem tw7644490306473025257:0=0:=rfl
theorem tw9038437686245508566:0=0:=rfl
theorem tw12333372952789691239:0=0:=rfl
theorem tw955790811202339479:0=0:=rfl
theorem tw348458380753151494:0=0:=rfl
theorem tw16597375450000407455:0=0:=rfl
theorem tw642857823719058314:0=0:=rfl
theorem tw8863314090006972367:0=0:=rfl
theorem tw8829326686198742097:0=0:=rfl
theorem tw272174301042478015:0=0:=rfl
theorem tw14211547786052401651:0=0:=rfl
theorem tw17047754875634965215:0=0:=rfl
theorem tw13783953747252150068:0=0:=rfl
theorem tw8705789120501079605:0=0:=rfl
theorem tw16487932734917969792:0=0:=rfl
theorem tw6944075923783719121:0=0:=rfl
theorem tw10574442749511845985:0=0:=rfl
theorem tw15106595018079316435:0=0:=rfl
theorem tw9682760906333701689:0=0:=rfl
theorem tw7656889564686311743:0=0:=rfl
theorem tw3499556381558717416:0=0:=rfl
theorem tw2692522645198826614:0=0:=rfl
theorem tw1903220752044135304:0=0:=rfl
theorem tw9525612912626995096:0=0:=rfl
theorem tw4316358466036007980:0=0:=rfl
theorem tw17705154988926859169:0=0:=rfl
theorem tw7924727061411316574:0=0:=rfl
theorem tw2373478616538089901:0=0:=rfl
theorem tw4252913251881310355:0=0:=rfl
theorem tw2968753485982987606:0=0:=rfl
theorem tw13716940519155950172:0=0:=rfl
theorem tw4405554109759716492:0=0:=rfl
theorem tw2582316595064970087:0=0:=rfl
theorem tw16782123763914705249:0=0:=rfl
theorem tw11361395570325361069:0=0:=rfl
theorem tw16079654435036827812:0=0:=rfl
theorem tw12387405516005934853:0=0:=rfl
theorem tw16402510496640503035:0=0:=rfl
theorem tw5140608725833612929:0=0:=rfl
theorem tw833254523012747978:0=0:=rfl
theorem tw15908828621652381898:0=0:=rfl
theorem tw2569801654773171491:0=0:=rfl
theorem tw3600566731838214716:0=0:=rfl
theorem tw12156791540255123512:0=0:=rfl
theorem tw16489690084120649596:0=0:=rfl
theorem tw893498185517995308:0=0:=rfl
theorem tw15544653468740955753:0=0:=rfl
theorem tw15182837179810233441:0=0:=rfl
theorem tw10253605296604600628:0=0:=rfl
theorem tw9456265322312236804:0=0:=rfl
theorem tw4876433604786108162:0=0:=rfl
theorem tw15555125700081503993:0=0:=rfl
theorem tw5994876991425311039:0=0:=rfl
theorem tw3307562289153300898:0=0:=rfl
theorem tw1633747878725946495:0=0:=rfl
theorem tw1447580739026968228:0=0:=rfl
theorem tw8046534978567314942:0=0:=rfl
theorem tw13181109108747753223:0=0:=rfl
theorem tw5530690673346139019:0=0:=rfl
theorem tw10847771518063121627:0=0:=rfl
theorem tw18118706747753603052:0=0:=rfl
theorem tw7436501055143153031:0=0:=rfl
theorem tw864619653842499535:0=0:=rfl
theorem tw10187983798476079104:0=0:=rfl
theorem tw12323864639616636080:0=0:=rfl
theorem tw4928156856367557300:0=0:=rfl
theorem tw6794057369236517294:0=0:=rfl
theorem tw17050480101672021485:0=0:=rfl
theorem tw10250665107065267044:0=0:=rfl
theorem tw8381077978637409265:0=0:=rfl
theorem tw9795402793425076618:0=0:=rfl
theorem tw2158757150795539931:0=0:=rfl
theorem tw3947605094096608737:0=0:=rfl
theorem tw9369184964904745509:0=0:=rfl
theorem tw14621594657820971085:0=0:=rfl
theorem tw10229822421886218555:0=0:=rfl
theorem tw7539735486187206995:0=0:=rfl
theorem tw17468500261819398611:0=0:=rfl
theorem tw11222275083905625078:0=0:=rfl
theorem tw6533336897272920500:0=0:=rfl
theorem tw10375541625556613782:0=0:=rfl
theorem tw13844915701606918708:0=0:=rfl
theorem tw16712600300762390363:0=0:=rfl
theorem tw8342943194006478797:0=0:=rfl
theorem tw12480812632953437155:0=0:=rfl
theorem tw186476548237277853:0=0:=rfl
theorem tw15786081939380631709:0=0:=rfl
theorem tw10070794223268433864:0=0:=rfl
theorem tw7278831522676787147:0=0:=rfl
theorem tw10498454364158036364:0=0:=rfl
theorem tw5009301006251792719:0=0:=rfl
theorem tw187923374425577956:0=0:=rfl
theorem tw2202656821752929005:0=0:=rfl
theorem tw1380551622838400728:0=0:=rfl
theorem tw8150581254763660969:0=0:=rfl
theorem tw5711001569286380808:0=0:=rfl
theorem tw7186594544125496750:0=0:=rfl
theorem tw6321193983676250034:0=0:=rfl
theorem tw8740064093215516736:0=0:=rfl
theorem tw16226772594520088400:0=0:=rfl
theorem tw7605572826607629751:0=0:=rfl
theorem tw10944581399879334369:0=0:=rfl
theorem tw5628643901243829778:0=0:=rfl
theorem tw9172067275867633149:0=0:=rfl
theorem tw16431931462603191355:0=0:=rfl
theorem tw11803865975123902537:0=0:=rfl
theorem tw10272572963737721005:0=0:=rfl
theorem tw16834011402835769280:0=0:=rfl
theorem tw8188225416174398070:0=0:=rfl
theorem tw17644669419083707700:0=0:=rfl
theorem tw1221636708999076191:0=0:=rfl
theorem tw5514309872204375049:0=0:=rfl
theorem tw13716301920528650581:0=0:=rfl
theorem tw16161109633598442210:0=0:=rfl
theorem tw1834993649307917888:0=0:=rfl
theorem tw7930491190961844231:0=0:=rfl
theorem tw5167145091434758828:0=0:=rfl
theorem tw12040104493419747571:0=0:=rfl
theorem tw5291119807090264805:0=0:=rfl
theorem tw6429705164844309545:0=0:=rfl
theorem tw14770760059692353789:0=0:=rfl
theorem tw4964442004003805291:0=0:=rfl
theorem tw14211490911160023126:0=0:=rfl
theorem tw18068025160447893892:0=0:=rfl
theorem tw2533888932484835512:0=0:=rfl
theorem tw18118142866240626172:0=0:=rfl
theorem tw5931231273610549270:0=0:=rfl
end PySem.W.Fast
open PySem PySem.W PyProof.Rows
set_option maxRecDepth 100000 in
set_option maxHeartbeats 0 in
theorem PySem.Challenge.cw_chiefway_k51_readings_carried_holds : PySem.Challenge.rw_chiefway_k51_readings_carried.Holds := by
 w_on;o_law;k_head;(case hw=>w_witness2)
 k_fill
 refine My.walk (l:=PySem.Challenge.rw_chiefway_k51_readings_carried) (k:=15) (by decide) rfl rfl (λw h Y=>PySem.W.kIn_of Y) ?F
 case F=>
  intro w mg U h KX G N;refine' Law.K0 (k:=14) KX G N ?D ?B ?J ?a0 ?l0 ?c0 ?k0 ?gaWORDS ?glWORDS ?ok
  (case D=>unfold Law.tab;(repeat (apply P.Des.cons;(case a=>k_is);(case l=>k_is);(case c=>k_is);(case k=>k_is)));exact P.Des.nil)
  (case B=>unfold Law.blt;(repeat (apply P.Nos.cons;(case a=>k_is)));exact P.Nos.nil)
  (case J=>unfold Law.R0;(repeat (apply P.Gis.cons;(case a=>k_is)));exact P.Gis.nil)
  (case a0=>k_is)
  (case l0=>k_is)
  (case c0=>k_is)
  (case k0=>k_is)
  (case gaWORDS=>k_is)
  (case glWORDS=>k_is)
  (case ok=>exact λbase kb nb T=>P.K1 (f:=Law.DV) (O':=[]) rfl (λU M A q s H E hr=>Law.IW.2 T U M A q s H E hr) Law.N2)
