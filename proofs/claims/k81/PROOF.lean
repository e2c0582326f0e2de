import PyProof.Rows.All
import Wide.All
import OpenK.AllK
import Wide.FinOn
import Lean
import PyProof.EqAt
import PyProof.EqKinds
import PyProof.TupleCall
import KE.KEqDict
import PySem.Challenge.RW_chiefway_k81_a_books_text
set_option autoImplicit true
set_option relaxedAutoImplicit true
set_option Elab.async false
set_option linter.all false
set_option maxRecDepth 100000
open PySem renaming wpAny_bind → SY, Shared → SZ, starEach → S0, wpAny_pure → S1, Program → S6, sizeLine → S7, Around → TH, compareOp → TJ, backTo → TU, bootBuiltins → TZ, Paired → UB, mainGlobals → UC, rawInt → UH, binaryOp → UI, swapsWith → UM, pyNext → UN, wpAny_field → UP, wpAny_mono → US, sysModules → UY, FuncData → U0, wpAny_call_entry → U1, wpAny_newObj_type → U2, wpAny_holding → U8, wpAny_truthy_bool → VB, codeAny → VD, relabel → VG, Keyword → VI, DictEntry → VJ, wpAny_setField_rec → VN, IsEnum → VO, tupleKind → VQ, assign → VR, assignEach → VS, behindInMarks → VT, NameKind → VU, Builtin → VV, IsPart → VW, getItem → VX, wpAny_callSpecial?_slot → VY, sliceBounds → V0, foldedSetIterable → V5, wpAny_loadPart' → V9, sizeLine_eq → WF, plainId_quiet → WK, attributeBase → WT, valueAt → WU, callerA → WW, lastMarks → W0, cellsFrom → W1, call_meets → W6, wpAny_dictEntries → XB, wpAny_dictEpoch → XC, wpAny_attempt → XD, setField → XE, firstArgMember → XF, wpAny_letGo → XG, codeAny_builtin → XH, wpAny_updateSeq → XJ, wpAny_pyIter_tuple → XT, wpAny_passesOwn → XU, mem_of_lookup → XZ, typeIs_str → X0, keywordEach → X1, tupleKind_room_in1 → X2, wpAny_setField → X6, updateSeq → YA, letOwnedTupleGo → YN, IsRangeIter → YO, codeAny_mono → YS, wpAny_typeOf → YX, subscripted → YZ, wpAny_typeNameOfWhole_keyiter → Y8, wpAny_typeNameOf_keyiter → Y9, wpAny_fieldsOf → ZA, wpAny_of_eq → ZD, wpAny_typeNameOfWhole_itemiter → ZG, wpAny_typeNameOf_itemiter → ZH, wpAny_newTuple → ZI, wpAny_newList → ZK, wpAny_seqItems → ZO, wpAny_tryCatch → ZR, wpAny_execs_nil → Z2, wpAny_Call_Name_kw → Z4, noFill_tuple_add → Z9, wpAny_isInstance → zan, wpAny_isOneOf_itemiter → zao
open PySem.W renaming Frag → S2, kia_one → VA, fnOf → VE, nsIn → WC, keepIn → WG, codeIn → W3, kitOne → XY, mg_of → YF, kitx_dict → YR, kitAny → ZS, instObj → ZZ, methodObj → Z0, OpenLaw → zai
open Option renaming bind_some → S3, map_some → S4, isSome_map → zag
open List renaming length_map → S5, map_cons → TB, mem_cons_self → TK, size_toArray → TL, mem_cons_of_mem → TR, getElem?_map → TX, map_map → T7, length_append → T8, mem_cons → T9, not_mem_nil → UA, getElem?_eq_getElem → UK, length_cons → UO, mem_of_getElem? → UU, find?_cons → UV, range → UZ, map_append → U3, mem_append_right → U9, any_cons → VF, append_nil → V6, replicate → V7, length → V8, length_nil → WH, getD → WJ, take_add_one → WN, nil_append → WO, all_cons → WS, filter_cons → WV, take_length → WY, getElem?_set_ne → WZ, length_take → W2, map_nil → W4, length_set → W5, getElem_inj → XS, all_eq_true → X3, toArray → X4, getElem?_range → YB, lookup_cons → YC, set_cons_succ → YH, set_cons_zero → YI, mem_append_left → YL, getElem?_set_self → YM, getElem?_append_right → YT, getElem?_append_left → YU, replicate_succ → Y0, flatten_cons → Y1, length_singleton → Y2, ext_getElem → Y4, foldl_cons → ZL, drop_eq_getElem_cons → ZP, forall_mem_cons → ZT, append_assoc → ZV, cons_append → ZW, findIdx?_cons → ZY, filterMap_cons → Z1, of_mem_zip → Z5, getElem?_replicate → Z6, zip_nil_left → Z7, zip_cons_cons → Z8, getElem_mem → zaq, map_congr_left → zax, findIdx?_eq_some_iff_getElem → zaF
open PySem.Heap renaming lt_size → S8, get?_push_of_some → TC, get?_push_size → TV, SameBut → UE, get?_update_other → VZ, get?_update_self → WI, ExtBut → X7, size_push → X8
open PySem.Value renaming ref → S9, none → T1, type → VP, bool → WD
open Nat renaming le_refl → TF, ne_of_lt → TY, le_trans → UD, ne_of_gt → UG, lt_of_lt_of_le → UR, zero_le → U6, lt_irrefl → U7, toDigits → WP, lt_trans → W7, toDigits_of_lt_base → YJ, le_of_lt → YK, lt_of_le_of_lt → Y3, le_of_ble_eq_true → zar, toDigits_append_toDigits → zaL
open Bool renaming false_ne_true → TN, and_eq_true → UF, false_eq_true → WA, not_eq_true → WL, eq_iff_iff → XW, and_false → Y5, beq_eq_decide_eq → zaj, or_eq_true → zal
open Sum renaming inl → TQ, inr → WQ
open Int renaming emod_nonneg → T2, emod_lt_of_pos → T4, toNat_natCast → VM, reducePow → XR, eq_ofNat_of_zero_le → YG, ne_of_gt → ZU, ediv_nonneg → zak
open Ne renaming symm → T3
open Option.some renaming inj → T5
open PyProof.Rows renaming seqObj → T6, IntsAre → UJ, envOfC → UT, kindOf → U4, AllBare → V3, callWith_type1 → YQ, slot_tuple_getitem → YW
open Array renaming length_toList → UL, getD → XA, getElem?_toList → XM, getElem?_eq_getElem → zam
open Or renaming inl → UQ, inr → VL
open PySem.Str renaming join → UW, ofString → U5
open PySem.Obj renaming mapSeq → UX, data_mapFields → ZC
open False renaming elim → VC
open True renaming intro → VH
open ToString renaming toString → V1
open PySem.Txt renaming split → V2
open PySem.Builtin.Range renaming rangeSize → V4, small → W8
open PySem.NameKind renaming free → WB
open PySem.Paired renaming length → WE
open Classical renaming propDecidable → WM
open PySem.SeqAt renaming EqAt → WR
open PySem.Heap.SameBut renaming update → WX
open ForInStep renaming yield → W9
open PySem.Around renaming under_plainId → XI
open PySem.F renaming plain_max_loop → XN, plainAttrs_str → XO, plainAttrs_list → XQ, plain_extend_loop → X9, slot_str_join → YD, type_str_join → YE, slot_dict_keyiterator_next → Y7, slot_dict_itemiterator_next → ZF, slot_tuple_iterator_next → ZN, slot_enumerate_next → ZQ, slot_tuple_add → zaa, entry_tuple_add → zab, args_tuple_add_2 → zac, slot_dict_get → zah, slot_str_split → zas, entry_str_split → zat, args_str_split_2 → zau, slot_list_extend → zav, type_list_extend → zaw, entry_dict_keyiterator_next → zaz, args_dict_keyiterator_next_1 → zaA, entry_dict_itemiterator_next → zaB, args_dict_itemiterator_next_1 → zaC, slot_dict_items_iter → zaD, entry_tuple_iterator_next → zaG, args_tuple_iterator_next_1 → zaH
open PySem.Builtin.Str renaming occurrences → XX
open PySem.Builtin.Dict_items renaming ownsTuple → X5, pairFromOwner → ZE, ownedTupleIsFree → ZJ, ownedTupleFields → zaE
open PySem.Builtin.Slice renaming slicePlaces → YV, sliceAdjust → zad
open PySem.Builtin.Tuple renaming tupleExact → YY
open PySem.Builtin.Dict renaming showsAll → Y6
open PySem.Builtin.SmallTypes renaming nextOf → ZM, ownedTupleIsFree → zaI, ownedTupleHandOut → zaJ
open List.cons renaming injEq → ZX
open PySem.Calls renaming spliced_cons → Z3, callWith_builtin → zae
open PySem.Builtin.List renaming listTooLong → zaf, listExtendWith → zap
open PySem.W.KIN renaming signs_num → zay
open PySem.Builtin.Builtins renaming bindParams → zaK
noncomputable section
namespace L2
open PySem PySem.Spec PyProof.Rows
abbrev Key:=Sum Int Str
def qN:Key->Value->Bool
 | .inl k,v=>Value.isInt k v
 | .inr x,v=>Value.isStrOf x v
def QK(w:World):Key->Int
 | .inl k=>hashInt k
 | .inr x=>hashStr w x
theorem bQ:∀ {k:Key} {v:Value},qN k v=true->(∃i t,k=TQ i/\v=Value.int i t)\/(∃x t,k=WQ x/\v=Value.str x t)
 | .inl i,v,h=>by
  obtain⟨t,e⟩:=Value.isInt_shape (k:=i) (v:=v) h;exact .inl ⟨i,t,rfl,e⟩
 | .inr x,v,h=>by
  obtain⟨t,e⟩:=Value.isStrOf_shape (x:=x) (v:=v) h;exact .inr ⟨x,t,rfl,e⟩
theorem AZ(i:Int)(t:Tok):qN (.inl i) (.int i t)=true:=by simp[qN,Value.isInt]
theorem z8(x:Str)(t:Tok):qN (.inr x) (.str x t)=true:=by simp[qN,Value.isStrOf]
theorem KW(a b:Int):decide ((TQ a:Key)=TQ b)=(a == b):=by
 by_cases e:a=b
 ·subst e;simp
 ·have h:¬ (TQ a:Key)=TQ b:=λq=>e (Sum.inl.inj q)
  rw[decide_eq_false h];exact(beq_eq_false_iff_ne.mpr e).symm
theorem MC(a b:Str):decide ((WQ a:Key)=WQ b)=decide (a=b):=by
 by_cases e:a=b
 ·subst e;simp
 ·have h:¬ (WQ a:Key)=WQ b:=λq=>e (Sum.inr.inj q)
  rw[decide_eq_false h,decide_eq_false e]
theorem MH(a:Int)(b:Str):decide ((TQ a:Key)=WQ b)=false:=decide_eq_false (λq=>nomatch q)
theorem K2(a:Str)(b:Int):decide ((WQ a:Key)=TQ b)=false:=decide_eq_false (λq=>nomatch q)
def bK(prog:S6)(w:World):PySem.KeyKind prog w Key where
 is:=qN
 hash:=QK w
 inj:=λv a b G B=>by
  rcases bQ G with⟨i,t,rfl,rfl⟩|⟨x,t,rfl,rfl⟩
  ·rcases bQ B with⟨j,u,rfl,e⟩|⟨y,u,rfl,e⟩
   ·injection e with e1 _;rw[e1]
   ·exact nomatch e
  ·rcases bQ B with⟨j,u,rfl,e⟩|⟨y,u,rfl,e⟩
   ·exact nomatch e
   ·injection e with e1 _;rw[e1]
 byValue:=λk v h=>by
  rcases bQ h with⟨i,t,rfl,rfl⟩|⟨x,t,rfl,rfl⟩ <;> rfl
 pyHash:=λq h=>by
  rcases bQ q with⟨i,t,rfl,rfl⟩|⟨x,t,rfl,rfl⟩
  ·exact wpAny_pyHash_int h
  ·exact wpAny_pyHash_str h
 eqBool:=λF q h=>by
  rcases bQ F with⟨i,t,rfl,rfl⟩|⟨x,t,rfl,rfl⟩
  ·rcases bQ q with⟨j,u,rfl,rfl⟩|⟨y,u,rfl,rfl⟩
   ·rw[KW]at h;exact wpAny_eqBool_int h
   ·rw[MH]at h;exact SeqAt.EqAt.int_str i t y u _ _ _ _ h
  ·rcases bQ q with⟨j,u,rfl,rfl⟩|⟨y,u,rfl,rfl⟩
   ·rw[K2]at h;exact SeqAt.EqAt.str_int x t j u _ _ _ _ h
   ·rw[MC]at h;exact wpAny_eqBool_str h
 «strs»:=λk x t v h=>by
  rcases bQ h with⟨i,u,rfl,e⟩|⟨y,u,rfl,e⟩
  ·exact nomatch e
  ·injection e with e1 _
   subst e1;cases v <;> rfl
theorem tM(prog:S6)(w:World)(i:Int)(t:Tok):(bK prog w).is (.inl i) (.int i t)=true:=AZ i t
theorem tE(prog:S6)(w:World)(x:Str)(t:Tok):(bK prog w).is (.inr x) (.str x t)=true:=z8 x t
inductive V where
 | non|bl (b:Bool)|int (i:Int)|str (x:Str)|byt (b:Array UInt8)|flt (b:UInt64)|ref (a:Addr)|ty (n:String)
 deriving DecidableEq
noncomputable def RelV:V->Value->Prop
 | .non,u=>u=T1
 | .bl b,u=>u=WD b
 | .int i,u=>∃t,u=Value.int i t
 | .str x,u=>∃t,u=Value.str x t
 | .byt b,u=>∃t,u=Value.bytes b t
 | .flt b,u=>∃t,u=Value.float b t
 | .ref a,u=>u=S9 a
 | .ty n,u=>u=VP n
abbrev Vals:List V->List Value->Prop:=UB RelV
theorem Vals.length(r:Vals xs us):xs.length=us.length:=WE r
theorem Vals.get:∀ {xs:List V} {us:List Value} {i:Nat} {x:V},Vals xs us->xs[i]?=some x->∃u,us[i]?=some u/\RelV x u
 | _,_,_,_,.nil,e=>by simp at e
 | _,_,0,_,.cons r _,e=>by simp at e;subst e;exact⟨_,rfl,r⟩
 | _,_,i+1,x,.cons _ t,e=>by
  obtain⟨u,h1,h2⟩:=Vals.get (i:=i) (x:=x) t (by simpa using e);exact⟨u,by simpa using h1,h2⟩
theorem Vals.set(r:RelV x u):∀ {xs:List V} {us:List Value} (i:Nat),Vals xs us->Vals (xs.set i x) (us.set i u)
 | _,_,_,.nil=>.nil
 | _,_,0,.cons _ t=>.cons r t
 | _,_,i+1,.cons q t=>.cons q (Vals.set r i t)
theorem Vals.append:∀ {xs ys:List V} {us ws:List Value},Vals xs us->Vals ys ws->Vals (xs++ys) (us++ws)
 | _,_,_,_,.nil,s=>s
 | _,_,_,_,.cons r t,s=>.cons r (Vals.append t s)
theorem Vals.take:∀ {xs:List V} {us:List Value} (n:Nat),Vals xs us->Vals (xs.take n) (us.take n)
 | _,_,0,_=>.nil
 | _,_,_+1,.nil=>.nil
 | _,_,n+1,.cons r t=>.cons r (Vals.take n t)
theorem Vals.drop:∀ {xs:List V} {us:List Value} (n:Nat),Vals xs us->Vals (xs.drop n) (us.drop n)
 | _,_,0,r=>r
 | _,_,_+1,.nil=>.nil
 | _,_,n+1,.cons _ t=>Vals.drop n t
def RelO:Option V->Option Value->Prop
 | some v,some u=>RelV v u
 | none,none=>True
 | _,_=>False
def KV{κ:Type}:List (κ×V)->List (κ×Value)->Prop:=UB λ(p:κ×V) (q:κ×Value)=>p.1=q.1/\RelV p.2 q.2
def kV:Key->V
 | .inl i=>.int i
 | .inr x=>.str x
inductive HO where
 /-- a list -/
 | lst (xs:List V)
 /-- a tuple (never changes) -/
 | tup (xs:List V)
 /-- a dict whose keys are ints and texts;one whose keys are tuples of ints and texts (the empty one is both) -/
 | dK (kvs:List (Key×V))|dT (kvs:List (List Key×V))
 /-- a set of ints: its members, its size -/
 | set (S:Int->Bool) (n:Nat)
 /-- an instance of the class at C, its dict at dx, its attributes -/
 | ins (C dx:Addr) (fs:List (Str×V))
 /-- the dict of the instance at x -/
 | own (x:Addr)
 /-- the dict of an exception -/
 | xd (fs:List (Str×V))
 /-- a bound method, f of x -/
 | met (f x:Addr)
 /-- a range object lo, lo+1, .. below hi -/
 | rng (lo hi:Int)
 /-- a thing that is known to the object (the script;a dict while a loop walks it): read, never written while it is so -/
 | frz (o:Obj) (u:HO)
 /-- a code object's table -/
 | tbl (ps:Array Value)
 /-- any other thing, by what is true of its one object (a def of one's own: SetO a S n:=HO.ext λh => ..) -/
 | ext (φ:Heap->Prop)
abbrev Hp:=Addr->Option HO
def upd(H:Hp)(a:Addr)(o:HO):Hp:=λb=>if b=a then some o else H b
theorem aM:upd H a o a=some o:=by unfold upd;rw[if_pos rfl]
theorem aJ(h:b≠a):upd H a o b=H b:=by unfold upd;rw[if_neg h]
theorem OK{H:Hp}{a b:Addr}{o u:HO}(h:H a=some o)(h':H b=some u)(d:o≠u):a≠b:=by
 intro e;subst e;rw[h]at h';exact d (T5 h')
theorem bI{H:Hp}{a b:Addr}{o:HO}(h:H a=some o)(h':H b=none):a≠b:=by
 intro e;subst e;rw[h]at h';cases h'
section
variable (P:S6)(w:World)
def IsTupN(h:Heap)(a:Addr)(items:Array Value):Prop:=∃o,h.get? a=some o/\o.cls=.type "tuple" /\ ∃n,o.data=.seq items n/\o.dict=none
theorem IsTupN.tup{h:Heap}{a:Addr}{items:Array Value}(x:IsTupN h a items):IsTup h a items:=let ⟨o,e,c,n,d,_⟩:=x;⟨o,e,c,n,d⟩
theorem IsTupN.lt(x:IsTupN h a items):a<h.objs.size:=x.tup.lt
theorem IsTupN.new(h:Heap)(items:Array Value):IsTupN (h.push {cls:=.type "tuple",data:=.seq items}) h.objs.size items:=⟨_,TV _ rfl,rfl,_,rfl,rfl⟩
def ObjOk(H:Hp)(h:Heap)(a:Addr):HO->Prop
 | .lst xs=>xs.length<=S7/\∃(its:List Value) (n:Nat),Vals xs its/\h.get? a=some {cls:=.type "list",data:=.seq its.toArray n}
 | .tup xs=>xs.length<=S7/\∃its:List Value,Vals xs its/\IsTupN h a its.toArray
 | .dK kvs=>kvs.length<=S7/\(a == UY)=false/\∃vs,KV kvs vs/\h.DictOf (bK P w) a vs
 | .dT kvs=>kvs.length<=S7/\(a == UY)=false/\∃xs:List (List Key×Addr×Value),
   UB (λ(p:List Key×V) (q:List Key×Addr×Value)=>p.1=q.1/\H q.2.1=some (.tup (p.1.map kV))/\RelV p.2 q.2.2) kvs xs /\
   ∃o es ep,h.get? a=some o/\o.ExactDict/\o.data=.dict es ep/\es.toList=xs.map (entryOfKey (VQ (bK P w)))/\(xs.map (·.1)).Nodup
 | .set S n=>h.SetOf (intKind P w) a S n
 | .ins C dx fs=>H dx=some (.own a)/\fs.length<=1000/\dx≠a/\h.get? a=some (ZZ C dx) /\
   ∃mA,h.Ns1 dx mA/\(∀f,RelO (fs.lookup f) (mA f))/\PySem.Within mA (fs.map (·.1))
 | .own _=>∃o,h.get? a=some o
 | .xd fs=>∃mA,h.Ns1 a mA/\∀f,RelO (fs.lookup f) (mA f)
 | .rng lo hi=>∃t u v,h.get? a=some {cls:=.type "range",data:=.fields #[.int lo t,.int hi u,.int 1 v]}
 | .frz o u=>h.get? a=some o/\ObjOk H h a u
 | .tbl ps=>h.get? a=some {cls:=.none,data:=.fields ps}
 | .met f x=>h.get? a=some (Z0 (.ref f) (.ref x))
 | .ext φ=>φ h/\(∃o,h.get? a=some o)/\∀h1 h2:Heap,φ h1->(∀o,h1.get? a=some o->h2.get? a=some o)->φ h2
def HOk(H:Hp)(h:Heap):Prop:=∀a o,H a=some o->ObjOk P w H h a o
end
section
variable {P:S6}{w:World}{H H':Hp}{h h':Heap}{a:Addr}{o:HO}
theorem ObjOk.lt(x:ObjOk P w H h a o):a<h.objs.size:=by
 cases o with
 | lst xs=>obtain⟨_,_,_,_,e⟩:=x;exact S8 e
 | tup xs=>obtain⟨_,_,_,p⟩:=x;exact p.lt
 | dK kvs=>obtain⟨_,_,_,_,o,_,_,e,_⟩:=x;exact S8 e
 | dT kvs=>obtain⟨_,_,_,_,o,_,_,e,_⟩:=x;exact S8 e
 | set S n=>obtain⟨o,_,_,_,e,_⟩:=x;exact S8 e
 | ins C dx fs=>obtain⟨_,_,_,e,_⟩:=x;exact S8 e
 | own y=>obtain⟨_,e⟩:=x;exact S8 e
 | xd fs=>obtain⟨_,⟨_,_,_,e,_⟩,_⟩:=x;exact S8 e
 | rng lo hi=>obtain⟨_,_,_,e⟩:=x;exact S8 e
 | frz ob u=>obtain⟨e,_⟩:=x;exact S8 e
 | tbl ps=>exact S8 (show h.get? a=some _ from x)
 | met f y=>exact S8 (show h.get? a=some _ from x)
 | ext φ=>obtain⟨_,⟨_,e⟩,_⟩:=x;exact S8 e
theorem Paired.mapP{B q:Type}{F G:B->q->Prop}:∀ {l₁:List B} {l₂:List q},UB F l₁ l₂->(∀a b,F a b->G a b)->UB G l₁ l₂
 | _,_,.nil,_=>.nil
 | _,_,.cons r t,f=>.cons (f _ _ r) (Paired.mapP t f)
theorem ObjOk.stay(x:ObjOk P w H h a o)(k:∀b u,(b=a\/H b=some (.own a))->h.get? b=some u->h'.get? b=some u)
  (G:∀b,H b=some (.own a)->H' b=some (.own a)) (M:∀b xs,H b=some (.tup xs)->H' b=some (.tup xs)):ObjOk P w H' h' a o:=by
 induction o with
 | lst xs=>obtain⟨z,F,n,r,e⟩:=x;exact⟨z,F,n,r,k _ _ (.inl rfl) e⟩
 | tup xs=>obtain⟨z,F,r,B,e,c⟩:=x;exact⟨z,F,r,B,k _ _ (.inl rfl) e,c⟩
 | dK kvs=>obtain⟨z,y,vs,r,B,es,ep,e,c⟩:=x;exact⟨z,y,vs,r,B,es,ep,k _ _ (.inl rfl) e,c⟩
 | dT kvs=>
  obtain⟨z,y,xs,r,B,es,ep,e,c⟩:=x;exact⟨z,y,xs,Paired.mapP r λp q z=>⟨z.1,M _ _ z.2.1,z.2.2⟩,B,es,ep,k _ _ (.inl rfl) e,c⟩
 | set S n=>obtain⟨B,es,ep,t,e,c⟩:=x;exact⟨B,es,ep,t,k _ _ (.inl rfl) e,c⟩
 | ins C dx fs=>
  obtain⟨d,z,ne,e,mA,⟨od,es,ep,J,c⟩,r⟩:=x;exact⟨G _ d,z,ne,k _ _ (.inl rfl) e,mA,⟨od,es,ep,k _ _ (.inr d) J,c⟩,r⟩
 | own y=>obtain⟨B,e⟩:=x;exact⟨B,k _ _ (.inl rfl) e⟩
 | xd fs=>obtain⟨mA,⟨od,es,ep,e,c⟩,r⟩:=x;exact⟨mA,⟨od,es,ep,k _ _ (.inl rfl) e,c⟩,r⟩
 | rng lo hi=>obtain⟨t,u,v,e⟩:=x;exact⟨t,u,v,k _ _ (.inl rfl) e⟩
 | frz B u ih=>obtain⟨e,q⟩:=x;exact⟨k _ _ (.inl rfl) e,ih q⟩
 | tbl ps=>
  have e:h.get? a=some {cls:=.none,data:=.fields ps}:=x;show h'.get? a=some {cls:=.none,data:=.fields ps};exact k a _ (.inl rfl) e
 | met f y=>
  have e:h.get? a=some (Z0 (.ref f) (.ref y)):=x;show h'.get? a=some (Z0 (.ref f) (.ref y));exact k a _ (.inl rfl) e
 | ext φ=>obtain⟨p,⟨o,e⟩,st⟩:=x;exact⟨st _ _ p λo q=>k _ _ (.inl rfl) q,⟨o,k _ _ (.inl rfl) e⟩,st⟩
theorem HOk.lt(x:HOk P w H h)(e:H a=some o):a<h.objs.size:=(x a o e).lt
theorem HOk.fresh(x:HOk P w H h)(e:h.objs.size<=a):H a=none:=by
 cases q:H a with
 | none=>rfl
 | some u=>exact absurd (UR (x.lt q) e) (U7 _)
theorem HOk.kept(x:HOk P w H h)(k:∀b u,h.get? b=some u->h'.get? b=some u):HOk P w H h':=λa o e=>
 (x a o e).stay (λb u _ q=>k b u q) (λ_ q=>q) λ_ _ q=>q
theorem HOk.laid(x:HOk P w H h)(k:∀b u,h.get? b=some u->h'.get? b=some u)(G:h.objs.size<=a)(new:ObjOk P w (upd H a o) h' a o):HOk P w (upd H a o) h':=λb u e=>by
 have B:=x.fresh G;by_cases F:b=a
 ·subst F;rw[aM]at e;cases e;exact new
 ·rw[aJ F]at e
  exact(x b u e).stay (λc v _ q=>k c v q) (λc q=>by rw[aJ (bI q B)];exact q) λc xs q=>by rw[aJ (bI q B)];exact q
end
def Rd(H:Hp)(a:Addr)(u:HO):Prop:=H a=some u\/∃o,H a=some (.frz o u)
theorem Rd.of(h:H a=some u):Rd H a u:=.inl h
theorem Rd.ok(r:Rd H a u)(x:HOk P w H h):ObjOk P w H h a u:=by
 rcases r with r|⟨o,r⟩
 ·exact x a u r
 ·obtain⟨_,q⟩:=x a _ r
  exact q
def P4:Option HO->Prop
 | some (.lst _)=>True
 | some (.dK _)=>True
 | some (.dT _)=>True
 | some (.set _ _)=>True
 | some (.ins _ _ _)=>True
 | some (.ext _)=>True
 | _=>False
section
variable {P:S6}{w:World}{H:Hp}{h h':Heap}{x e:Addr}{o':HO}
theorem HOk.write(ok:HOk P w H h)(J:P4 (H x))(W:e=x\/H e=some (.own x))(k:∀b u,b≠e->h.get? b=some u->h'.get? b=some u)(U:∃u,h'.get? e=some u)
  (new:ObjOk P w (upd H x o') h' x o'):HOk P w (upd H x o') h':=λb u q=>by
 have F:∀c y,H c=some (.own y)->c≠x:=λc y r z=>by subst z;rw[r]at J;exact J
 have G:∀c xs,H c=some (.tup xs)->c≠x:=λc xs r z=>by subst z;rw[r]at J;exact J
 by_cases N:b=x
 ·subst N;rw[aM]at q;cases q;exact new
 ·rw[aJ N]at q
  by_cases B:b=e
  ·have Y:H b=some (.own x):=by
    rcases W with z|z
    ·exact absurd (B.trans z) N
    ·rw[B];exact z
   rw[q]at Y;cases Y;obtain⟨v,hv⟩:=U;exact⟨v,by rw[B];exact hv⟩
  ·refine(ok b u q).stay (λc v M r=>k c v ?_ r) (λc r=>by rw[aJ (F c b r)];exact r) λc xs r=>by rw[aJ (G c xs r)];exact r
   rcases M with rfl|M
   ·exact B
   ·rintro rfl
    rcases W with z|z
    ·exact F c b M z
    ·rw[M]at z;cases z;exact N rfl
end
structure Un(fs ex:List Addr)(H H':Hp)(h h':Heap):Prop where
 keep:∀b o,h.get? b=some o->H b=none->b∉fs->b∉ex->h'.get? b=some o
 slot:∀b o,h.get? b=some o->H b=none->b∈fs->b∉ex->∃sl,h'.get? b=some {o with slots:=sl}
 free:∀b o,h.get? b=some o->H b=none->b∉ex->H' b=none
 there:∀b o,h.get? b=some o->b∉ex->∃o',h'.get? b=some o'
 tups:∀b xs,H b=some (.tup xs)->H' b=some (.tup xs)
 frzs:∀b o u,H b=some (.frz o u)->H' b=some (.frz o u)
 tbls:∀b ps,H b=some (.tbl ps)->∃more,H' b=some (.tbl (ps++more))
section
variable {fs fs' ex ex':List Addr}{H H1 H2:Hp}{h h1 h2 h':Heap}{a x e:Addr}{o:HO}
theorem Un.any(u:Un fs ex H H1 h h1)(q:h.get? b=some ob)(n:H b=none)(B:b∉ex):∃G,h1.get? b=some {ob with slots:=G}:=by
 by_cases F:b∈fs
 ·exact u.slot b ob q n F B
 ·exact⟨ob.slots,u.keep b ob q n F B⟩
theorem Un.trans(a:Un fs ex H H1 h h1)(b:Un fs ex H1 H2 h1 h2):Un fs ex H H2 h h2 where
 keep:=λc F q n J B=>b.keep c F (a.keep c F q n J B) (a.free c F q n B) J B
 slot:=λc F q n J B=>by
  obtain⟨Y,G⟩:=a.slot c F q n J B;obtain⟨N,M⟩:=b.slot c _ G (a.free c F q n B) J B;exact⟨N,M⟩
 free:=λc F q n B=>by
  obtain⟨o',G⟩:=a.there c F q B;exact b.free c o' G (a.free c F q n B) B
 there:=λc F q B=>by
  obtain⟨o',G⟩:=a.there c F q B;exact b.there c o' G B
 tups:=λc xs q=>b.tups c xs (a.tups c xs q)
 frzs:=λc F xs q=>b.frzs c F xs (a.frzs c F xs q)
 tbls:=λc ps q=>by
  obtain⟨U,G⟩:=a.tbls c ps q;obtain⟨W,M⟩:=b.tbls c _ G;exact⟨U++W,by rw[M,Array.append_assoc]⟩
theorem Un.kept(k:∀b u,h.get? b=some u->h'.get? b=some u):Un fs ex H H h h':=
 ⟨λb B q _ _ _=>k b B q,λb B q _ _ _=>⟨B.slots,k b B q⟩,λ_ _ _ n _=>n,λb B q _=>⟨B,k b B q⟩,λ_ _ q=>q,λ_ _ _ q=>q,λ_ ps q=>⟨#[],by rw[q];simp⟩⟩
theorem Un.refl:Un fs ex H H h h:=Un.kept λ_ _ q=>q
theorem Un.laid(k:∀b u,h.get? b=some u->h'.get? b=some u)(F:h.objs.size<=a)(B:H a=none):Un fs ex H (upd H a o) h h' where
 keep:=λb u q _ _ _=>k b u q
 slot:=λb u q _ _ _=>⟨u.slots,k b u q⟩
 free:=λb u q n _=>by rw[aJ (TY (UR (S8 q) F))];exact n
 there:=λb u q _=>⟨u,k b u q⟩
 tups:=λb xs q=>by rw[aJ (bI q B)];exact q
 frzs:=λb u xs q=>by rw[aJ (bI q B)];exact q
 tbls:=λb ps q=>⟨#[],by rw[aJ (bI q B),q];simp⟩
theorem Un.write(F:P4 (H x))(U:e=x\/H e=some (.own x))(k:∀b u,b≠e->h.get? b=some u->h'.get? b=some u)(G:∃u,h'.get? e=some u):Un fs ex H (upd H x o) h h':=by
 have M:∀b,H b=none->b≠x:=λb n z=>by subst z;rw[n]at F;exact F
 have N:∀b,H b=none->b≠e:=λb n z=>by
  subst z;rcases U with r|r
  ·exact M b n r
  ·rw[n]at r;cases r
 have J:∀b u,H b=some u->¬ P4 (some u)->b≠x:=λb u q nm z=>by subst z;rw[q]at F;exact nm F
 refine⟨λb u q n _ _=>k b u (N b n) q,λb u q n _ _=>⟨u.slots,k b u (N b n) q⟩,λb u q n _=>by rw[aJ (M b n)];exact n,λb u q _=>?_,
  λb xs q=>by rw[aJ (J b _ q λz=>z)];exact q,λb u xs q=>by rw[aJ (J b _ q λz=>z)];exact q,λb ps q=>⟨#[],by rw[aJ (J b _ q λz=>z),q];simp⟩⟩
 by_cases B:b=e
 ·subst B;exact G
 ·exact⟨u,k b u B q⟩
theorem Un.mono(u:Un fs ex H H1 h h1)(hs:∀b∈fs,b∈fs')(G:∀b∈ex,b∈ex'):Un fs' ex' H H1 h h1:=
 ⟨λb F q n J B=>u.keep b F q n (λz=>J (hs b z)) λz=>B (G b z),λ_ _ q n _ B=>u.any q n λz=>B (G _ z),λb F q n B=>u.free b F q n λz=>B (G b z),λb F q B=>u.there b F q λz=>B (G b z),u.tups,u.frzs,u.tbls⟩
end
def P9(h:Heap)(H:Hp):List Addr:=(UZ h.objs.size).filter λa=>(H a).isSome
def sO(h:Heap)(H:Hp):Heap:=PySem.W.hideAll h (P9 h H)
theorem zR(h:Heap)(H:Hp):(sO h H).objs.size=h.objs.size:=PySem.W.hideAll_size _ _
theorem CH(e:h.get? b=some o)(n:H b=none):(sO h H).get? b=some o:=
 PySem.W.hideAll_get _ e λB=>by
  have q:(H b).isSome=true:=(List.mem_filter.mp B).2;rw[n]at q;simp at q
theorem GT(e:(sO h H).get? b=some o):h.get? b=some o/\H b=none:=by
 have B:h.get? b=some o:=PySem.W.of_hideAll (P9 h H) e;refine⟨B,?_⟩;cases q:H b with
 | none=>rfl
 | some x=>
  have F:b∈P9 h H:=List.mem_filter.mpr ⟨List.mem_range.mpr (S8 B),by simp[q]⟩;have z:(sO h H).get? b=none:=PySem.W.hideAll_none (P9 h H) F;rw[z]at e;cases e
noncomputable def HA(g h:Heap)(L:Addr):List (Addr×Obj):=(UZ h.objs.size).filterMap λa=>if a=L\/(g.get? a).isSome=true then none else(h.get? a).map λo=>(a,o)
def rest(g h:Heap)(L d:Addr):List (Addr×Obj):=(HA g h L).filter λp=>decide (p.1≠d)
structure Mod(K:S2)(mg:Str->Option Value)(base:Heap):Prop where
 kin:K.In base
 glob:base.Ns UC mg
 blt:∃mb,base.Ns builtinsNs mb/\∀x:Str,x ≠ "__name__" -> mb x=TZ x
 nolimit:base.NoLimit
structure Cx where
 prog:S6
 w:World
 K:S2
 mg:Str->Option Value
 base:Heap
 A:TH
 N:List Str
 s₀:SZ
 H₀:Hp
 env:Env
 outer:List Env
 stack:List Env
 ex:List Addr
 fn:Str->Bool
 calm:Bool
 pn:List (Addr×Obj)
 xe:Value->SZ->Prop
noncomputable def frs(l:List Env):List Addr:=l.filterMap (·.frame)
abbrev Cx.fs(X:Cx):List Addr:=frs X.outer
def JN(sc:Scope)(x:Str):Prop:=sc.names.lookup x=some .local\/sc.names.lookup x=some .cell\/sc.names.lookup x=some .free
def Loc(sc:Scope)(x:Str):Prop:=sc.names.lookup x=some .local\/sc.names.lookup x=some .cell
def Look(env:Env)(h:Heap)(m:Str->Option Value)(x:Str)(u:Value):Prop:=
 (env.kindOf x=some .local/\m x=some u)\/((env.kindOf x=some .cell\/env.kindOf x=some .free)/\∃c,env.cells.lookup x=some c/\h.IsCell c (some u))
structure Cx.Ok(X:Cx):Prop where
 mod:Mod X.K X.mg X.base
 kind:X.env.scope.kind=.function
 glob:X.env.globals=UC
 blt:X.env.builtins=builtinsNs
 above:X.s₀.heap.objs.size<=X.env.locals
 inj:∀x y c,X.env.cells.lookup x=some c->X.env.cells.lookup y=some c->x=y
 has:∀x,(X.env.kindOf x=some .cell\/X.env.kindOf x=some .free)->∃c,X.env.cells.lookup x=some c
 cab:∀x c,X.fn x=true->X.env.cells.lookup x=some c->X.s₀.heap.objs.size<=c
 hd:X.calm=true->X.A.handled=none
 frames:X.A.frames=some X.stack
 stk:X.stack=X.outer\/(X.stack=X.env::X.outer/\X.env.frame=some X.env.locals)
 exf:∀b∈X.ex,b≠X.env.locals/\∀x c,X.env.cells.lookup x=some c->c≠b
 bs:∀b o,X.base.get? b=some o->X.s₀.heap.get? b=some o/\X.H₀ b=none
 bsz:X.base.objs.size<=X.s₀.heap.objs.size
 noex:∀b o,X.base.get? b=some o->b∉X.ex
 exfs:∀b∈X.ex,b∉X.fs
 funs:X.s₀.heap.FunFrames X.base X.outer
 frf:∀b∈X.fs,X.H₀ b=none
structure Inv(X:Cx)(pins:List (Addr×Obj))(σ:List (Option V))(H:Hp)(s:SZ):Prop where
 ok:X.Ok
 os:s.os=X.s₀.os
 bare:V3 s.gens
 base:Un X.fs X.ex X.H₀ H X.s₀.heap s.heap
 loc:∃m,s.heap.Ns X.env.locals m/\∀(i:Nat) (x:Str) (v:V),X.N[i]?=some x->σ[i]?=some (some v)->JN X.env.scope x->∃u,RelV v u/\Look X.env s.heap m x u
 cell:∀x c,X.env.cells.lookup x=some c->∃v,s.heap.IsCell c v
 free:H X.env.locals=none
 freeC:∀x c,X.env.cells.lookup x=some c->H c=none
 pin:∀p∈X.pn++pins,s.heap.get? p.1=some p.2/\H p.1=none/\p.1≠X.env.locals/\p.1∉X.fs/\∀v,p.2.data≠.cell v
 hok:HOk X.prog X.w H s.heap
 len:σ.length=X.N.length
section
variable {X:Cx}{pins:List (Addr×Obj)}{σ:List (Option V)}{H H':Hp}{s:SZ}{h':Heap}
theorem Cx.Ok.nofr(ok:X.Ok)(e:X.base.get? b=some o):b∉X.fs:=λq=>by
 have:=(ok.funs.mem q).1;rw[e]at this;cases this
theorem Inv.bs(I:Inv X pins σ H s):∀b o,X.base.get? b=some o->s.heap.get? b=some o/\H b=none:=λb o e=>
 ⟨I.base.keep b o (I.ok.bs b o e).1 (I.ok.bs b o e).2 (I.ok.nofr e) (I.ok.noex b o e),I.base.free b o (I.ok.bs b o e).1 (I.ok.bs b o e).2 (I.ok.noex b o e)⟩
theorem Inv.bk(I:Inv X pins σ H s):∀b o,X.base.get? b=some o->s.heap.get? b=some o:=λb o e=>(I.bs b o e).1
theorem Inv.mod(I:Inv X pins σ H s):Mod X.K X.mg X.base:=I.ok.mod
theorem Inv.kIn(I:Inv X pins σ H s):X.K.In s.heap:=I.ok.mod.kin.keeps I.bk
theorem Inv.lt(I:Inv X pins σ H s):X.env.locals<s.heap.objs.size:=let ⟨_,hn,_⟩:=I.loc;hn.lt
theorem Inv.sz(I:Inv X pins σ H s):X.s₀.heap.objs.size<=s.heap.objs.size:=UD I.ok.above (YK I.lt)
theorem Inv.nofs(I:Inv X pins σ H s)(h:s.heap.objs.size<=a):a∉X.fs:=λB=>by
 obtain⟨_,o,q,_⟩:=I.ok.funs.mem B;exact absurd (UR (S8 q) (UD I.sz h)) (U7 _)
theorem Inv.cne(I:Inv X pins σ H s):∀x c,X.env.cells.lookup x=some c->c≠X.env.locals:=λx c e z=>by
 obtain⟨v,o,F,G⟩:=I.cell x c e;obtain⟨m,⟨o',es,ep,B,q,_⟩,_⟩:=I.loc;rw[z,B]at F;cases F;rw[q]at G;cases G
theorem Inv.funs(I:Inv X pins σ H s):s.heap.FunFrames X.base X.outer:=by
 have all:∀(l:List Env),(∀b∈frs l,b∈X.fs)->X.s₀.heap.FunFrames X.base l->s.heap.FunFrames X.base l:=by
  intro l;induction l with
  | nil=>intro _ _;trivial
  | cons env r ih=>
   intro hs W;obtain⟨M,⟨L,o,B,N,G,U⟩,J⟩:=W;have q:L∈X.fs:=hs L (by unfold frs;rw[Z1,B];exact TK);obtain⟨Y,e⟩:=I.base.slot L o G (I.ok.frf L q) q λz=>I.ok.exfs L z q
   exact⟨M,⟨L,_,B,N,e,U⟩,ih (λb F=>hs b (by unfold frs;rw[Z1,B];exact TR _ F)) J⟩
 exact all X.outer (λ_ F=>F) I.ok.funs
theorem Inv.stack(I:Inv X pins σ H s):s.heap.FunFrames X.base X.stack:=by
 rcases I.ok.stk with e|⟨e,B⟩
 ·rw[e];exact I.funs
 ·rw[e]
  obtain⟨m,q,_⟩:=I.loc;refine .cons (by rw[I.ok.kind];decide) B q ?_ I.funs;exact Heap.get?_none_of_le (UD I.ok.bsz I.ok.above)
theorem Inv.stkSub(I:Inv X pins σ H s):∀b∈frs X.stack,b∈X.env.locals::X.fs:=λb q=>by
 rcases I.ok.stk with e|⟨e,B⟩
 ·rw[e]at q;exact TR _ q
 ·rw[e]at q
  unfold frs at q;rw[Z1,B]at q;exact q
theorem Inv.stkFree(I:Inv X pins σ H s):∀b∈frs X.stack,H b=none:=λb q=>by
 rcases List.mem_cons.mp (I.stkSub b q)with e|q
 ·rw[e];exact I.free
 ·obtain⟨_,o,B,_⟩:=I.ok.funs.mem q
  exact I.base.free b o B (I.ok.frf b q) λz=>I.ok.exfs b z q
theorem Inv.step{g':Array GenState}{t':Nat}{d':Drawn}{ch:List Addr}(I:Inv X pins σ H s)
  (G:∀b∈ch,(b∈X.ex\/X.s₀.heap.objs.size<=b)/\b≠X.env.locals/\(∀x c,X.env.cells.lookup x=some c->c≠b)/\∀p∈X.pn++pins,p.1≠b)
  (keep:∀b o,b≠X.env.locals->b∉X.fs->b∉ch->s.heap.get? b=some o->H b=none->h'.get? b=some o)
  (U:∀b o,b≠X.env.locals->b∈X.fs->b∉ch->s.heap.get? b=some o->H b=none->∃sl,h'.get? b=some {o with slots:=sl}) (free:∀b o,b∉ch->s.heap.get? b=some o->H b=none->H' b=none)
  (there:∀b o,b∉ch->s.heap.get? b=some o->∃o',h'.get? b=some o')
  (ae:∀b xs,H b=some (.tup xs)->H' b=some (.tup xs)) (ad:∀b o u,H b=some (.frz o u)->H' b=some (.frz o u)) (ac:∀b ps,H b=some (.tbl ps)->∃more,H' b=some (.tbl (ps++more)))
  (ns:∀m,s.heap.Ns X.env.locals m->h'.Ns X.env.locals m) (af:HOk X.prog X.w H' h') (hg:V3 g') :
  Inv X pins σ H' {s with heap:=h',gens:=g',drawn:=d',toks:=t'}:=by
 have aa:∀b o,X.s₀.heap.get? b=some o->b≠X.env.locals:=λb o e=>TY (UR (S8 e) I.ok.above)
 have N:∀b o,X.s₀.heap.get? b=some o->b∉X.ex->b∉ch:=λb o e B W=>by
  rcases(G b W).1 with z|z
  ·exact B z
  ·exact absurd (UR (S8 e) z) (U7 _)
 have J:∀x c,X.env.cells.lookup x=some c->∀v,s.heap.IsCell c v->h'.IsCell c v:=by
  rintro x c e v ⟨o,Y,hd⟩;have F:c∉ch:=λz=>(G c z).2.2.1 x c e rfl
  by_cases hc:c∈X.fs
  ·obtain⟨sl,q⟩:=U c o (I.cne x c e) hc F Y (I.freeC x c e)
   exact⟨_,q,hd⟩
  ·exact⟨o,keep c o (I.cne x c e) hc F Y (I.freeC x c e),hd⟩
 refine⟨I.ok,I.os,hg,⟨λb o e n W B=>?_,λb o e n W B=>?_,λb o e n B=>?_,λb o e B=>?_,λb xs e=>ae b xs (I.base.tups b xs e),λb o xs e=>ad b o xs (I.base.frzs b o xs e),λb ps e=>?_⟩,?_,λx c e=>?_,?_,λx c e=>?_,λp hp=>?_,af,I.len⟩
 ·exact keep b o (aa b o e) W (N b o e B) (I.base.keep b o e n W B) (I.base.free b o e n B)
 ·obtain⟨sl,M⟩:=I.base.slot b o e n W B
  obtain⟨ai,e2⟩:=U b _ (aa b o e) W (N b o e B) M (I.base.free b o e n B);exact⟨ai,e2⟩
 ·obtain⟨o',M⟩:=I.base.there b o e B
  exact free b o' (N b o e B) M (I.base.free b o e n B)
 ·obtain⟨o',M⟩:=I.base.there b o e B
  exact there b o' (N b o e B) M
 ·obtain⟨m1,M⟩:=I.base.tbls b ps e
  obtain⟨m2,e2⟩:=ac b _ M;exact⟨m1++m2,by rw[e2,Array.append_assoc]⟩
 ·obtain⟨m,hn,hl⟩:=I.loc
  refine⟨m,ns m hn,λi x v M e2 e3=>?_⟩;obtain⟨u,r,l⟩:=hl i x v M e2 e3;refine⟨u,r,?_⟩;rcases l with l|⟨k,c,e,z⟩
  ·exact .inl l
  ·exact .inr ⟨k,c,e,J x c e _ z⟩
 ·obtain⟨v,z⟩:=I.cell x c e
  exact⟨v,J x c e v z⟩
 ·obtain⟨m,⟨o,_,_,Y,_⟩,_⟩:=I.loc
  exact free _ o (λz=>(G _ z).2.1 rfl) Y I.free
 ·obtain⟨v,o,Y,hd⟩:=I.cell x c e
  exact free c o (λz=>(G c z).2.2.1 x c e rfl) Y (I.freeC x c e)
 ·obtain⟨e,n,ne,nf,d⟩:=I.pin p hp
  have F:p.1∉ch:=λz=>(G p.1 z).2.2.2 p hp rfl
  exact⟨keep p.1 p.2 ne nf F e n,free p.1 p.2 F e n,ne,nf,d⟩
theorem Inv.un{t':Nat}(I:Inv X pins σ H s)(u:Un X.fs [] H H' s.heap h')(F:HOk X.prog X.w H' h'):Inv X pins σ H' {s with heap:=h',toks:=t'}:=by
 obtain⟨m,⟨o,es,ep,M,r⟩,_⟩:=id I.loc;obtain⟨Y,N⟩:=u.any M I.free (by simp);exact I.step (g':=s.gens) (d':=s.drawn) (ch:=[]) (λ_ z=>nomatch z) (λb o _ J _ e n=>u.keep b o e n J (by simp)) (λb o _ J _ e n=>u.slot b o e n J (by simp)) (λb o _ e n=>u.free b o e n (by simp)) (λb o _ e=>u.there b o e (by simp)) u.tups u.frzs u.tbls (λm' W=>by
  obtain⟨o',B,G,q,U⟩:=W;rw[M]at q;cases q;exact⟨_,B,G,N,U⟩) F I.bare
theorem Inv.call{g':Array GenState}{t':Nat}{d':Drawn}{ch:List Addr}(I:Inv X pins σ H s)(u:Un (frs X.stack) ch H H' s.heap h')(M:HOk X.prog X.w H' h')(W:V3 g')
  (B:∀b∈ch,(b∈X.ex\/X.s₀.heap.objs.size<=b)/\b≠X.env.locals/\(∀x c,X.env.cells.lookup x=some c->c≠b)/\∀p∈X.pn++pins,p.1≠b) :
  Inv X pins σ H' {s with heap:=h',gens:=g',drawn:=d',toks:=t'}:=by
 obtain⟨m,⟨o,es,ep,U,r⟩,_⟩:=id I.loc;obtain⟨sl,J⟩:=u.any U I.free λz=>(B _ z).2.1 rfl
 exact I.step (ch:=ch) B (λb o J hb q e n=>u.keep b o e n (λz=>(List.mem_cons.mp (I.stkSub b z)).elim J hb) q) (λb o _ _ q e n=>u.any e n q) (λb o q e n=>u.free b o e n q) (λb o q e=>u.there b o e q) u.tups u.frzs u.tbls (λm' hm=>by
  obtain⟨o',G,N,F,Y⟩:=hm;rw[U]at F;cases F;exact⟨_,G,N,J,Y⟩) M W
theorem Inv.turned{t':Nat}{it:Addr}(I:Inv X pins σ H s)(k:∀b o,b≠it->s.heap.get? b=some o->h'.get? b=some o)(M:H it=none)(G:it≠X.env.locals)
  (h1:it∈X.ex\/X.s₀.heap.objs.size<=it) (h2:∀x c,X.env.cells.lookup x=some c->c≠it) (J:∀p∈X.pn++pins,p.1≠it):Inv X pins σ H {s with heap:=h',toks:=t'}:=by
 have F:∀b u,H b=some u->b≠it:=λb u e z=>by rw[z,M]at e;cases e
 refine I.step (g':=s.gens) (d':=s.drawn) (ch:=[it]) (λb W=>?_) (λb o _ _ B e _=>k b o (λz=>B (by simp[z])) e) (λb o _ _ B e _=>⟨o.slots,k b o (λz=>B (by simp[z])) e⟩) (λ_ _ _ _ n=>n)
  (λb o B e=>⟨o,k b o (λz=>B (by simp[z])) e⟩) (λ_ _ e=>e) (λ_ _ _ e=>e) (λb ps e=>⟨#[],by rw[e];simp⟩) (λm N=>?_) (λb u e=>?_) I.bare
 ·have e:b=it:=by simpa using W
  subst e;exact⟨h1,G,h2,J⟩
 ·obtain⟨o,es,ep,U,r⟩:=N
  exact⟨o,es,ep,k _ o (T3 G) U,r⟩
 ·refine(I.hok b u e).stay (λc v B q=>k c v ?_ q) (λ_ q=>q) λ_ _ q=>q
  rcases B with z|z
  ·rw[z];exact F b u e
  ·exact F c _ z
theorem Inv.tok(I:Inv X pins σ H s)(t:Nat):Inv X pins σ H {s with toks:=t}:=I.un (h':=s.heap) (t':=t) Un.refl I.hok
theorem Inv.kept(I:Inv X pins σ H s)(k:∀b u,s.heap.get? b=some u->h'.get? b=some u):Inv X pins σ H {s with heap:=h',toks:=t'}:=I.un (Un.kept k) (I.hok.kept k)
theorem Inv.laid(I:Inv X pins σ H s)(k:∀b u,s.heap.get? b=some u->h'.get? b=some u)(q:s.heap.objs.size<=a)(new:ObjOk X.prog X.w (upd H a o) h' a o) :
  Inv X pins σ (upd H a o) {s with heap:=h',toks:=t'}:=I.un (Un.laid k q (I.hok.fresh q)) (I.hok.laid k q new)
theorem Inv.write(I:Inv X pins σ H s)(B:P4 (H x))(F:e=x\/H e=some (.own x))(k:∀b u,b≠e->s.heap.get? b=some u->h'.get? b=some u)(q:∃u,h'.get? e=some u)
  (new:ObjOk X.prog X.w (upd H x o) h' x o):Inv X pins σ (upd H x o) {s with heap:=h',toks:=t'}:=I.un (Un.write B F k q) (I.hok.write B F k q new)
theorem Inv.pins_of(I:Inv X pins σ H s)(h:∀p∈pins',s.heap.get? p.1=some p.2/\H p.1=none/\p.1≠X.env.locals/\p.1∉X.fs/\∀v,p.2.data≠.cell v):Inv X pins' σ H s:=
 ⟨I.ok,I.os,I.bare,I.base,I.loc,I.cell,I.free,I.freeC,λp q=>(List.mem_append.mp q).elim (λz=>I.pin p (YL _ z)) (h p),I.hok,I.len⟩
theorem uI{N:List Str}(q:N.Nodup){i j:Nat}{x:Str}(a:N[i]?=some x)(b:N[j]?=some x):i=j:=by
 obtain⟨h1,F⟩:=List.getElem?_eq_some_iff.mp a;obtain⟨h2,B⟩:=List.getElem?_eq_some_iff.mp b;exact(XS q).mp (F.trans B.symm)
theorem p4{M:Model}{A:TH}{E:Value->SZ->Prop}{i:Nat}{x:Str}{v:V}{u:Value}{Q:Unit->SZ->Prop}(I:Inv X pins σ H s)(hN:X.N.Nodup)(hi:X.N[i]?=some x)(J:Loc X.env.scope x)(r:RelV v u)
  (h:∀s',Inv X pins (σ.set i (some v)) H s'->(∃a,UE a s.heap s'.heap/\(a=X.env.locals\/X.env.cells.lookup x=some a))->Q () s') (hf:X.fn x=true\/X.env.scope.names.lookup x=some .local:=by first|exact .inl rfl|exact .inr rfl|assumption):wpAny M A (storeName X.env x u) Q E s:=by
 obtain⟨m,hn,hl⟩:=id I.loc;have af:(X.env.scope.kind == .class || (X.env.scope.kind == .module && X.env.locals != X.env.globals))=false:=by rw[I.ok.kind];rfl
 have Y:i<σ.length:=by rw[I.len];exact(List.getElem?_eq_some_iff.mp hi).1
 have cne:=I.cne;have F:∀ {a:Addr} {h':Heap},(∃o,s.heap.get? a=some o/\H a=none)->UE a s.heap h'->HOk X.prog X.w H h':=λ{a h'} ha hs b ob e=>by
  obtain⟨_,_,U⟩:=ha;refine(I.hok b ob e).stay (λc w' G q=>(hs.2 c ?_).trans q) (λ_ q=>q) λ_ _ q=>q
  rintro rfl;rcases G with rfl|G
  ·rw[U]at e;cases e
  ·rw[U]at G;cases G
 rcases J with hk|hk
 ·refine wpAny_storeName_local hk hn (λh' as hs=>?_) af
  obtain⟨oL,_,_,al,_⟩:=id hn;refine h _ ⟨I.ok,I.os,I.bare,⟨λb o e n hb J=>?_,λb o e n hb J=>?_,I.base.free,λb o e J=>?_,I.base.tups,I.base.frzs,I.base.tbls⟩,⟨_,as,λj y v' B W e3=>?_⟩,λy c e=>?_,I.free,I.freeC,λp hp=>?_,F ⟨oL,al,I.free⟩ hs,by simpa using I.len⟩ ⟨_,hs,.inl rfl⟩
  ·exact(hs.2 b (TY (UR (S8 e) I.ok.above))).trans (I.base.keep b o e n hb J)
  ·obtain⟨sl,B⟩:=I.base.slot b o e n hb J
   exact⟨sl,(hs.2 b (TY (UR (S8 e) I.ok.above))).trans B⟩
  ·obtain⟨o',B⟩:=I.base.there b o e J
   exact⟨o',(hs.2 b (TY (UR (S8 e) I.ok.above))).trans B⟩
  ·by_cases hj:j=i
   ·subst hj
    rw[hi]at B;cases B;rw[YM Y]at W;cases W;exact⟨u,r,.inl ⟨hk,by simp⟩⟩
   ·rw[WZ (T3 hj)]at W
    obtain⟨u',r',q⟩:=hl j y v' B W e3;refine⟨u',r',?_⟩;rcases q with⟨k,e⟩|⟨k,c,e,z⟩
    ·refine .inl ⟨k,?_⟩
     have:y≠x:=λe=>hj (uI hN B (e ▸ hi))
     simp[this,e]
    ·exact .inr ⟨k,c,e,z.sameBut hs (cne y c e)⟩
  ·obtain⟨w',z⟩:=I.cell y c e
   exact⟨w',z.sameBut hs (cne y c e)⟩
  ·obtain⟨e,n,ne,nf,d⟩:=I.pin p hp
   exact⟨(hs.2 p.1 ne).trans e,n,ne,nf,d⟩
 ·have ab:X.fn x=true:=by
   rcases hf with z|z
   ·exact z
   ·rw[z]at hk;cases hk
  obtain⟨c,G⟩:=I.ok.has x (.inl hk);obtain⟨w',z⟩:=I.cell x c G;refine wpAny_storeName_cell I.ok.kind hk G z (λh' ai hs=>?_);obtain⟨oc,ae,ah⟩:=id z;refine h {s with heap:=h'} ⟨I.ok,I.os,I.bare,⟨λb o e n hb J=>?_,λb o e n hb J=>?_,I.base.free,λb o e J=>?_,I.base.tups,I.base.frzs,I.base.tbls⟩,⟨m,hn.sameBut hs (T3 (cne x c G)),λj y v' B W e3=>?_⟩,λy c' e=>?_,I.free,I.freeC,λp hp=>?_,F ⟨oc,ae,I.freeC x c G⟩ hs,by simpa using I.len⟩ ⟨c,hs,.inr G⟩
  ·exact(hs.2 b (TY (UR (S8 e) (I.ok.cab x c ab G)))).trans (I.base.keep b o e n hb J)
  ·obtain⟨sl,B⟩:=I.base.slot b o e n hb J
   exact⟨sl,(hs.2 b (TY (UR (S8 e) (I.ok.cab x c ab G)))).trans B⟩
  ·obtain⟨o',B⟩:=I.base.there b o e J
   exact⟨o',(hs.2 b (TY (UR (S8 e) (I.ok.cab x c ab G)))).trans B⟩
  ·by_cases hj:j=i
   ·subst hj
    rw[hi]at B;cases B;rw[YM Y]at W;cases W;exact⟨u,r,.inr ⟨.inl hk,c,G,ai⟩⟩
   ·rw[WZ (T3 hj)]at W
    obtain⟨u',r',q⟩:=hl j y v' B W e3;refine⟨u',r',?_⟩;rcases q with q|⟨k,c',e,z'⟩
    ·exact .inl q
    ·refine .inr ⟨k,c',e,z'.sameBut hs ?_⟩
     rintro rfl;exact hj (uI hN B (I.ok.inj _ _ _ e G ▸ hi))
  ·by_cases ag:c'=c
   ·subst ag;exact⟨_,ai⟩
   ·obtain⟨w2,z2⟩:=I.cell y c' e
    exact⟨w2,z2.sameBut hs ag⟩
  ·obtain⟨e,n,ne,nf,d⟩:=I.pin p hp
   refine⟨(hs.2 p.1 ?_).trans e,n,ne,nf,d⟩;intro q;rw[q,ae]at e;have q':oc=p.2:=T5 e;exact d w' (by rw[<- q'];exact ah)
theorem uA(I:Inv X pins σ H s)(q:X.N.Nodup)(hi:X.N[i]?=some x)(B:Loc X.env.scope x)(r:RelV v u)
  (h:∀s',Inv X pins (σ.set i (some v)) H s'->Q () s') (F:X.fn x=true\/X.env.scope.names.lookup x=some .local:=by first|exact .inl rfl|exact .inr rfl|assumption):wpAny M A (storeName X.env x u) Q E s:=
 p4 I q hi B r (λs' G _=>h s' G) F
theorem Inv.call'(I:Inv X pins σ H s)(G:s'.os=s.os)(u:Un (frs X.stack) ch H H' s.heap s'.heap)(B:HOk X.prog X.w H' s'.heap)(F:V3 s'.gens)
  (q:∀b∈ch,(b∈X.ex\/X.s₀.heap.objs.size<=b)/\b≠X.env.locals/\(∀x c,X.env.cells.lookup x=some c->c≠b)/\∀p∈X.pn++pins,p.1≠b):Inv X pins σ H' s':=by
 obtain⟨h',g',d',t',o'⟩:=s';have e:o'=s.os:=G;subst e;exact I.call (g':=g') (t':=t') (d':=d') u B F q
end
abbrev XK:=Value->Option Addr->Hp->Prop
abbrev St:=List (Option V)
abbrev VK:=V->Hp->Prop
abbrev TE:=St->Hp->VK->Prop
abbrev TT:=St->Hp->(Bool->Hp->Prop)->Prop
abbrev TA:=St->Hp->(List V->Hp->Prop)->Prop
structure Ends where
 nx:St->Hp->Prop
 rt:VK
 bk:St->Hp->Prop:=λ_ _=>False
 ct:St->Hp->Prop:=λ_ _=>False
abbrev TS:=Ends->St->Hp->Prop
inductive EP(X:Cx)(pins:List (Addr×Obj))(σ:St)(Q:VK)(u:Value)(s':SZ):Prop
 | mk (v:V) (H':Hp) (i:Inv X pins σ H' s') (r:RelV v u) (q:Q v H'):EP X pins σ Q u s'
inductive TP(X:Cx)(pins:List (Addr×Obj))(σ:St)(Q:Bool->Hp->Prop)(b:Bool)(s':SZ):Prop
 | mk (H':Hp) (i:Inv X pins σ H' s') (q:Q b H'):TP X pins σ Q b s'
inductive AP(X:Cx)(pins:List (Addr×Obj))(σ:St)(Q:List V->Hp->Prop)(us:List Value)(s':SZ):Prop
 | mk (vs:List V) (H':Hp) (i:Inv X pins σ H' s') (r:Vals vs us) (q:Q vs H'):AP X pins σ Q us s'
def SP(X:Cx)(pins:List (Addr×Obj))(D:Ends)(f:Flow)(s':SZ):Prop:=
 match f with
 | .next=>∃σ' H',Inv X pins σ' H' s'/\D.nx σ' H'
 | .brk=>∃σ' H',Inv X pins σ' H' s'/\D.bk σ' H'
 | .cont=>∃σ' H',Inv X pins σ' H' s'/\D.ct σ' H'
 | .ret u=>∃v σ' H',Inv X pins σ' H' s'/\RelV v u/\D.rt v H'
def PE(X:Cx)(e:Expr)(t:TE):Prop:=
 ∀(pins:List (Addr×Obj)) (s:SZ) (σ:St) (H:Hp) (Q:VK),Inv X pins σ H s->t σ H Q->wpAny (model X.prog X.w) X.A (eval e X.env) (EP X pins σ Q) X.xe s
def PT(X:Cx)(e:Expr)(t:TT):Prop:=
 ∀(pins:List (Addr×Obj)) (s:SZ) (σ:St) (H:Hp) (Q:Bool->Hp->Prop),Inv X pins σ H s->t σ H Q->wpAny (model X.prog X.w) X.A (isTrue e X.env (eval e X.env)) (TP X pins σ Q) X.xe s
def PW(X:Cx)(e:Expr)(t:TT):Prop:=
 ∀(whole:Sem Value) (pins:List (Addr×Obj)) (s:SZ) (σ:St) (H:Hp) (Q:Bool->Hp->Prop),Inv X pins σ H s->t σ H Q->wpAny (model X.prog X.w) X.A (isTrue e X.env whole) (TP X pins σ Q) X.xe s
theorem PW.pt{X:Cx}{e:Expr}{t:TT}(h:PW X e t):PT X e t:=h _
def PA(X:Cx)(es:List Expr)(t:TA):Prop:=
 ∀(pos:Pos) (pins:List (Addr×Obj)) (s:SZ) (σ:St) (H:Hp) (Q:List V->Hp->Prop),Inv X pins σ H s->t σ H Q->wpAny (model X.prog X.w) X.A (spliced (TU pos (S0 es X.env))) (AP X pins σ Q) X.xe s
def PS(X:Cx)(st:Stmt)(t:TS):Prop:=
 ∀(pins:List (Addr×Obj)) (s:SZ) (σ:St) (H:Hp) (D:Ends),Inv X pins σ H s->t D σ H->wpAny (model X.prog X.w) X.A (exec st X.env) (SP X pins D) X.xe s
def PSs(X:Cx)(st:List Stmt)(t:TS):Prop:=
 ∀(pins:List (Addr×Obj)) (s:SZ) (σ:St) (H:Hp) (D:Ends),Inv X pins σ H s->t D σ H->wpAny (model X.prog X.w) X.A (execs st X.env) (SP X pins D) X.xe s
theorem bS{B:Type}{t:Sem B}{Q q:B->SZ->Prop}{M:Model}{A:TH}{E:Value->SZ->Prop}{s:SZ}(h:wpAny M A t Q E s)(F:∀a s,Q a s->q a s):wpAny M A t q E s:=US h F λ_ _ x=>x
section
variable {X:Cx}
def kE(i:Nat):TE:=λσ H Q=>∃v,σ[i]?=some (some v)/\Q v H
def tC(v:V):TE:=λ_ H Q=>Q v H
theorem MF(Y:X.N[i]?=some x)(M:JN X.env.scope x)(G:(x == ("__debug__" : Str))=false:=by decide)(F:(x == ("__classdict__" : Str))=false:=by decide):PE X (.Name x pos) (kE i):=by
 intro pins s σ H Q I h;obtain⟨v,e,h⟩:=h;obtain⟨m,U,hl⟩:=I.loc;obtain⟨u,r,l⟩:=hl i x v Y e M;have fin:EP X pins σ Q u s:=⟨v,H,I,r,h⟩;rcases l with⟨B,W⟩|⟨B,c,J,q⟩
 ·exact wpAny_Name (wpAny_loadName_local I.ok.kind B U W fin) G
 ·rcases B with B|B
  ·exact wpAny_Name (wpAny_loadName_cell I.ok.kind B J q fin) G
  ·exact wpAny_Name (wpAny_loadName_free I.ok.kind B J q fin F) G
theorem LL{i j pos}:PE X (.Constant (.int i) j pos) (tC (.int i)):=λ_ _ _ H _ I h=>wpAny_Constant_int ⟨.int i,H,I.tok _,⟨_,rfl⟩,h⟩
theorem N7{b j pos}:PE X (.Constant (.bool b) j pos) (tC (.bl b)):=λ_ _ _ H _ I h=>Constant_bool ⟨.bl b,H,I,rfl,h⟩
theorem KF{j pos}:PE X (.Constant .none j pos) (tC .non):=λ_ _ _ H _ I h=>Constant_none ⟨.non,H,I,rfl,h⟩
theorem LY{x j pos}:PE X (.Constant (.str x) j pos) (tC (.str x)):=λ_ _ _ H _ I h=>Calls.Constant_str ⟨.str x,H,I.tok _,⟨_,rfl⟩,h⟩
def Gl(X:Cx)(x:Str):Prop:=X.env.kindOf x=some .globalImplicit
theorem yI(I:Inv X pins σ H s)(B:Gl X x)(q:X.mg x=some u)(h:Q u s)
  (F:(x == ("__debug__" : Str))=false:=by decide):wpAny (model X.prog X.w) X.A (eval (.Name x pos) X.env) Q E s:=
 Calls.Name_function_global I.ok.kind B (Calls.loadGlobal_global (by rw[I.ok.glob];exact I.mod.glob.keeps I.bk) q h) F
theorem kA{E:Value->SZ->Prop}{pins:List (Addr×Obj)}{s:SZ}{σ:St}{H:Hp}{x:Str}{u:Value}{pos:Pos}{Q:Value->SZ->Prop}(I:Inv X pins σ H s)(q:Gl X x)(J:X.mg x=none)(B:TZ x=some u)(h:Q u s)
  (F:x ≠ "__name__" := by decide) (G:(x == ("__debug__" : Str))=false:=by decide):wpAny (model X.prog X.w) X.A (eval (.Name x pos) X.env) Q E s:=by
 obtain⟨M,h1,h2⟩:=I.mod.blt;exact Calls.Name_function_global I.ok.kind q (Calls.loadGlobal_builtin (by rw[I.ok.glob];exact I.mod.glob.keeps I.bk) J (by rw[I.ok.blt];exact h1.keeps I.bk) ((h2 x F).trans B) h) G
theorem rH(B:Gl X x)(q:X.mg x=some u)(r:RelV v u)(F:(x == ("__debug__" : Str))=false:=by decide):PE X (.Name x pos) (tC v):=
 λ_ _ _ H _ I h=>yI I B q ⟨v,H,I,r,h⟩ F
theorem GE(q:Gl X x)(J:X.mg x=none)(B:TZ x=some u)(r:RelV v u)(F:x ≠ "__name__" := by decide)(G:(x == ("__debug__" : Str))=false:=by decide):PE X (.Name x pos) (tC v):=
 λ_ _ _ H _ I h=>kA I q J B ⟨v,H,I,r,h⟩ F G
variable {a b:Expr}{ta tb:TE}{pos:Pos}
def tB(t:TE):TT:=λσ H Q=>t σ H λx H1=>∃c,x=.bl c/\Q c H1
theorem MG{e:Expr}{t:TE}(h:PE X e t)(F:∀B,isTrue e X.env B=(do let v <- B;standAt e.pos;holding [v] (truthy v)):=by intro _;rfl):PT X e (tB t):=by
 intro pins s σ H Q I hw;refine isTrue_plain (bS (h pins s σ H _ I hw) λv N ⟨x,H1,G,M,J⟩=>?_) (F _);obtain⟨d,rfl,q⟩:=J;cases M;exact VB ⟨H1,G,q⟩
variable {tA tB':TT}{rest:List Expr}
def QO(t u:TT):TT:=λσ H Q=>t σ H λc H1=>if c=true then u σ H1 Q else Q false H1
def SH(t u:TT):TT:=λσ H Q=>t σ H λc H1=>if c=true then Q true H1 else u σ H1 Q
def RH(t:TT):TT:=λσ H Q=>t σ H λc H1=>Q (!c) H1
theorem GY(q:PT X a tA):PW X (.BoolOp .And [a] pos) tA:=by
 intro B pins s σ H Q I h;refine isTrue_and (bS (q pins s σ H Q I h) λc F e=>?_);cases c with
 | true=>exact isTrue_and_nil e
 | false=>exact e
theorem LZ(q:PT X a tA):PW X (.BoolOp .Or [a] pos) tA:=by
 intro B pins s σ H Q I h;refine isTrue_or (bS (q pins s σ H Q I h) λc F e=>?_);cases c with
 | false=>exact isTrue_or_nil e
 | true=>exact e
theorem K1(F:PT X a tA)(M:PW X (.BoolOp .And (b::rest) pos) tB'):PW X (.BoolOp .And (a::b::rest) pos) (QO tA tB'):=by
 intro J pins s σ H Q I h;refine isTrue_and (bS (F pins s σ H _ I h) λc G ⟨H1,q,B⟩=>?_);cases c with
 | true=>exact M J pins G σ H1 Q q B
 | false=>exact⟨H1,q,B⟩
theorem NK(F:PT X a tA)(M:PW X (.BoolOp .Or (b::rest) pos) tB'):PW X (.BoolOp .Or (a::b::rest) pos) (SH tA tB'):=by
 intro J pins s σ H Q I h;refine isTrue_or (bS (F pins s σ H _ I h) λc G ⟨H1,q,B⟩=>?_);cases c with
 | true=>exact⟨H1,q,B⟩
 | false=>exact M J pins G σ H1 Q q B
theorem LC(B:PT X a tA):PT X (.UnaryOp .Not a pos) (RH tA):=by
 intro pins s σ H Q I h;exact isTrue_not (bS (B pins s σ H (λc H1=>Q (!c) H1) I h) λ_ _ ⟨H',i,q⟩=>⟨H',i,q⟩)
def N3(ta tb:TE):TE:=λσ H Q=>ta σ H λx H1=>∃c,x=.bl c/\if c=true then tb σ H1 Q else Q (.bl false) H1
def OH(ta:TE):TE:=λσ H Q=>ta σ H λx H1=>∃c,x=.bl c/\Q (.bl (!c)) H1
theorem L0{op}(h:PE X a t):PE X (.BoolOp op [a] pos) t:=λpins s σ H Q I hw=>BoolOp_one (h pins s σ H Q I hw)
theorem J9(F:PE X a ta)(M:PE X (.BoolOp .And (b::rest) pos) tb):PE X (.BoolOp .And (a::b::rest) pos) (N3 ta tb):=by
 intro pins s σ H Q I h;refine BoolOp_and (bS (F pins s σ H _ I h) λv G ⟨x,H1,B,J,q⟩=>?_);obtain⟨c,rfl,q⟩:=q;cases J;refine VB ?_;cases c with
 | true=>exact M pins G σ H1 Q B q
 | false=>exact⟨.bl false,H1,B,rfl,q⟩
theorem K4(B:PE X a ta):PE X (.UnaryOp .Not a pos) (OH ta):=by
 intro pins s σ H Q I h;refine UnaryOp_ (bS (B pins s σ H _ I h) λv J ⟨x,H1,F,G,q⟩=>?_);obtain⟨c,rfl,q⟩:=q;cases G;exact not_of (VB ⟨.bl (!c),H1,F,rfl,q⟩)
end
def SqL(K:S2)(H:Hp)(a:Addr)(xs:List V):Prop:=
 Rd H a (.lst xs) \/
  ∃(o:Obj) (its:Array Value) (n:Nat),K.lookup a=some o/\o.cls=.type "list" /\ o.dict=none/\o.data=.seq its n/\its.size<=S7/\Vals xs its.toList
def SqT(K:S2)(H:Hp)(a:Addr)(xs:List V):Prop:=
 Rd H a (.tup xs) \/
  ∃(o:Obj) (its:Array Value) (n:Nat),K.lookup a=some o/\o.cls=.type "tuple" /\ o.data=.seq its n/\its.size<=S7/\Vals xs its.toList
noncomputable def RK:Value->Option V
 | .none=>some .non
 | .bool b=>some (.bl b)
 | .int i _=>some (.int i)
 | .str x _=>some (.str x)
 | .bytes b _=>some (.byt b)
 | .float b _=>some (.flt b)
 | .ref a=>some (.ref a)
 | .type n=>some (.ty n)
 | _=>none
theorem RelV.abs(r:RelV x u):RK u=some x:=by
 cases x with
 | non=>cases r;rfl
 | bl _=>cases r;rfl
 | int _=>obtain⟨t,rfl⟩:=r;rfl
 | str _=>obtain⟨t,rfl⟩:=r;rfl
 | byt _=>obtain⟨t,rfl⟩:=r;rfl
 | flt _=>obtain⟨t,rfl⟩:=r;rfl
 | ref _=>cases r;rfl
 | ty _=>cases r;rfl
theorem RelV.inj(r:RelV x u)(q:RelV y u):x=y:=T5 (r.abs.symm.trans q.abs)
theorem Vals.inj:∀ {xs ys:List V} {us:List Value},Vals xs us->Vals ys us->xs=ys
 | _,_,_,.nil,.nil=>rfl
 | _,_,_,.cons r t,.cons r' t'=>by rw[r.inj r',Vals.inj t t']
section
variable {X:Cx}{pins:List (Addr×Obj)}{σ:St}{H:Hp}{s:SZ}{a:Addr}{xs ys:List V}
theorem SqL.of{K:S2}(h:H a=some (.lst xs)):SqL K H a xs:=.inl (.inl h)
theorem SqT.of{K:S2}(h:H a=some (.tup xs)):SqT K H a xs:=.inl (.inl h)
theorem Inv.list(I:Inv X pins σ H s)(h:SqL X.K H a xs):∃q:List Value,Vals xs q/\PlainL s.heap a q.toArray/\xs.length<=S7:=by
 rcases h with h|⟨o,q,n,B,G,F,hs,hz,r⟩
 ·obtain⟨z,q,n,r,e⟩:=h.ok I.hok
  exact⟨q,r,⟨_,n,e,rfl,rfl,rfl⟩,z⟩
 ·refine⟨q.toList,r,⟨o,n,I.kIn a o B,G,F,by simpa using hs⟩,?_⟩
  have e:=r.length;simp only[UL]at e
  lia
theorem Inv.tuple(I:Inv X pins σ H s)(h:SqT X.K H a xs):∃q:List Value,Vals xs q/\IsTup s.heap a q.toArray/\xs.length<=S7:=by
 rcases h with h|⟨o,q,n,F,B,hs,hz,r⟩
 ·obtain⟨z,q,r,p⟩:=h.ok I.hok
  exact⟨q,r,p.tup,z⟩
 ·refine⟨q.toList,r,⟨o,I.kIn a o F,B,n,by simpa using hs⟩,?_⟩
  have e:=r.length;simp only[UL]at e
  lia
theorem Inv.list_inj(I:Inv X pins σ H s)(h:SqL X.K H a xs)(h':SqL X.K H a ys):xs=ys:=by
 obtain⟨q,r,⟨o,n,e,_,_,d⟩,_⟩:=I.list h;obtain⟨its',F,⟨o',G,B,_,_,d'⟩,_⟩:=I.list h';rw[e]at B;cases B;rw[d]at d';injection d' with d1 _
 have:q=its':=by simpa using congrArg Array.toList d1
 subst this;exact r.inj F
theorem Inv.tuple_inj(I:Inv X pins σ H s)(h:SqT X.K H a xs)(h':SqT X.K H a ys):xs=ys:=by
 obtain⟨q,r,⟨o,e,_,n,d⟩,_⟩:=I.tuple h;obtain⟨its',F,⟨o',B,_,G,d'⟩,_⟩:=I.tuple h';rw[e]at B;cases B;rw[d]at d';injection d' with d1 _
 have:q=its':=by simpa using congrArg Array.toList d1
 subst this;exact r.inj F
end
abbrev Cx.wish(X:Cx)(E:Value->SZ->Prop):Cx:={X with xe:=E}
abbrev Cx.nox(X:Cx):Cx:=X.wish λ_ _=>False
theorem Cx.Ok.wish{X:Cx}(ok:X.Ok)(E:Value->SZ->Prop):(X.wish E).Ok:=
 ⟨ok.mod,ok.kind,ok.glob,ok.blt,ok.above,ok.inj,ok.has,ok.cab,ok.hd,ok.frames,ok.stk,ok.exf,ok.bs,ok.bsz,ok.noex,ok.exfs,ok.funs,ok.frf⟩
theorem Cx.Ok.unwish{X:Cx}{E:Value->SZ->Prop}(ok:(X.wish E).Ok):X.Ok:=
 ⟨ok.mod,ok.kind,ok.glob,ok.blt,ok.above,ok.inj,ok.has,ok.cab,ok.hd,ok.frames,ok.stk,ok.exf,ok.bs,ok.bsz,ok.noex,ok.exfs,ok.funs,ok.frf⟩
section
variable {X:Cx}{pins:List (Addr×Obj)}{σ:St}{H:Hp}{s:SZ}{E:Value->SZ->Prop}
theorem Inv.wish(I:Inv X pins σ H s)(E:Value->SZ->Prop):Inv (X.wish E) pins σ H s:=⟨I.ok.wish E,I.os,I.bare,I.base,I.loc,I.cell,I.free,I.freeC,I.pin,I.hok,I.len⟩
theorem Inv.unwish(I:Inv (X.wish E) pins σ H s):Inv X pins σ H s:=⟨I.ok.unwish,I.os,I.bare,I.base,I.loc,I.cell,I.free,I.freeC,I.pin,I.hok,I.len⟩
theorem SP.unwish(h:SP (X.wish E) pins D f s'):SP X pins D f s':=by
 cases f with
 | next=>obtain⟨B,H',I,q⟩:=h;exact⟨B,H',I.unwish,q⟩
 | brk=>obtain⟨B,H',I,q⟩:=h;exact⟨B,H',I.unwish,q⟩
 | cont=>obtain⟨B,H',I,q⟩:=h;exact⟨B,H',I.unwish,q⟩
 | ret u=>obtain⟨v,B,H',I,r,q⟩:=h;exact⟨v,B,H',I.unwish,r,q⟩
theorem PE.nox(h:PE X.nox e t):PE X e t:=λpins s σ H Q I hw=>
 US (h pins s σ H Q (I.wish _) hw) (λ_ _ ⟨v,H',B,r,q⟩=>⟨v,H',B.unwish,r,q⟩) λ_ _ z=>VC z
theorem PT.nox(h:PT X.nox e t):PT X e t:=λpins s σ H Q I hw=>
 US (h pins s σ H Q (I.wish _) hw) (λ_ _ ⟨H',B,q⟩=>⟨H',B.unwish,q⟩) λ_ _ z=>VC z
theorem PSs.nox{st:List Stmt}{t:TS}(h:PSs X.nox st t):PSs X st t:=λpins s σ H D I hw=>
 US (h pins s σ H D (I.wish _) hw) (λ_ _ q=>q.unwish) λ_ _ z=>VC z
end
section
variable {X:Cx}{st:Stmt}{rest:List Stmt}{t u:TS}{e:Expr}{te:TE}{pos:Pos}
def NZ:TS:=λD σ H=>D.nx σ H
def PY(t u:TS):TS:=λD σ H=>t {D with nx:=u D} σ H
theorem G2:PSs X [] NZ:=λ_ _ σ H _ I h=>Z2 ⟨σ,H,I,h⟩
theorem nK(h1:PS X st t)(h2:PSs X rest u):PSs X (st::rest) (PY t u):=by
 intro pins s σ H D I h;refine wpAny_execs_cons (bS (h1 pins s σ H {D with nx:=u D} I h) λf F q=>?_);cases f with
 | next=>
  obtain⟨B,H',G,q⟩:=q;exact h2 pins F B H' D G q
 | ret v=>exact q
 | brk=>exact q
 | cont=>exact q
theorem xN(h1:PS X st t):PSs X [st] t:=by
 intro pins s σ H D I h;refine wpAny_execs_cons (bS (h1 pins s σ H D I h) λf B q=>?_);cases f with
 | next=>exact Z2 q
 | ret v=>exact q
 | brk=>exact q
 | cont=>exact q
theorem Inv.quiet(I:Inv X pins σ H s):interactive X.env=false:=by simp[interactive,I.ok.kind]
def N1(te:TE):TS:=λD σ H=>te σ H λ_ H1=>D.nx σ H1
theorem rA(q:PE X e te)(hs:UM e none pos.line X.env=pure false:=by rfl):PS X (.Expr e pos) (N1 te):=by
 intro pins s σ H D I h;exact wpAny_Expr_any (bS (q pins s σ H _ I h) λv G ⟨x,H1,B,J,F⟩=>⟨σ,H1,B,F⟩) I.quiet hs
def QM(te:TE):TS:=λD σ H=>te σ H D.rt
theorem DH(q:PE X e te):PS X (.Return (some e) pos) (QM te):=by
 intro pins s σ H D I h;exact wpAny_Return_some (bS (q pins s σ H _ I h) λv J ⟨x,H1,B,G,F⟩=>⟨x,σ,H1,B,G,F⟩)
def QE(c:TT)(t u:TS):TS:=λD σ H=>c σ H λb H1=>if b=true then t D σ H1 else u D σ H1
theorem OB{c:Expr}{a b:List Stmt}{tc:TT}(J:PT X c tc)(G:PSs X a t)(M:PSs X b u):PS X (.If c a b pos) (QE tc t u):=by
 intro pins s σ H D I h;refine wpAny_If (bS (J pins s σ H _ I h) λd F ⟨H1,q,B⟩=>?_);cases d with
 | true=>exact G pins F σ H1 D q B
 | false=>exact M pins F σ H1 D q B
end
abbrev TG:=V->St->Hp->(St->Hp->Prop)->Prop
abbrev M8:=List V->St->Hp->(St->Hp->Prop)->Prop
def PG(X:Cx)(q:Expr)(t:TG):Prop:=
 ∀(pins:List (Addr×Obj)) (s:SZ) (σ:St) (H:Hp) (v:V) (u:Value) (Q:St->Hp->Prop),Inv X pins σ H s->RelV v u->t v σ H Q->
  wpAny (model X.prog X.w) X.A (VR q X.env u) (λ_ s'=>∃B H',Inv X pins B H' s'/\Q B H') X.xe s
def PGs(X:Cx)(ts:List Expr)(t:M8):Prop:=
 ∀(pins:List (Addr×Obj)) (s:SZ) (σ:St) (H:Hp) (vs:List V) (us:List Value) (Q:St->Hp->Prop),Inv X pins σ H s->Vals vs us->t vs σ H Q->
  wpAny (model X.prog X.w) X.A (assignInOrder ((VS ts X.env).map (·.2)) us) (λ_ s'=>∃q H',Inv X pins q H' s'/\Q q H') X.xe s
abbrev EZ:=V->V->V->Hp->(Hp->Prop)->Prop
def II(X:Cx)(t:EZ):Prop:=
 ∀(pins:List (Addr×Obj)) (s:SZ) (σ:St) (H:Hp) (o i v:V) (ov iv u:Value) (Q:Hp->Prop),Inv X pins σ H s->RelV o ov->RelV i iv->RelV v u->t o i v H Q->
  wpAny (model X.prog X.w) X.A (setItem ov iv u) (λ_ s'=>∃H',Inv X pins σ H' s'/\Q H') X.xe s
section
variable {X:Cx}{pos:Pos}
def qJ(i:Nat):TG:=λv σ H Q=>Q (σ.set i (some v)) H
theorem yD(q:X.N.Nodup)(hi:X.N[i]?=some x)(B:Loc X.env.scope x)(F:X.fn x=true\/X.env.scope.names.lookup x=some .local:=by first|exact .inl rfl|exact .inr rfl|assumption):PG X (.Name x pos) (qJ i):=by
 intro pins s σ H v u Q I r h;exact wpAny_assign_Name (uA I q hi B r (λs' G=>⟨_,H,G,h⟩) F)
def QG:M8:=λvs σ H Q=>vs=[]/\Q σ H
def JE(t:TG)(u:M8):M8:=λvs σ H Q=>∃v r,vs=v::r/\t v σ H λq H'=>u r q H' Q
theorem GS:PGs X [] QG:=by
 intro pins s σ H vs q Q I r h;obtain⟨e,h⟩:=h;subst e;cases r;exact assignInOrder_nil ⟨σ,H,I,h⟩
theorem BH{e:Expr}{es:List Expr}{t:TG}{u:M8}(h1:PG X e t)(h2:PGs X es u)
  (hs:(VS (e::es) X.env).map (·.2)=VR e X.env::(VS es X.env).map (·.2):=by rfl):PGs X (e::es) (JE t u):=by
 intro pins s σ H vs M Q I r h;obtain⟨v,N,B,h⟩:=h;subst B;cases r with
 | cons r rr=>
  rw[hs];refine assignInOrder_cons (bS (h1 pins s σ H _ _ _ I r h) λ_ J ⟨q,H1,F,G⟩=>?_);exact h2 pins J q H1 _ _ Q F rr G
def PJ(K:S2)(n:Nat)(t:M8):TG:=λv σ H Q=>∃a xs,v=.ref a/\SqT K H a xs/\xs.length=n/\t xs σ H Q
theorem MI(U:X.calm=true)(h:PGs X es t)
  (W:(VS es X.env).length=n:=by rfl) (q:(VS es X.env).findIdx? (·.1)=none:=by rfl):PG X (.Tuple es k pos) (PJ X.K n t):=by
 intro pins s σ H v u Q I r hw;obtain⟨a,xs,F,N,hl,hw⟩:=hw;subst F;cases r;obtain⟨J,B,M,hz⟩:=I.tuple N;refine assign_Tuple_tuple (I.ok.hd U) M (by simp[W,<- hl,B.length]) q λh' Y=>?_
 have G:Inv X pins σ H {s with heap:=h'}:=I.kept (t':=s.toks) λb o e=>Y b o (TY (S8 e)) e
 exact h pins _ σ H xs _ Q G (by simpa using B) hw
def MR(to B:TE)(t:EZ):TG:=λv σ H Q=>to σ H λo H1=>B σ H1 λi H2=>t o i v H2 λq=>Q σ q
theorem D0{o i:Expr}{to F:TE}{t:EZ}(ho:PE X o to)(hi:PE X i F)(hs:II X t)
  (G:∀v, VR (.Subscript o i pos) X.env v = (do
   let q <- holding [v] (eval o X.env);let B <- holding [v,q] (eval i X.env)
   standAt pos
   holding [v,q,B] (setItem q B v)
   release [v,q,B] []):=by intro _;rfl):PG X (.Subscript o i pos) (MR to F t):=by
 intro pins s σ H v u Q I r h;rw[G];refine SY (U8 (bS (ho pins s σ H _ I h) λq s1 ⟨x,H1,N,r1,W⟩=>?_));refine SY (U8 (bS (hi pins s1 σ H1 _ N W) λB s2 ⟨y,H2,J,r2,Y⟩=>?_));refine SY (wpAny_standAt (SY (U8 (bS (hs pins s2 σ H2 x y v q B u _ J r1 r2 r Y) λ_ s3 ⟨M,I3,U⟩=>?_))));exact wpAny_release ⟨σ,M,I3,U⟩
def IG(te:TE)(g:TG):TS:=λD σ H=>te σ H λx H1=>g x σ H1 D.nx
theorem MD{tg e:Expr}{te:TE}{g:TG}(F:PE X e te)(B:PG X tg g)(hs:swapsWithSole [tg] e pos.line X.env=pure false:=by rfl)(hw:swappedStores [tg] e X.env=pure none:=by rfl)
  (h1:(VS [tg] X.env).map (·.2)=[VR tg X.env]:=by rfl):PS X (.Assign [tg] e pos) (IG te g):=by
 intro pins s σ H D I h;refine wpAny_Assign_stores (bS (F pins s σ H _ I h) λv N ⟨x,H1,G,M,J⟩=>?_) hs hw;rw[h1];exact bS (B pins N σ H1 x v _ G M J) λ_ U q=>q
theorem rU{i:Nat}{x:Str}{e:Expr}{te:TE}{pos':Pos}(U:X.N.Nodup)(hi:X.N[i]?=some x)(W:Loc X.env.scope x)(q:PE X e te)(hs:UM e (some (.Name x pos')) pos.line X.env=pure false:=by rfl)(G:X.fn x=true\/X.env.scope.names.lookup x=some .local:=by first|exact .inl rfl|exact .inr rfl|assumption) :
  PS X (.Assign [.Name x pos'] e pos) (IG te (qJ i)):=by
 intro pins s σ H D I h;refine wpAny_Assign_Name (bS (q pins s σ H _ I h) λv Y ⟨y,H1,F,M,J⟩=>?_) hs;exact uA F U hi W M (λs2 B=>⟨_,H1,B,J⟩) G
end
section
variable {X:Cx}{pos:Pos}
end
structure It where
 go:Nat->Hp->Prop
 yld:Nat->Hp->V->Hp->Prop
 stop:Nat->Hp->Prop
def g5(X:Cx)(pins:List (Addr×Obj))(H:Hp)(b:Addr):Prop:=
 H b=none/\b≠X.env.locals/\b∉X.fs/\(b∈X.ex\/X.s₀.heap.objs.size<=b)/\(∀x c,X.env.cells.lookup x=some c->c≠b)/\∀p∈X.pn++pins,p.1≠b
theorem Inv.fpOk(I:Inv X pins σ H s)(B:s.heap.objs.size<=b)(F:H' b=none):g5 X pins H' b:=by
 refine⟨F,UG (UR I.lt B),I.nofs B,.inr (UD I.sz B),λx c e z=>?_,λp G z=>?_⟩
 ·obtain⟨v,q⟩:=I.cell x c e
  exact absurd (UR q.lt (by rw[z];exact B)) (U7 _)
 ·exact absurd (UR (S8 (I.pin p G).1) (by rw[z];exact B)) (U7 _)
structure Turn(P:S6)(w:World)(K:S2)(tg:Expr)(J:It)(fp:List Addr)(it:Addr)(tn:Nat->Heap->Prop):Prop where
 mem:it∈fp
 obj:∀i h,tn i h->∀b∈fp,∃o,h.get? b=some o/\∀v,o.data≠.cell v
 keep:∀i h h',tn i h->(∀b∈fp,∀o,h.get? b=some o->h'.get? b=some o)->tn i h'
 item:∀(X:Cx),X.prog=P->X.w=w->X.K=K->X.calm=true->∀(i:Nat) (pins:List (Addr×Obj)) (s:SZ) (σ:St) (H:Hp) (E:Value->SZ->Prop),Inv X pins σ H s->(∀b∈fp,g5 X pins H b)->tn i s.heap->J.go i H->
  wpAny (model P w) X.A (UN (.ref it)) (λr s1=>∃u,r=some u /\
   wpAny (model P w) X.A (YN tg (.ref it) u) (λ_ s2=>∃x H',Inv X pins σ H' s2/\RelV x u/\J.yld i H x H'/\tn (i+1) s2.heap/\∀b∈fp,H' b=none) E s1) E s
 done:∀(X:Cx),X.prog=P->X.w=w->X.K=K->X.calm=true->∀(i:Nat) (pins:List (Addr×Obj)) (s:SZ) (σ:St) (H:Hp) (E:Value->SZ->Prop),Inv X pins σ H s->(∀b∈fp,g5 X pins H b)->tn i s.heap->J.stop i H->
  wpAny (model P w) X.A (UN (.ref it)) (λr s1=>r=none/\Inv X pins σ H s1) E s
 self:∀(A:TH) (i:Nat) (s:SZ) (Q:Value->SZ->Prop) (E:Value->SZ->Prop),tn i s.heap->Q (.ref it) s->wpAny (model P w) A (pyIter (.ref it)) Q E s
abbrev TI:=St->Hp->(It->Hp->Prop)->Prop
def PIE(X:Cx)(pins:List (Addr×Obj))(σ:St)(tg:Expr)(R:It->Hp->Prop)(q:Value)(B:SZ):Prop:=
 ∃(it:Addr) (fp:List Addr) (tn:Nat->Heap->Prop) (J:It) (H':Hp),q=.ref it/\Inv X pins σ H' B/\Turn X.prog X.w X.K tg J fp it tn/\tn 0 B.heap/\(∀b∈fp,g5 X pins H' b)/\R J H'
def PI(X:Cx)(tg q:Expr)(wi:TI):Prop:=
 ∀(pins:List (Addr×Obj)) (s:SZ) (σ:St) (H:Hp) (R:It->Hp->Prop),Inv X pins σ H s->wi σ H R->
  wpAny (model X.prog X.w) X.A (eval q X.env) (λv B=>wpAny (model X.prog X.w) X.A (pyIter v) (PIE X pins σ tg R) X.xe B) X.xe s
theorem oK(J:s.heap.get? it=some o)(G:o.cls=.type n)(F:o.data=.fields vs)
    (B:["enumerate", "zip", "dict_itemiterator", "dict_reverseitemiterator", "odict_iterator", "itertools.zip_longest", "itertools.pairwise"].contains n=false) (q:Q () s):wpAny M A (YN tg (.ref it) u) Q E s:=by
  unfold YN;cases tg <;> first
    | exact S1 q
    | (cases u <;> first
        | exact S1 q
        | (refine SY (wpAny_load J ?_)
           rw[G,F];show wpAny M A (if(["enumerate", "zip", "dict_itemiterator", "dict_reverseitemiterator", "odict_iterator", "itertools.zip_longest", "itertools.pairwise"].contains n && vs[0]? == some (UH _))=true then _ else _) Q E s;rw[if_neg (by intro h;rw[B,Bool.false_and]at h;cases h)];exact S1 q))
def RW(K:S2)(a:Addr):It:=
 ⟨λi H=>∃xs x,SqL K H a xs/\xs[i]?=some x,λi H x H'=>H'=H/\∀xs,SqL K H a xs->xs[i]?=some x,λi H=>∃xs,SqL K H a xs/\xs.length<=i⟩
def RZ(K:S2)(a:Addr):It:=
 ⟨λi H=>∃xs x,SqT K H a xs/\xs[i]?=some x,λi H x H'=>H'=H/\∀xs,SqT K H a xs->xs[i]?=some x,λi H=>∃xs,SqT K H a xs/\xs.length<=i⟩
noncomputable def P8(lo:Int)(n:Nat):It:=⟨λi _=>i<n,λi H x H'=>H'=H/\x=.int (lo+i),λi _=>n<=i⟩
theorem AS{P:S6}{w:World}{K:S2}{tg:Expr}(a it:Addr):Turn P w K tg (RW K a) [it] it (λi h=>h.IsListIter it a i) where
 mem:=by simp
 obj:=λi h st b q=>by
  have e:b=it:=by simpa using q
  subst e;obtain⟨o,e,c,d⟩:=st;exact⟨o,e,λv z=>by rw[d]at z;cases z⟩
 keep:=λi h h' st k=>st.at λo e=>k it (by simp) o e
 item:=by
  intro X hP hw U hc i pins s σ H E I F st N;subst hP hw U;obtain⟨xs,x,G,hx⟩:=N;obtain⟨J,M,p,hz⟩:=I.list G;obtain⟨u,hu,ru⟩:=M.get hx;obtain⟨f0,f1,f2,Y,f4,W⟩:=F it (by simp);refine wpAny_pyNext_list_item st p.isList (x:=u) (by simpa using hu) λh' B sb=>?_
  have I1:Inv X pins σ H {s with heap:=h'}:=I.turned (t':=s.toks) (λb o q e=>(sb.2 b q).trans e) f0 f1 Y f4 W;obtain⟨o,e,c,d⟩:=id B;exact⟨u,rfl,oK (s:={s with heap:=h'}) e c d (by decide) ⟨x,H,I1,ru,⟨rfl,λys hy=>by rw[I.list_inj hy G];exact hx⟩,B,λb q=>(F b q).1⟩⟩
 done:=by
  intro X hP hw U hc i pins s σ H E I F st N;subst hP hw U;obtain⟨xs,G,hx⟩:=N;obtain⟨J,M,p,hz⟩:=I.list G;obtain⟨f0,f1,f2,Y,f4,W⟩:=F it (by simp);have hl:=M.length;exact wpAny_pyNext_list_end (I.ok.hd hc) st p.isList (by simp;lia) λh' eb=>⟨rfl,I.turned (t':=s.toks) (λb o q e=>eb b o q e) f0 f1 Y f4 W⟩
 self:=λ_ _ _ _ _ st h=>wpAny_pyIter_listiter st h
theorem vE{P:S6}{w:World}{K:S2}{tg:Expr}(a it:Addr):Turn P w K tg (RZ K a) [it] it (λi h=>h.IsTupleIter it a i) where
 mem:=by simp
 obj:=λi h st b B=>by
  have e:b=it:=by simpa using B
  subst e;obtain⟨o,e,c,d⟩:=st;exact⟨o,e,λv z=>by rw[d]at z;cases z⟩
 keep:=λi h h' st k=>st.at λo e=>k it (by simp) o e
 item:=by
  intro X hP hw U hc i pins s σ H E I G st N;subst hP hw U;obtain⟨xs,x,J,hx⟩:=N;obtain⟨q,M,p,hz⟩:=I.tuple J;obtain⟨u,hu,ru⟩:=M.get hx;obtain⟨f0,f1,f2,Y,f4,W⟩:=G it (by simp);refine wpAny_pyNext_tuple_item st (show s.heap.IsTuple a q.toArray from p) (x:=u) (by simpa using hu) λh' F sb=>?_
  have I1:Inv X pins σ H {s with heap:=h'}:=I.turned (t':=s.toks) (λb o B e=>(sb.2 b B).trans e) f0 f1 Y f4 W;obtain⟨o,e,c,d⟩:=id F;exact⟨u,rfl,oK (s:={s with heap:=h'}) e c d (by decide) ⟨x,H,I1,ru,⟨rfl,λys hy=>by rw[I.tuple_inj hy J];exact hx⟩,F,λb B=>(G b B).1⟩⟩
 done:=by
  intro X hP hw U hc i pins s σ H E I G st N;subst hP hw U;obtain⟨xs,J,hx⟩:=N;obtain⟨q,M,p,hz⟩:=I.tuple J;obtain⟨f0,f1,f2,Y,f4,W⟩:=G it (by simp);have hl:=M.length;exact wpAny_pyNext_tuple_end (I.ok.hd hc) st (show s.heap.IsTuple a q.toArray from p) (by simp;lia) λh' eb=>⟨rfl,I.turned (t':=s.toks) (λb o B e=>eb b o B e) f0 f1 Y f4 W⟩
 self:=λ_ _ _ _ _ st h=>wpAny_pyIter_tupleiter st h
theorem vZ{P:S6}{w:World}{K:S2}{tg:Expr}(it:Addr)(lo:Int)(n:Nat):Turn P w K tg (P8 lo n) [it] it (λi h=>YO h it (lo+(i:Nat)*1) ((n:Int)-(i:Nat)) 1) where
 mem:=by simp
 obj:=λi h st b q=>by
  have e:b=it:=by simpa using q
  subst e;exact⟨_,st,λv z=>by
   have z':Data.fields _=Data.cell v:=z;cases z'⟩
 keep:=λi h h' st k=>k it (by simp) _ st
 item:=by
  intro X Y hw N U i pins s σ H E I F st J;subst Y hw N;obtain⟨f0,M,f2,G,f4,f5⟩:=F it (by simp);have W:=Walks.range (prog:=X.prog) (w:=X.w) (I.ok.hd U) it lo 1 n;refine W.item i s _ _ J st λv h' tk hv B kk=>?_
  obtain⟨t,rfl⟩:=hv;have I1:Inv X pins σ H {s with heap:=h',toks:=tk}:=I.turned (λb o q e=>kk b o (by simpa using q) e) f0 M G f4 f5;refine⟨_,rfl,oK (s:={s with heap:=h',toks:=tk}) (n := "range_iterator") B rfl rfl (by decide) ⟨.int (lo+i),H,I1,⟨t,?_⟩,⟨rfl,rfl⟩,B,λb q=>(F b q).1⟩⟩;rw[Int.mul_one]
 done:=by
  intro X Y hw N U i pins s σ H E I F st J;subst Y hw N;obtain⟨f0,M,f2,G,f4,f5⟩:=F it (by simp);exact wpAny_pyNext_range_end (I.ok.hd U) st (by have:n<=i:=J;lia) λh' eb=>⟨rfl,I.turned (t':=s.toks) (λb o q e=>eb b o q e) f0 M G f4 f5⟩
 self:=λ_ _ _ _ _ st h=>wpAny_pyIter_rangeiter st h
section
variable {X:Cx}{tg:Expr}
def OU(K:S2)(tl:TE):TI:=λσ H R=>tl σ H λx H1=>∃a,x=.ref a/\(∃xs,SqL K H1 a xs)/\R (RW K a) H1
def QI(K:S2)(tl:TE):TI:=λσ H R=>tl σ H λx H1=>∃a,x=.ref a/\(∃xs,SqT K H1 a xs)/\R (RZ K a) H1
theorem G6{l:Expr}{tl:TE}(U:PE X l tl):PI X tg l (OU X.K tl):=by
 intro pins s σ H R I h;refine bS (U pins s σ H _ I h) λv F ⟨x,H1,B,N,J⟩=>?_
 obtain⟨a,e,⟨xs,M⟩,q⟩:=J;subst e;cases N;obtain⟨G,Y,p,hz⟩:=B.list M;refine wpAny_pyIter_list p.isList ?_;refine⟨F.heap.objs.size,[F.heap.objs.size],_,_,H1,rfl,B.kept (t':=F.toks) λb o e=>TC _ e,AS a _,⟨_,TV _ rfl,rfl,rfl⟩,λb W=>?_,q⟩;have e:b=F.heap.objs.size:=by simpa using W
 subst e;exact B.fpOk (TF _) (B.hok.fresh (TF _))
theorem LP{l:Expr}{tl:TE}(U:PE X l tl):PI X tg l (QI X.K tl):=by
 intro pins s σ H R I h;refine bS (U pins s σ H _ I h) λv B ⟨x,H1,F,N,J⟩=>?_
 obtain⟨a,e,⟨xs,M⟩,q⟩:=J;subst e;cases N;obtain⟨G,Y,p,hz⟩:=F.tuple M;refine XT (show B.heap.IsTuple a G.toArray from p) ?_;refine⟨B.heap.objs.size,[B.heap.objs.size],_,_,H1,rfl,F.kept (t':=B.toks) λb o e=>TC _ e,vE a _,⟨_,TV _ rfl,rfl,rfl⟩,λb W=>?_,q⟩;have e:b=B.heap.objs.size:=by simpa using W
 subst e;exact F.fpOk (TF _) (F.hok.fresh (TF _))
theorem CL{pins:List (Addr×Obj)}{σ:St}{H:Hp}{s:SZ}{R:It->Hp->Prop}{E:Value->SZ->Prop}{lo hi:Int}{t u v:Tok}{tk:Nat}(I:Inv X pins σ H s)(h1:-(2^62)<=lo)(h2:lo<2^62)(M:-(2^62)<=hi)(J:hi<2^62)
  (q:R (P8 lo (hi-lo).toNat) H):wpAny (model X.prog X.w) X.A (pyIter (.ref s.heap.objs.size)) (PIE X pins σ tg R) E {s with heap:=s.heap.push {cls:=.type "range",data:=.fields #[.int lo t,.int hi u,.int 1 v]},toks:=tk}:=by
 refine wpAny_pyIter_range (IsRange.new ..) (small_one h1 h2 M J) ?_;have B:Inv X pins σ H {s with heap:=s.heap.push {cls:=.type "range",data:=.fields #[.int lo t,.int hi u,.int 1 v]},toks:=tk}:=I.kept λb o e=>TC _ e
 refine⟨(s.heap.push {cls:=.type "range",data:=.fields #[.int lo t,.int hi u,.int 1 v]}).objs.size,[(s.heap.push {cls:=.type "range",data:=.fields #[.int lo t,.int hi u,.int 1 v]}).objs.size],_,_,H,rfl,
  B.kept (t':=tk) λb o e=>TC _ e,vZ _ lo (hi-lo).toNat,?_,λb N=>?_,q⟩
 ·have G:lo+((0:Nat):Int)*1=lo:=by simp
  have F:(((hi-lo).toNat:Nat):Int)-((0:Nat):Int)=V4 lo hi 1:=by rw[rangeSize_one];split <;> lia
  show YO _ _ (lo+((0:Nat):Int)*1) ((((hi-lo).toNat:Nat):Int)-((0:Nat):Int)) 1;rw[G,F];exact TV _ rfl
 ·have e:b=(s.heap.push {cls:=.type "range",data:=.fields #[.int lo t,.int hi u,.int 1 v]}).objs.size:=by simpa using N
  subst e;exact B.fpOk (TF _) (B.hok.fresh (TF _))
def OY(ta:TA):TI:=λσ H R=>ta σ H λvs H1=>∃j:Int,vs=[.int j]/\-(2^62)<=j/\j<2^62/\R (P8 0 j.toNat) H1
theorem zY{a:Expr}{ta:TA}{p pos:Pos}(F:Gl X "range")(U:X.mg "range" = none)(G:PA X [a] ta)(hs:S0 [a] X.env=[(false,eval a X.env)]:=by rfl):PI X tg (.Call (.Name "range" p) [a] [] pos) (OY ta):=by
 intro pins s σ H R I h;refine Call_ (kA I F U boot_range (YQ (bS (G pos pins s σ H _ I h) λW Y ⟨vs,H1,J,N,B⟩=>?_) hs rfl));obtain⟨j,e,B,M,q⟩:=B;subst e;cases N with
 | cons r rr=>
  cases rr;obtain⟨t,rfl⟩:=r;exact call_range_1 (CL J (by lia) (by lia) B M (by simpa using q))
def QN(wi:TI)(g:TG)(tb:TS):TS:=λD σ H=>wi σ H λJ H1=>∃W:Nat->Nat->St->Hp->Prop,(∃m,W 0 m σ H1)/\∀i m σ H,W i m σ H->
 (J.stop i H/\D.nx σ H)\/(J.go i H/\∃N:St->Hp->Prop,(∀q H',N q H'->∃F,F<m/\W (i+1) F q H')/\∀x H',J.yld i H x H'->g x σ H' λB H2=>tb {D with nx:=N,ct:=N,bk:=D.nx} B H2)
noncomputable def oA(fp:List Addr)(h:Heap):List (Addr×Obj):=fp.filterMap λb=>(h.get? b).map λo=>(b,o)
theorem fA(q:b∈fp)(e:h.get? b=some o):(b,o)∈oA fp h:=List.mem_filterMap.mpr ⟨b,q,by rw[e];rfl⟩
theorem A4(F:p∈oA fp h):p.1∈fp/\h.get? p.1=some p.2:=by
 obtain⟨b,G,e⟩:=List.mem_filterMap.mp F;cases q:h.get? b with
 | none=>rw[q]at e;cases e
 | some o=>
  rw[q]at e;have B:(b,o)=p:=T5 e;subst B;exact⟨G,q⟩
theorem Inv.pinned(I:Inv X pins σ H s)(F:∀b∈fp,g5 X pins H b)(M:∀b∈fp,∃o,s.heap.get? b=some o/\∀v,o.data≠.cell v):Inv X (pins++oA fp s.heap) σ H s:=
 I.pins_of λp N=>(List.mem_append.mp N).elim (λz=>I.pin p (U9 _ z)) λz=>by
  obtain⟨B,e⟩:=A4 z;obtain⟨f0,G,J,_⟩:=F p.1 B;obtain⟨o,q,d⟩:=M p.1 B;rw[e]at q;cases q;exact⟨e,f0,G,J,d⟩
theorem Inv.unpinned(I:Inv X (pins++pl) σ H s):Inv X pins σ H s:=I.pins_of λp q=>I.pin p (U9 _ (YL _ q))
theorem KG{B:Expr}{body:List Stmt}{wi:TI}{g:TG}{tb:TS}{pos:Pos}(hp:PassesOwn (model X.prog X.w) X.A X.env X.xe)(hc:X.calm=true)(hi:PI X tg B wi)(hg:PG X tg g)(M:PSs X body tb)
  (hs:∀x,V5 B X.env x=pure x:=by intro _;rfl):PS X (.For tg B body [] pos) (QN wi g tb):=by
 intro pins s σ H D I h;refine wpAny_For (bS (hi pins s σ H _ I h) λv s1 h1=>bS h1 λbe s2 h2=>?_) hs;obtain⟨it,fp,tn,J,H2,e,I2,T,ak,f2,W,⟨m0,w0⟩,turn⟩:=h2;subst e
 -- what stays true of the iterator's objects through the loop
 have Y:∀ {H':Hp},(∀b∈fp,H' b=none)->∀b∈fp,g5 X pins H' b:=λhn b M=>⟨hn b M,(f2 b M).2⟩
 refine codeAny_forLoop_any (λn s'=>∃i aa H',Inv X pins aa H' s'/\tn i s'.heap/\(∀b∈fp,H' b=none)/\W i n aa H') ?_ m0 ⟨0,σ,H2,I2,ak,λb M=>(f2 b M).1,w0⟩;rintro n s3 ⟨i,ab,H3,I3,af,ai,w3⟩;rcases turn i n ab H3 w3 with⟨ah,qn⟩|⟨go,N,hN,step⟩
 ·refine XU hp (bS (T.done X rfl rfl rfl hc i pins s3 ab H3 X.xe I3 (Y ai) af ah) λr s4 ⟨hr,I4⟩=>?_)
  subst hr;exact Z2 ⟨ab,H3,I4,qn⟩
 ·refine XU hp (bS (T.item X rfl rfl rfl hc i pins s3 ab H3 X.xe I3 (Y ai) af go) λr s4 ⟨u,hr,h4⟩=>?_)
  subst hr;refine XU hp (bS h4 λ_ s5 ⟨x,H5,I5,r5,y5,ad,ap⟩=>?_);have am:=I5.pinned (Y ap) (T.obj _ _ ad);refine XU hp (bS (hg _ s5 ab H5 x u _ am r5 (step x H5 y5)) λ_ s6 ⟨al,H6,I6,q6⟩=>?_);refine XU hp (bS (M _ s6 al H6 _ I6 q6) λf s7 q7=>?_);have G:∀ {q:St} {F:Hp},Inv X (pins++oA fp s5.heap) q F s7->N q F->∃m,m<n/\∃i aa H',Inv X pins aa H' s7/\tn i s7.heap/\(∀b∈fp,H' b=none)/\W i m aa H':=λ{q F} U n7=>by
   obtain⟨m',hm,w7⟩:=hN q F n7;refine⟨m',hm,i+1,q,F,U.unpinned,T.keep _ _ _ ad λb M o e=>(U.pin (b,o) (U9 _ (U9 _ (fA M e)))).1,λb M=>?_,w7⟩;obtain⟨o,e,d⟩:=T.obj _ _ ad b M;exact(U.pin (b,o) (U9 _ (U9 _ (fA M e)))).2.1
  cases f with
  | next=>obtain⟨q,F,U,n7⟩:=q7;exact G U n7
  | cont=>obtain⟨q,F,U,n7⟩:=q7;exact G U n7
  | brk=>obtain⟨q,F,U,q7⟩:=q7;exact⟨q,F,U.unpinned,q7⟩
  | ret v=>obtain⟨x7,q,F,U,r7,q7⟩:=q7;exact⟨x7,q,F,U.unpinned,r7,q7⟩
end
abbrev R2:=V->V->Hp->VK->Prop
def OpR(X:Cx)(f:Value->Value->Sem Value)(r:R2):Prop:=
 ∀(pins:List (Addr×Obj)) (s:SZ) (σ:St) (H:Hp) (x y:V) (v u:Value) (Q:VK),Inv X pins σ H s->RelV x v->RelV y u->r x y H Q->
  wpAny (model X.prog X.w) X.A (f v u) (EP X pins σ Q) X.xe s
def CallR(X:Cx)(f:Value)(r:List V->Hp->VK->Prop):Prop:=
 ∀(pins:List (Addr×Obj)) (s:SZ) (σ:St) (H:Hp) (xs:List V) (us:List Value) (Q:VK),Inv X pins σ H s->Vals xs us->r xs H Q->
  wpAny (model X.prog X.w) X.A (call f us) (EP X pins σ Q) X.xe s
def NF(r:R2)(ta tb:TE):TE:=λσ H Q=>ta σ H λx H1=>tb σ H1 λy H2=>r x y H2 Q
def rI(C:Int->Int->Prop)(g:Int->Int->V):R2:=λx y H Q=>∃i j,x=.int i/\y=.int j/\C i j/\Q (g i j) H
def IN(g:Int->Int->V):R2:=λx y H Q=>∃i j,x=.int i/\y=.int j/\Q (g i j) H
section
variable {X:Cx}{a b c:Expr}{ta tb tc:TE}{pos:Pos}
theorem M3(G:PE X a ta)(hb:PE X b tb){pins:List (Addr×Obj)}{s:SZ}{σ:St}{H:Hp}{R:V->V->Hp->Prop}(I:Inv X pins σ H s)
  (h:ta σ H λx H1=>tb σ H1 λy H2=>R x y H2) {Q:Value->SZ->Prop} {f:Value->Value->Sem Value}
  (N:∀v u F x y H2,Inv X pins σ H2 F->RelV x v->RelV y u->R x y H2->wpAny (model X.prog X.w) X.A (f v u) Q X.xe F) :
  wpAny (model X.prog X.w) X.A (eval a X.env) (λv q=>wpAny (model X.prog X.w) X.A (eval b X.env) (λu B=>wpAny (model X.prog X.w) X.A (f v u) Q X.xe B) X.xe q) X.xe s:=by
 refine bS (G pins s σ H _ I h) λv s1 ⟨x,H1,M,Y,U⟩=>?_
 refine bS (hb pins s1 σ H1 _ M U) λu F ⟨y,H2,J,r2,W⟩=>?_
 exact N v u F x y H2 J Y r2 W
theorem IV{op:Operator}{r:R2}(N:OpR X (UI op) r)(F:PE X a ta)(U:PE X b tb):PE X (.BinOp a op b pos) (NF r ta tb):=by
 intro pins s σ H Q I h;exact wpAny_BinOp (M3 F U I h λv u M x y H2 G J B q=>N pins M σ H2 x y v u Q G J B q)
theorem P6{f:Value->Value->Sem Value}{C:Int->Int->Prop}{g:Int->Int->Int}
  (B:∀(i j:Int) (t u:Tok) (s:SZ) (Q:Value->SZ->Prop) (E:Value->SZ->Prop),C i j->Q (.int (g i j) s.toks) {s with toks:=s.toks+1}->wpAny (model X.prog X.w) X.A (f (.int i t) (.int j u)) Q E s) :
  OpR X f (rI C λi j=>.int (g i j)):=by
 intro pins s σ H x y v u Q I G F h;obtain⟨i,j,rfl,rfl,J,q⟩:=h;obtain⟨t,rfl⟩:=G;obtain⟨t',rfl⟩:=F;exact B i j t t' s _ _ J ⟨.int (g i j),H,I.tok _,⟨_,rfl⟩,q⟩
theorem PH{f:Value->Value->Sem Value}{g:Int->Int->Int}
  (B:∀(i j:Int) (t u:Tok) (s:SZ) (Q:Value->SZ->Prop) (E:Value->SZ->Prop),Q (.int (g i j) s.toks) {s with toks:=s.toks+1}->wpAny (model X.prog X.w) X.A (f (.int i t) (.int j u)) Q E s) :
  OpR X f (IN λi j=>.int (g i j)):=by
 intro pins s σ H x y v u Q I G F h;obtain⟨i,j,rfl,rfl,q⟩:=h;obtain⟨t,rfl⟩:=G;obtain⟨t',rfl⟩:=F;exact B i j t t' s _ _ ⟨.int (g i j),H,I.tok _,⟨_,rfl⟩,q⟩
theorem MP{f:Value->Value->Sem Value}{g:Int->Int->Bool}
  (B:∀(i j:Int) (t u:Tok) (s:SZ) (Q:Value->SZ->Prop) (E:Value->SZ->Prop),Q (.bool (g i j)) s->wpAny (model X.prog X.w) X.A (f (.int i t) (.int j u)) Q E s) :
  OpR X f (IN λi j=>.bl (g i j)):=by
 intro pins s σ H x y v u Q I G F h;obtain⟨i,j,rfl,rfl,q⟩:=h;obtain⟨t,rfl⟩:=G;obtain⟨t',rfl⟩:=F;exact B i j t t' s _ _ ⟨.bl (g i j),H,I,rfl,q⟩
def IC(i j:Int):Prop:=0<j/\j<1073741824
def IJ(i j:Int):Prop:=0<=j/\j<=1000000/\i.natAbs<2^64
theorem JU:OpR X (UI .Add) (IN λi j=>.int (i+j)):=PH λ_ _ _ _ _ _ _ q=>add_int q
theorem MK:OpR X (UI .Sub) (IN λi j=>.int (i-j)):=PH λ_ _ _ _ _ _ _ q=>sub_int q
theorem GL:OpR X (UI .FloorDiv) (rI IC λi j=>.int (i/j)):=P6 λi j _ _ _ _ _ B q=>by
 have h1:(0:Int)<j:=B.1;have h2:j<1073741824:=B.2;exact floordiv_int (by lia) (by rw[Int.fdiv_eq_ediv_of_nonneg i (by lia)];exact q) (.inl (PyProof.noPylong_small (by lia)))
theorem KB:OpR X (UI .Mod) (rI (λ_ j=>0<j) λi j=>.int (i%j)):=P6 λi j _ _ _ _ _ B q=>by
 have h1:(0:Int)<j:=B;exact mod_int' (by lia) (by rw[Int.fmod_eq_emod_of_nonneg i (by lia)];exact q)
theorem JZ:OpR X (UI .Pow) (rI IJ λi j=>.int (i^j.toNat)):=P6 λ_ _ _ _ _ _ _ B q=>pow_int_small B.1 B.2.1 B.2.2 q
end
noncomputable def MZ:V->V->Bool
 | .non,.non=>true | .non,.int _=>true | .int _,.non=>true | .non,.bl _=>true | .bl _,.non=>true | .non,.str _=>true | .str _,.non=>true
 | .int _,.int _=>true | .bl _,.bl _=>true | .str _,.str _=>true | .byt _,.byt _=>true
 | .int _,.str _=>true | .str _,.int _=>true | .bl _,.str _=>true | .str _,.bl _=>true
 | _,_=>false
def SX:R2:=λx y H Q=>MZ x y=true/\Q (.bl (decide (x=y))) H
def SK:R2:=λx y H Q=>MZ x y=true/\Q (.bl (!decide (x=y))) H
theorem xY:decide (V.int i=V.int j)=(i == j):=by
 rw[XW];simp
theorem DR:decide (V.bl i=V.bl j)=(i == j):=by
 rw[XW];simp
theorem yQ:decide (V.str i=V.str j)=(i == j):=by
 rw[XW];simp
theorem yA:decide (V.byt i=V.byt j)=(i.toList == j.toList):=by
 rw[XW];cases i;cases j;simp
section
variable {X:Cx}{a b c:Expr}{ta tb tc:TE}{pos:Pos}
theorem aZ(I:Inv X pins σ H s)(q:Q (.bl k) H)(e:k=k'):EP X pins σ Q (.bool k') s:=by
 subst e;exact⟨.bl k,H,I,rfl,q⟩
theorem OZ:OpR X (TJ .Eq) SX:=by
 intro pins s σ H x y v u Q I F B h;obtain⟨hs,q⟩:=h;cases x with
 | non=>
  cases F;cases y with
  | non=>cases B;exact PySem.EqNone.eq_none_none (aZ I q (by simp))
  | bl j=>cases B;exact PySem.EqNone.eq_none_bool (aZ I q (by simp))
  | int j=>obtain⟨t',rfl⟩:=B;exact PySem.EqNone.eq_none_int (aZ I q (by simp))
  | str j=>obtain⟨t',rfl⟩:=B;exact PySem.EqNone.eq_none_str (aZ I q (by simp))
  | _=>exact absurd (show false=true from hs) TN
 | bl i=>
  cases F;cases y with
  | non=>cases B;exact PySem.EqNone.eq_bool_none (aZ I q (by simp))
  | bl j=>cases B;exact eq_bool (aZ I q DR)
  | str j=>obtain⟨t',rfl⟩:=B;exact PySem.EqMixed.eq_bool_str (aZ I q (by simp))
  | _=>exact absurd (show false=true from hs) TN
 | int i=>
  obtain⟨t,rfl⟩:=F;cases y with
  | non=>cases B;exact PySem.EqNone.eq_int_none (aZ I q (by simp))
  | int j=>obtain⟨t',rfl⟩:=B;exact eq_int (aZ I q xY)
  | str j=>obtain⟨t',rfl⟩:=B;exact PySem.EqMixed.eq_int_str (aZ I q (by simp))
  | _=>exact absurd (show false=true from hs) TN
 | str i=>
  obtain⟨t,rfl⟩:=F;cases y with
  | non=>cases B;exact PySem.EqNone.eq_str_none (aZ I q (by simp))
  | bl j=>cases B;exact PySem.EqMixed.eq_str_bool (aZ I q (by simp))
  | int j=>obtain⟨t',rfl⟩:=B;exact PySem.EqMixed.eq_str_int (aZ I q (by simp))
  | str j=>obtain⟨t',rfl⟩:=B;exact eq_str (aZ I q yQ)
  | _=>exact absurd (show false=true from hs) TN
 | byt i=>
  obtain⟨t,rfl⟩:=F;cases y with
  | byt j=>obtain⟨t',rfl⟩:=B;exact PySem.W.eq_bytes (aZ I q yA)
  | _=>exact absurd (show false=true from hs) TN
 | _=>cases y <;> exact absurd (show false=true from hs) TN
theorem N6:OpR X (TJ .NotEq) SK:=by
 intro pins s σ H x y v u Q I F B h;obtain⟨hs,q⟩:=h;cases x with
 | non=>
  cases F;cases y with
  | non=>cases B;exact PySem.EqNone.ne_none_none (aZ I q (by simp))
  | bl j=>cases B;exact PySem.EqNone.ne_none_bool (aZ I q (by simp))
  | int j=>obtain⟨t',rfl⟩:=B;exact PySem.EqNone.ne_none_int (aZ I q (by simp))
  | str j=>obtain⟨t',rfl⟩:=B;exact PySem.EqNone.ne_none_str (aZ I q (by simp))
  | _=>exact absurd (show false=true from hs) TN
 | bl i=>
  cases F;cases y with
  | non=>cases B;exact PySem.EqNone.ne_bool_none (aZ I q (by simp))
  | bl j=>cases B;exact ne_bool (aZ I q (congrArg not DR))
  | str j=>obtain⟨t',rfl⟩:=B;exact PySem.EqMixed.ne_bool_str (aZ I q (by simp))
  | _=>exact absurd (show false=true from hs) TN
 | int i=>
  obtain⟨t,rfl⟩:=F;cases y with
  | non=>cases B;exact PySem.EqNone.ne_int_none (aZ I q (by simp))
  | int j=>obtain⟨t',rfl⟩:=B;exact ne_int (aZ I q (congrArg not xY))
  | str j=>obtain⟨t',rfl⟩:=B;exact PySem.EqMixed.ne_int_str (aZ I q (by simp))
  | _=>exact absurd (show false=true from hs) TN
 | str i=>
  obtain⟨t,rfl⟩:=F;cases y with
  | non=>cases B;exact PySem.EqNone.ne_str_none (aZ I q (by simp))
  | bl j=>cases B;exact PySem.EqMixed.ne_str_bool (aZ I q (by simp))
  | int j=>obtain⟨t',rfl⟩:=B;exact PySem.EqMixed.ne_str_int (aZ I q (by simp))
  | str j=>obtain⟨t',rfl⟩:=B;exact ne_str (aZ I q (congrArg not yQ))
  | _=>exact absurd (show false=true from hs) TN
 | byt i=>
  obtain⟨t,rfl⟩:=F;cases y with
  | byt j=>obtain⟨t',rfl⟩:=B;exact PySem.W.ne_bytes (aZ I q (congrArg not yA))
  | _=>exact absurd (show false=true from hs) TN
 | _=>cases y <;> exact absurd (show false=true from hs) TN
theorem O0:OpR X (TJ .Lt) (IN λi j=>.bl (decide (i<j))):=MP λ_ _ _ _ _ _ _ q=>lt_int q
theorem OG:OpR X (TJ .LtE) (IN λi j=>.bl (decide (i<=j))):=MP λ_ _ _ _ _ _ _ q=>le_int q
theorem OV:OpR X (TJ .Gt) (IN λi j=>.bl (decide (j<i))):=MP λ_ _ _ _ _ _ _ q=>gt_int q
theorem z5:OpR X (TJ .In) (λx y H Q=>∃i j,x=.str i/\y=.str j/\Q (.bl (!(XX j i 0 j.length 1).isEmpty)) H):=by
 intro pins s σ H x y v u Q I F B h;obtain⟨i,j,rfl,rfl,q⟩:=h;obtain⟨t,rfl⟩:=F;obtain⟨t',rfl⟩:=B;exact in_str (aZ I q rfl)
theorem OpR.or(h:OpR X f r)(h':OpR X f r'):OpR X f (λx y H Q=>r x y H Q\/r' x y H Q):=by
 intro pins s σ H x y v u Q I F B q;rcases q with q|q
 ·exact h pins s σ H x y v u Q I F B q
 ·exact h' pins s σ H x y v u Q I F B q
theorem wF(b:Expr)(h:op≠.In:=by decide)(h2:op≠.NotIn:=by decide):VT op b=false:=by
 have B:(op == CmpOp.In)=false:=by cases op <;> first|rfl|exact absurd rfl h
 have q:(op == CmpOp.NotIn)=false:=by cases op <;> first|rfl|exact absurd rfl h2
 cases b <;> simp[VT,B,q]
theorem FH(U:OpR X (TJ op) r)(F:PE X a ta)(W:PE X b tb)(N:VT op b=false):PE X (.Compare a [op] [b] pos) (NF r ta tb):=by
 intro pins s σ H Q I h;exact wpAny_Compare1 (M3 F W I h λv u M x y H2 G J B q=>U pins M σ H2 x y v u Q G J B q) N
def EM(t:TE):TT:=λσ H Q=>t σ H λx H'=>∃k,x=.bl k/\Q k H'
theorem xV{op:CmpOp}{r:R2}(ho:OpR X (TJ op) r)(q:PE X a ta)(hb:PE X b tb)(hm:VT op b=false):PT X (.Compare a [op] [b] pos) (EM (NF r ta tb)):=by
 intro pins s σ H Q I h;refine wpAny_isTrue_Compare1 (bS (q pins s σ H _ I h) λv W ⟨x,H1,G,U,M⟩=>bS (hb pins W σ H1 _ G M) λu s2 ⟨y,H2,B,r2,N⟩=>
  bS (ho pins s2 σ H2 x y v u _ B U r2 N) λc s3 ⟨z,J,I3,Y,k,e,F⟩=>?_) hm
 subst e;cases Y;exact VB ⟨J,I3,F⟩
def wB(r B:R2)(ta tb tc:TE):TE:=λσ H Q=>ta σ H λx H1=>tb σ H1 λy H2=>r x y H2 λz q=>∃k,z=.bl k /\
 (if k=true then tc σ q λG F=>B y G F Q else Q (.bl false) q)
theorem B8{op q:CmpOp}{r J:R2}(ho:OpR X (TJ op) r)(B:OpR X (TJ q) J)(ha:PE X a ta)(hb:PE X b tb)(Y:PE X c tc)
  (hm:W0 [op,q] [b,c]=false:=by with_unfolding_all rfl):PE X (.Compare a [op,q] [b,c] pos) (wB r J ta tb tc):=by
 intro pins s σ H Q I h;refine Compare_chain (bS (ha pins s σ H _ I h) λv s1 ⟨x,H1,I1,r1,q1⟩=>chain_link (bS (hb pins s1 σ H1 _ I1 q1) λu s2 ⟨y,H2,I2,G,q2⟩=>
  bS (ho pins s2 σ H2 x y v u _ I2 r1 G q2) λd s3 ⟨z,M,F,W,k,e,N⟩=>?_)) hm
 subst e;cases W;refine VB ?_;cases k with
 | false=>exact ite_ff ⟨.bl false,M,F,rfl,N⟩
 | true=>exact ite_tt (chain_last (bS (Y pins s3 σ M _ F N) λw' s4 ⟨z',H4,I4,r4,U⟩=>B pins s4 σ H4 y z' u w' Q I4 G r4 U))
theorem C6{op q:CmpOp}{r J:R2}(ho:OpR X (TJ op) r)(B:OpR X (TJ q) J)(ha:PE X a ta)(hb:PE X b tb)(Y:PE X c tc)
  (hm:W0 [op,q] [b,c]=false:=by with_unfolding_all rfl):PT X (.Compare a [op,q] [b,c] pos) (EM (wB r J ta tb tc)):=by
 intro pins s σ H Q I h;refine isTrue_chain (bS (ha pins s σ H _ I h) λv s1 ⟨x,H1,I1,r1,q1⟩=>test_link (bS (hb pins s1 σ H1 _ I1 q1) λu s2 ⟨y,H2,I2,G,q2⟩=>
  bS (ho pins s2 σ H2 x y v u _ I2 r1 G q2) λd s3 ⟨z,M,F,W,k,e,N⟩=>?_)) hm
 subst e;cases W;refine VB ?_;cases k with
 | false=>
  obtain⟨k',e',q'⟩:=N;cases e';exact ite_ff ⟨M,F,q'⟩
 | true=>
  refine ite_tt (test_last (bS (Y pins s3 σ M _ F N) λw' s4 ⟨z',H4,I4,r4,U⟩=>bS (B pins s4 σ H4 y z' u w' _ I4 G r4 U) λd' s5 ⟨z2,H5,I5,r5,k2,e2,q5⟩=>?_));subst e2;cases r5;exact VB ⟨H5,I5,q5⟩
theorem oH:(S7:Nat)<2^63:=by rw[WF];decide
theorem vQ:OpR X (UI .Add) (λx y H Q=>∃i j,x=.str i/\y=.str j/\i.length+j.length<=S7/\Q (.str (i++j)) H):=by
 intro pins s σ H x y v u Q I F B h;obtain⟨i,j,rfl,rfl,hz,q⟩:=h;obtain⟨t,rfl⟩:=F;obtain⟨t',rfl⟩:=B;exact add_str (λt' tk=>⟨.str (i++j),H,I.tok _,⟨_,rfl⟩,q⟩) hz
theorem vals1(r:Vals [x] us):∃u,us=[u]/\RelV x u:=by
 cases r with
 | cons r1 r2=>cases r2;exact⟨_,rfl,r1⟩
theorem vals2(r:Vals [x,y] us):∃u q,us=[u,q]/\RelV x u/\RelV y q:=by
 cases r with
 | cons r1 r2=>
  cases r2 with
  | cons r3 r4=>cases r4;exact⟨_,_,rfl,r1,r3⟩
theorem AV(F:X.calm=true):CallR X (.builtin "max") (λxs H Q=>∃i j,xs=[.int i,.int j]/\Q (.int (if j>i then j else i)) H):=by
 intro pins s σ H xs G Q I r h;obtain⟨i,j,rfl,q⟩:=h;obtain⟨u,J,rfl,⟨t,rfl⟩,⟨t',rfl⟩⟩:=vals2 r;refine max_two_ints (I.ok.hd F) λh' tk k=>⟨_,H,I.kept k,?_,q⟩
 by_cases B:j>i
 ·rw[if_pos B,if_pos B];exact⟨_,rfl⟩
 ·rw[if_neg B,if_neg B];exact⟨_,rfl⟩
theorem zQ(F:X.calm=true):CallR X (.builtin "min") (λxs H Q=>∃i j,xs=[.int i,.int j]/\Q (.int (if j<i then j else i)) H):=by
 intro pins s σ H xs G Q I r h;obtain⟨i,j,rfl,q⟩:=h;obtain⟨u,J,rfl,⟨t,rfl⟩,⟨t',rfl⟩⟩:=vals2 r;refine min_two_ints (I.ok.hd F) λh' tk k=>⟨_,H,I.kept k,?_,q⟩
 by_cases B:j<i
 ·rw[if_pos B,if_pos B];exact⟨_,rfl⟩
 ·rw[if_neg B,if_neg B];exact⟨_,rfl⟩
theorem AL:CallR X (.type "int") (λxs H Q=>(∃i,xs=[.int i]/\Q (.int i) H)\/∃k,xs=[.bl k]/\Q (.int (if k then 1 else 0)) H):=by
 intro pins s σ H xs F Q I r h;rcases h with⟨i,rfl,q⟩|⟨k,rfl,q⟩
 ·obtain⟨u,rfl,t,rfl⟩:=vals1 r
  exact call_int_int ⟨.int i,H,I,⟨_,rfl⟩,q⟩
 ·obtain⟨u,rfl,B⟩:=vals1 r
  cases B;exact call_int_bool ⟨.int (if k then 1 else 0),H,I.tok _,⟨_,rfl⟩,q⟩
def QV(K:S2)(x:V)(H:Hp)(n:Nat):Prop:=
 match x with
 | .str y=>y.length<=S7/\n=y.length
 | .byt y=>y.size<=S7/\n=y.size
 | .ref p=>(∃xs,SqL K H p xs/\n=xs.length)\/∃xs,SqT K H p xs/\n=xs.length
 | _=>False
theorem nP:CallR X (.builtin "len") (λxs H Q=>∃x n,xs=[x]/\QV X.K x H n/\Q (.int n) H):=by
 intro pins s σ H xs us Q I r h;obtain⟨x,n,rfl,e,q⟩:=h;obtain⟨u,rfl,N⟩:=vals1 r;have hl:=oH;have hs:S7=16777216:=WF;cases x with
 | str y=>
  obtain⟨t,rfl⟩:=N;obtain⟨Y,F⟩:y.length<=S7/\n=y.length:=e;subst F;exact len_str (by lia) ⟨.int _,H,I.tok _,⟨_,rfl⟩,q⟩
 | byt y=>
  obtain⟨t,rfl⟩:=N;obtain⟨Y,F⟩:y.size<=S7/\n=y.size:=e;subst F;exact PySem.W.len_bytes (by lia) ⟨.int _,H,I.tok _,⟨_,rfl⟩,q⟩
 | ref p=>
  cases N;have F:(∃xs,SqL X.K H p xs/\n=xs.length)\/∃xs,SqT X.K H p xs/\n=xs.length:=e;rcases F with⟨xs,U,F⟩|⟨xs,U,F⟩
  ·subst F
   obtain⟨J,G,M,hz⟩:=I.list U;have B:=G.length;exact Calls.call_len_list M.isList (by simp only[TL];lia) ⟨.int xs.length,H,I.tok _,⟨_,by simp only[TL];rw[B]⟩,q⟩
  ·subst F
   obtain⟨J,G,M,hz⟩:=I.tuple U;have B:=G.length;exact len_tuple M (by simp only[TL];lia) ⟨.int xs.length,H,I.tok _,⟨_,by simp only[TL];rw[B]⟩,q⟩
 | _=>exact(show False from e).elim
end
structure ObjM(h:Heap)(x dx C:Addr)(mA:Str->Option Value):Prop where
 obj:h.get? x=some (ZZ C dx)
 ns:h.Ns1 dx mA
 ne:dx≠x
theorem AG{h:Heap}{dx:Addr}{mA:Str->Option Value}(n:h.Ns1 dx mA):∃od,h.get? dx=some od/\∀name,PySem.W.lookIn name od=some (mA name):=by
 obtain⟨o,es,ep,F,J,G,_,M⟩:=n;refine⟨o,F,λname=>?_⟩;have e:=M name;unfold nsFind findBy at e;rw[<- Array.find?_toList]at e;unfold PySem.W.lookIn;rw[J];dsimp only;split
 ·rename_i y q
  rw[q]at e;exact congrArg some e
 ·rename_i q
  rw[q]at e;have a:es.toList.any (·.refKey)=false:=by
   rw[List.any_eq_false];intro y N;obtain⟨z,t,B⟩:=G y (Array.mem_toList_iff.mp N);simp[DictEntry.refKey,B]
  have U:¬ es.toList.any (·.refKey)=true:=by rw[a];exact TN
  rw[if_neg U];exact congrArg some e
theorem ObjM.look(I:ObjM h x dx C mA):∃od,PySem.W.InstAt h x (ZZ C dx) C (some od)/\∀name,PySem.W.lookIn name od=some (mA name):=
 let ⟨od,ho,hl⟩:=AG I.ns
 ⟨od,⟨I.obj,rfl,rfl,ho⟩,hl⟩
section
variable {prog:S6}{w:World}{A:TH}{E:Value->SZ->Prop}{s:SZ}{K:S2}{x dx C f:Addr}{mA:Str->Option Value}{name:Str}{v:Value}
end
theorem RelO.some_of(r:RelO (some v) o):∃u,o=some u/\RelV v u:=by
 cases o with
 | none=>exact(show False from r).elim
 | some u=>exact⟨u,rfl,r⟩
section
variable {P:S6}{w:World}{H H':Hp}{h h':Heap}{a C dx:Addr}{fs fs':List (Str×V)}
theorem G5(B:HOk P w H h)(e:H a=some (.ins C dx fs)):∃mA,ObjM h a dx C mA/\(∀f,RelO (fs.lookup f) (mA f))/\PySem.Within mA (fs.map (·.1))/\fs.length<=1000/\H dx=some (.own a):=by
 obtain⟨d,z,ne,F,mA,n,r,q⟩:=(show ObjOk P w H h a (.ins C dx fs)from B a _ e);exact⟨mA,⟨F,n,ne⟩,r,q,z,d⟩
end
structure Cls(K:S2)(C:Addr):Prop where
 pg:PySem.W.plainGet K C Str.empty=true
 hd:PySem.W.hasDictIn K C=true
 po:PySem.W.plainOver K C=true
 sa:PySem.W.findIn K (.ref C) "__setattr__" = some (some (.builtin "object.__setattr__"))
theorem Cls.get{K:S2}{C:Addr}(c:Cls K C)(f:Str):PySem.W.plainGet K C f=true:=c.pg
section
variable {X:Cx}{pins:List (Addr×Obj)}{σ:St}{H:Hp}{s:SZ}{a C dx:Addr}{fs:List (Str×V)}{f:Str}{v:V}{A:TH}{E:Value->SZ->Prop}
end
section
variable {X:Cx}{o e value:Expr}{f:Str}{pos pos' tpos:Pos}{ta tv:TE}
end
section
variable {X:Cx}{pins:List (Addr×Obj)}{σ:St}{H:Hp}{s:SZ}{A:TH}{E:Value->SZ->Prop}{Q:Value->SZ->Prop}{c:Value}{b:Bool}
inductive TyOf(K:S2)(H:Hp):V->Value->Prop where
 | non:TyOf K H .non (.type "NoneType")
 | bl (x:Bool):TyOf K H (.bl x) (.type "bool")
 | int (i:Int):TyOf K H (.int i) (.type "int")
 | str (x:Str):TyOf K H (.str x) (.type "str")
 | flt (x:UInt64):TyOf K H (.flt x) (.type "float")
 | lst {a:Addr} {xs:List V} (e:H a=some (.lst xs)):TyOf K H (.ref a) (.type "list")
 | frz {a:Addr} {o:Obj} {xs:List V} (e:H a=some (.frz o (.lst xs))):TyOf K H (.ref a) (.type "list")
 | tup {a:Addr} {xs:List V} (e:H a=some (.tup xs)):TyOf K H (.ref a) (.type "tuple")
 | dK {a:Addr} {kvs:List (Key×V)} (e:H a=some (.dK kvs)):TyOf K H (.ref a) (.type "dict")
 | dT {a:Addr} {kvs:List (List Key×V)} (e:H a=some (.dT kvs)):TyOf K H (.ref a) (.type "dict")
 | ins {a C dx:Addr} {fs:List (Str×V)} (e:H a=some (.ins C dx fs)) (cl:Cls K C) (ha:PySem.W.findIn K (.ref C) "__class__" = some (some (.builtin "object.__class__")))
   (hn:PySem.W.specialIn K (.builtin "object.__class__") "__get__" = some (some (.builtin "getset_descriptor.__get__"))) (htk:PySem.W.takesIn K (.builtin "object.__class__")=some true)
   (hm:PySem.W.mroIn K C (.type "object")=some true):TyOf K H (.ref a) (.ref C)
theorem AE(I:Inv X pins σ H s)(B:RelV x u)(ty:TyOf X.K H x t)(e:XY X.K t c=some b)(h:∀tk,Q (.bool b) {s with toks:=tk}) :
  wpAny (model X.prog X.w) A (call (.builtin "isinstance") [u,c]) Q E s:=by
 cases ty with
 | non=>cases(show u=T1 from B);exact VA PySem.W.kitx_none I.kIn VH e (λz=>nomatch z) h
 | bl y=>cases(show u=WD y from B);exact VA PySem.W.kitx_bool I.kIn VH e (λz=>nomatch z) h
 | int i=>obtain⟨t,q⟩:=(show ∃t,u=Value.int i t from B);cases q;exact VA PySem.W.kitx_int I.kIn VH e (λz=>nomatch z) h
 | str y=>obtain⟨t,q⟩:=(show ∃t,u=Value.str y t from B);cases q;exact VA PySem.W.kitx_str I.kIn VH e (λz=>nomatch z) h
 | flt y=>obtain⟨t,q⟩:=(show ∃t,u=Value.float y t from B);cases q;exact VA PySem.W.kitx_float I.kIn VH e (λz=>nomatch z) h
 | @lst a xs ea=>
  cases(show u=S9 a from B);obtain⟨_,_,n,_,h1⟩:=(show ObjOk X.prog X.w H s.heap a (.lst xs)from I.hok a _ ea);exact VA PySem.W.kitx_list I.kIn ⟨_,h1,rfl⟩ e (λz=>nomatch z) h
 | @frz a ob xs ea=>
  cases(show u=S9 a from B);obtain⟨_,_,_,n,_,h1⟩:=(show ObjOk X.prog X.w H s.heap a (.frz ob (.lst xs))from I.hok a _ ea);exact VA PySem.W.kitx_list I.kIn ⟨_,h1,rfl⟩ e (λz=>nomatch z) h
 | @tup a xs ea=>
  cases(show u=S9 a from B);obtain⟨_,_,_,p⟩:=(show ObjOk X.prog X.w H s.heap a (.tup xs)from I.hok a _ ea);obtain⟨o,h1,h2,_⟩:=p;exact VA PySem.W.kitx_tuple I.kIn ⟨o,h1,h2⟩ e (λz=>nomatch z) h
 | @dK a kvs ea=>
  cases(show u=S9 a from B);obtain⟨_,_,vs,_,p⟩:=(show ObjOk X.prog X.w H s.heap a (.dK kvs)from I.hok a _ ea);obtain⟨o,es,ep,h1,h2,_⟩:=p;exact VA YR I.kIn ⟨o,h1,h2.1⟩ e (λz=>nomatch z) h
 | @dT a kvs ea=>
  cases(show u=S9 a from B);obtain⟨_,_,xs,_,o,es,ep,h1,h2,_⟩:=(show ObjOk X.prog X.w H s.heap a (.dT kvs)from I.hok a _ ea);exact VA YR I.kIn ⟨o,h1,h2.1⟩ e (λz=>nomatch z) h
 | @ins a C dx fs ea cl ha hn htk hm=>
  cases(show u=S9 a from B);obtain⟨mA,O,_⟩:=G5 I.hok ea;obtain⟨od,J,_⟩:=O.look;exact VA (PySem.W.kitx_own (cl.get _) cl.hd ha hn htk hm) I.kIn J e (λz=>nomatch z) h
end
structure Room(k:Nat)(A:TH):Prop where
 hd:A.handled=none
 dp:A.depth+3*k+5<recursionLimit
 un:A.units+16*k+200<cLine
theorem Room.mono(r:Room k A)(h:j<=k):Room j A:=⟨r.hd,by have:=r.dp;lia,by have:=r.un;lia⟩
theorem Room.deeper(r:Room (k+1) A)(env:Env):Room k (A.deeper env):=
 ⟨r.hd,by have:=r.dp;show A.depth+1+3*k+5<_;lia,by have:=r.un;show A.units+3+16*k+200<_;lia⟩
theorem Room.depth(r:Room k A):A.depth<recursionLimit:=by have:=r.dp;lia
theorem Room.units(r:Room k A):A.units+64<cLine:=by have:=r.un;lia
theorem Room.units0(r:Room k A):A.units<cLine:=by have:=r.un;lia
def MT:TA:=λ_ H Q=>Q [] H
def y6(ta:TE)(q:TA):TA:=λσ H Q=>ta σ H λx H1=>q σ H1 λxs H2=>Q (x::xs) H2
section
variable {X:Cx}{e:Expr}{es:List Expr}{te:TE}{t:TA}{pos:Pos}
theorem dQ:PA X [] MT:=λ_ _ _ _ H Q I h=>Calls.spliced_nil ⟨[],H,I,.nil,h⟩
theorem bJ(q:PE X e te)(F:PA X es t)(hs:S0 (e::es) X.env=(false,eval e X.env)::S0 es X.env:=by rfl):PA X (e::es) (y6 te t):=by
 intro pos pins s σ H Q I h;rw[hs];show wpAny _ _ (spliced ((false,eval e X.env)::TU pos (S0 es X.env))) _ _ s;refine Z3 (bS (q pins s σ H _ I h) λu U ⟨x,H1,G,N,J⟩=>?_);exact bS (F pos pins U σ H1 _ G J) λY s2 ⟨xs,H2,B,W,M⟩=>⟨x::xs,H2,B,.cons N W,M⟩
def Q5(t:TA):TE:=λσ H Q=>t σ H λxs H1=>xs.length<=S7/\∀p,H1 p=none->Q (.ref p) (upd H1 p (.tup xs))
def RJ(t:TA):TE:=λσ H Q=>t σ H λxs H1=>xs.length<=S7/\∀p,H1 p=none->Q (.ref p) (upd H1 p (.lst xs))
theorem L1{x1}(h:PA X es t):PE X (.Tuple es x1 pos) (Q5 t):=by
 intro pins s σ H Q I M;refine wpAny_Tuple_spliced (bS (h pos pins s σ H _ I M) λJ B ⟨xs,H1,F,r,z,q⟩=>⟨by rw[<- r.length];exact z,?_⟩);have G:H1 B.heap.objs.size=none:=F.hok.fresh (TF _);refine⟨.ref B.heap.objs.size,upd H1 B.heap.objs.size (.tup xs),F.laid (t':=B.toks) (λb u e=>TC _ e) (TF _) ?_,rfl,q _ G⟩;exact⟨z,J,r,⟨_,TV _ rfl,rfl,_,rfl,rfl⟩⟩
theorem LA(h:PA X es t):PE X (.List es pos) (RJ t):=by
 intro pins s σ H Q I M;refine wpAny_List_spliced (bS (h pos pins s σ H _ I M) λJ B ⟨xs,H1,F,r,z,q⟩=>⟨by rw[<- r.length];exact z,?_⟩);have G:H1 B.heap.objs.size=none:=F.hok.fresh (TF _);refine⟨.ref B.heap.objs.size,upd H1 B.heap.objs.size (.lst xs),F.laid (t':=B.toks) (λb u e=>TC _ e) (TF _) ?_,rfl,q _ G⟩;exact⟨z,J,0,r,TV _ rfl⟩
end
abbrev Sp:=List V->Hp->VK->XK->Prop
abbrev BB:=List Env->Hp->SZ->XK->Value->SZ->Prop
structure Env0(P:S6)(w:World)(K:S2)(mg:Str->Option Value)(base:Heap)(A:TH)(outer:List Env)(s:SZ)(H:Hp):Prop where
 frames:A.frames=some outer
 mod:Mod K mg base
 bs:∀b o,base.get? b=some o->s.heap.get? b=some o/\H b=none
 bsz:base.objs.size<=s.heap.objs.size
 funs:s.heap.FunFrames base outer
 frf:∀b∈frs outer,H b=none
 hok:HOk P w H s.heap
 bare:V3 s.gens
def CE(q:List Env)(P:S6)(w:World)(H:Hp)(s:SZ)(Q:VK)(u:Value)(s':SZ):Prop:=
 ∃v H',s'.os=s.os/\V3 s'.gens/\Un (frs q) [] H H' s.heap s'.heap/\HOk P w H' s'.heap/\RelV v u/\Q v H'
def CR(CX:BB)(outer:List Env)(P:S6)(w:World)(H:Hp)(s:SZ)(Q:VK)(E:XK)(r:Result)(s':SZ):Prop:=
 match r with
 | .ok (.ret u)=>CE outer P w H s Q u s'
 | .ok _=>False
 | .error e=>CX outer H s E e s'
structure FnOk(P:S6)(w:World)(K:S2)(mg:Str->Option Value)(base:Heap)(CX:BB)(k:Nat)(f:Addr)(fd:U0)(ps:List Str)(sp:Sp):Prop where
 len:∀vs H Q E,sp vs H Q E->vs.length=ps.length
 run:∀(A:TH) (outer:List Env) (s:SZ) (H:Hp) (args:Args) (us:List Value) (vs:List V) (Q:VK) (E:XK),Room k A->Env0 P w K mg base A outer s H->BindsTo s fd args (ps.zip us)->Vals vs us->sp vs H Q E->
  VD (model P w) A (.call (.ref f) args) (CR CX outer P w H s Q E) s
theorem FnOk.mono{P:S6}{w:World}{K:S2}{mg:Str->Option Value}{base:Heap}{CX:BB}{j k:Nat}{f:Addr}{fd:U0}{ps:List Str}{sp:Sp}(F:FnOk P w K mg base CX j f fd ps sp)(h:j<=k) :
  FnOk P w K mg base CX k f fd ps sp:=⟨F.len,λA q s H args G vs Q E B=>F.run A q s H args G vs Q E (B.mono h)⟩
theorem FnOk.imp{P:S6}{w:World}{K:S2}{mg:Str->Option Value}{base:Heap}{CX:BB}{k:Nat}{f:Addr}{fd:U0}{ps:List Str}{sp sp':Sp}(F:FnOk P w K mg base CX k f fd ps sp)
  (h:∀vs H Q E,sp' vs H Q E->sp vs H Q E):FnOk P w K mg base CX k f fd ps sp':=
 ⟨λvs H Q E q=>F.len vs H Q E (h _ _ _ _ q),λA B s H args M vs Q E J G U N hs=>F.run A B s H args M vs Q E J G U N (h _ _ _ _ hs)⟩
section
variable {X:Cx}{pins:List (Addr×Obj)}{σ:St}{H:Hp}{s s':SZ}
theorem Inv.env0(I:Inv X pins σ H s):Env0 X.prog X.w X.K X.mg X.base X.A X.stack s H:=
 ⟨I.ok.frames,I.ok.mod,I.bs,UD I.ok.bsz I.sz,I.stack,I.stkFree,I.hok,I.bare⟩
theorem Inv.after(I:Inv X pins σ H s)(h:CE X.stack X.prog X.w H s Q u s'):EP X pins σ Q u s':=by
 obtain⟨v,H',os,B,un,G,r,q⟩:=h;obtain⟨J,g,d,t,F⟩:=s';obtain rfl:F=s.os:=os;exact⟨v,H',I.call (h':=J) (g':=g) (d':=d) (t':=t) (ch:=[]) un G B (λb z=>absurd z (by simp)),r,q⟩
end
def OA(sp:Sp)(dvs:List V)(E:XK)(t:TA):TE:=λσ H Q=>t σ H λvs H1=>sp (vs++dvs) H1 Q E
def Binds(K:S2)(fd:U0)(ps:List Str)(ds:List Value):Prop:=
 ∀(s:SZ) (us:List Value),K.In s.heap->(us++ds).length=ps.length->BindsTo s fd ⟨us,[]⟩ (ps.zip (us++ds))
theorem Binds.all{K:S2}{fd:U0}{ps:List Str}(h:∀q:List Value,q.length=ps.length->bindArgs fd ⟨q,[]⟩=pure (ps.zip q)):Binds K fd ps []:=λs q _ B=>by
 rw[V6]at B ⊢;exact .of_eq (h q B)
def wG(CX:BB)(X:Cx)(E:XK):Prop:=∀(pins:List (Addr×Obj)) (σ:St) (H:Hp) (s:SZ) (e:Value) (s':SZ),Inv X pins σ H s->CX X.stack H s E e s'->X.xe e s'
section
variable {X:Cx}{CX:BB}{k:Nat}{f C:Addr}{fd:U0}{ps:List Str}{sp:Sp}{dvs:List V}{ds:List Value}{E:XK}{x m:Str}{p pos apos:Pos}{e o:Expr}{es:List Expr}{ta:TE}{t:TA}
theorem LQ(F:FnOk X.prog X.w X.K X.mg X.base CX k f fd ps sp)(G:Room k X.A)(U:Binds X.K fd ps ds)(J:Vals dvs ds)(M:wG CX X E)
  (I:Inv X pins σ H s) (r:Vals vs us) (h:sp (vs++dvs) H Q E):wpAny (model X.prog X.w) X.A (call (.ref f) us) (EP X pins σ Q) X.xe s:=by
 have B:Vals (vs++dvs) (us++ds):=r.append J;have N:(us++ds).length=ps.length:=by rw[<- B.length];exact F.len _ _ _ _ h
 refine wpAny_call (YS (F.run X.A X.stack s H ⟨us,[]⟩ (us++ds) (vs++dvs) Q E G I.env0 (U s us I.kIn N) B h) λr s' q=>?_);cases r with
 | error e=>exact M pins σ H s e s' I q
 | ok fl=>
  cases fl with
  | ret u=>exact I.after q
  | next=>exact VC q
  | brk=>exact VC q
  | cont=>exact VC q
theorem HS(F:FnOk X.prog X.w X.K X.mg X.base CX k f fd ps sp)(U:Room k X.A)(M:Gl X x)(hm:X.mg x=some (.ref f))(hk:WG X.K (.ref f)=true)(hb:Binds X.K fd ps ds)(hd:Vals dvs ds)(hx:wG CX X E)
  (Y:PA X (e::es) t) (B:(x == ("__debug__" : Str))=false:=by decide) (N:S0 (e::es) X.env=(false,eval e X.env)::S0 es X.env:=by rfl) (G:(TU pos (S0 es X.env)).any (·.1)=false:=by rfl) :
  PE X (.Call (.Name x p) (e::es) [] pos) (OA sp dvs E t):=by
 intro pins s σ H Q I h;refine Z4 (yI I M hm ?_ B);refine PySem.W.callWith_K (h₀:=X.base) I.ok.mod.kin hk (bS (Y pos pins s σ H _ I h) λus s1 ⟨vs,H1,J,r,q⟩=>⟨J.kIn,?_⟩) N G;exact LQ F U hb hd hx J r q
structure Mk(K:S2)(C f:Addr):Prop where
 makes:PySem.W.makesIn K C=true
 init:PySem.W.findIn K (.ref C) "__init__" = some (some (.ref f))
 fn:PySem.W.isFn K (.ref f)=true
 kp:WG K (.ref C)=true
end
section
variable {X:Cx}{CX:BB}{k:Nat}{f C:Addr}{fd:U0}{ps ks:List Str}{sp:Sp}{E:XK}{x m:Str}{p pos apos kpos:Pos}{e o:Expr}{es:List Expr}{kws:List VI}{te ta:TE}{t tk:TA}{nm:Option Str}
variable {g:List Value->List Value->List Value}{gV:List V->List V->List V}
end
structure FnScope(N P:List Str)(sc:Scope):Prop where
 kind:sc.kind=.function
 co:sc.isCoroutine=false
 gen:sc.isGenerator=false
 nd:N.Nodup
 pre:N.take P.length=P
 par:∀x∈P,sc.names.lookup x=some .local\/sc.names.lookup x=some .cell
 nofree:∀y∈sc.names,y.2≠.free
theorem pM{U4:Str->Option VU}:∀ {binds:List (Str×Value)} {m:Str->Option Value},(∀v,(x,v)∉binds)->bindL U4 binds m x=m x
 | [],_,_=>rfl
 | (n,v)::r,m,h=>by
  unfold bindL;rw[pM λw hw=>h w (TR _ hw)];split
  ·have:x≠n:=by rintro rfl;exact h v TK
   simp[this]
  ·rfl
theorem pS{U4:Str->Option VU}:∀ {binds:List (Str×Value)} {m:Str->Option Value},(∀v,(x,v)∉binds)->bindC U4 binds m x=m x
 | [],_,_=>rfl
 | (n,v)::r,m,h=>by
  unfold bindC;rw[pS λw hw=>h w (TR _ hw)];split
  ·rfl
  ·have:x≠n:=by rintro rfl;exact h v TK
   simp[this]
theorem pQ{U4:Str->Option VU}{x:Str}{v:Value}:∀ {P:List Str} {vs:List Value} {i:Nat} {m:Str->Option Value},P.Nodup->P[i]?=some x->vs[i]?=some v->U4 x=some .local->
  bindL U4 (P.zip vs) m x=some v
 | [],_,_,_,_,h,_,_=>by simp at h
 | _::_,[],_,_,_,_,h,_=>by simp at h
 | p::P,w::vs,0,m,nd,h1,h2,hk=>by
  simp at h1 h2;subst h1;subst h2;show bindL U4 ((p,w)::P.zip vs) m p=_;unfold bindL;rw[pM λv q=>(List.nodup_cons.mp nd).1 (Z5 q).1,if_pos hk];simp
 | p::P,w::vs,i+1,m,nd,h1,h2,hk=>by
  show bindL U4 ((p,w)::P.zip vs) m x=_;unfold bindL;exact pQ (i:=i) (List.nodup_cons.mp nd).2 (by simpa using h1) (by simpa using h2) hk
theorem pU{U4:Str->Option VU}{x:Str}{v:Value}:∀ {P:List Str} {vs:List Value} {i:Nat} {m:Str->Option Value},P.Nodup->P[i]?=some x->vs[i]?=some v->U4 x≠some .local->
  bindC U4 (P.zip vs) m x=some v
 | [],_,_,_,_,h,_,_=>by simp at h
 | _::_,[],_,_,_,_,h,_=>by simp at h
 | p::P,w::vs,0,m,nd,h1,h2,hk=>by
  simp at h1 h2;subst h1;subst h2;show bindC U4 ((p,w)::P.zip vs) m p=_;unfold bindC;rw[pS λv q=>(List.nodup_cons.mp nd).1 (Z5 q).1,if_neg hk];simp
 | p::P,w::vs,i+1,m,nd,h1,h2,hk=>by
  show bindC U4 ((p,w)::P.zip vs) m x=_;unfold bindC;exact pU (i:=i) (List.nodup_cons.mp nd).2 (by simpa using h1) (by simpa using h2) hk
def start(N:List Str)(vs:List V):St:=vs.map some++V7 (N.length-vs.length) none
def kC(CX:BB)(P:S6)(w:World)(K:S2)(mg:Str->Option Value)(base:Heap)(N:List Str)(q:Str)(scope:Scope)(f:Addr)(F:Value)(A:TH)(outer:List Env)(s:SZ)(H:Hp)(E:XK):Cx where
 prog:=P
 w:=w
 K:=K
 mg:=mg
 base:=base
 A:=A.deeper (UT q scope s.heap.objs.size f F)
 N:=N
 s₀:=s
 H₀:=H
 env:=UT q scope s.heap.objs.size f F
 outer:=outer
 stack:=UT q scope s.heap.objs.size f F::outer
 ex:=[]
 calm:=true
 fn:=λ_=>true
 pn:=[]
 xe:=λe s'=>wpAny (model P w) (A.deeper (UT q scope s.heap.objs.size f F)) (leaving (UT q scope s.heap.objs.size f F) e) (λ_ B=>CX outer H s E e B) (λG B=>CX outer H s E G B) s'
theorem nQ{sc:Scope}{n:Nat}{x:Str}(h:sc.names.lookup x=some .cell):∃c,(W1 n sc.names []).lookup x=some c:=by
 have q:=PySem.W.cellsFrom_some sc.names n [] (.inl h);exact Option.isSome_iff_exists.mp q
theorem AI{CX:BB}{P:S6}{w:World}{K:S2}{mg:Str->Option Value}{base:Heap}{N ps:List Str}{F:Str}{scope:Scope}{f:Addr}{Y:Value}{A:TH}{B:List Env}{s s1:SZ}{H:Hp}{E:XK}{us:List Value}{vs:List V}
  (S:FnScope N ps scope) (hd:A.handled=none) (G:Env0 P w K mg base A B s H) (hl:vs.length=ps.length) (r:Vals vs us)
  (x:InCallC s s.heap.objs.size (bindL (UT F scope s.heap.objs.size f Y).kindOf (ps.zip us) λ_=>none) (W1 (s.heap.objs.size+1) scope.names []) (bindC (UT F scope s.heap.objs.size f Y).kindOf (ps.zip us) λ_=>none) s1) :
  Inv (kC CX P w K mg base N F scope f Y A B s H E) [] (start N vs) H s1:=by
 have af:ps.length<=N.length:=by have:=congrArg V8 S.pre;rw[W2]at this;lia
 obtain⟨h1,tk,rfl,hk⟩:=x.done;have J:∀b:Addr,b∉(kC CX P w K mg base N F scope f Y A B s H E).ex:=λb z=>absurd (show b∈([]:List Addr)from z) (by simp)
 refine⟨⟨G.mod,S.kind,rfl,rfl,TF _,λy z c h1 h2=>?_,λy M=>?_,λy c _ h=>?_,λ_=>hd,Around.frames_deeper G.frames,.inr ⟨rfl,rfl⟩,λb z=>absurd z (J b),G.bs,G.bsz,λb _ _=>J b,λb z=>absurd z (J b),G.funs,G.frf⟩,
  rfl,G.bare,Un.kept hk,⟨_,x.toInCall.ns,λi y v h1 h2 h3=>?_⟩,λy c h=>⟨_,x.cell y c h⟩,G.hok.fresh (TF _),λy c h=>?_,λp W=>absurd (show p∈([]:List (Addr×Obj))from W) (by simp),G.hok.kept hk,?_⟩
 ·exact name_of_addr x.apart (XZ h1) (XZ h2)
 ·have M:scope.names.lookup y=some .cell\/scope.names.lookup y=some .free:=M
  rcases M with M|M
  ·exact nQ M
  ·exact absurd rfl (S.nofree _ (XZ M))
 ·exact YK (x.above y c (XZ h))
 ·have hi:i<vs.length:=by
   unfold start at h2;by_cases hi:i<vs.length
   ·exact hi
   ·rw[YT (by simpa using hi)]at h2
    rw[Z6]at h2;split at h2 <;> cases h2
  have ha:vs[i]?=some v:=by
   unfold start at h2;rw[YU (by simpa using hi),TX]at h2;cases e:vs[i]? with
   | none=>rw[e]at h2;cases h2
   | some a=>rw[e]at h2;cases h2;rfl
  obtain⟨u,hu,rv⟩:=r.get ha;have W:ps[i]?=some y:=by
   rw[<- S.pre,List.getElem?_take_of_lt (by lia)];exact h1
  have U:ps.Nodup:=by rw[<- S.pre];exact S.nd.sublist (List.take_sublist _ _)
  refine⟨u,rv,?_⟩;rcases S.par y (UU W)with k|k
  ·exact .inl ⟨k,pQ U W hu k⟩
  ·obtain⟨c,e⟩:=nQ (n:=s.heap.objs.size+1) k
   refine .inr ⟨.inl k,c,e,?_⟩;have q:=x.cell y c e;rw[pU U W hu (by show scope.names.lookup y≠_;rw[k];decide)]at q;exact q
 ·exact G.hok.fresh (YK (x.above y c (XZ h)))
 ·unfold start
  show _=N.length;rw[T8,S5,List.length_replicate]
  lia
theorem OI{CX:BB}{P:S6}{w:World}{K:S2}{mg:Str->Option Value}{base:Heap}{k:Nat}{f:Addr}{name F:Str}{M:Arguments}{body:List Stmt}{scope:Scope}{dV kV ad pm G ct oc:Value}{an od:Option Addr}
  {ah:Array (Option Value)} {N ps:List Str} {sp:Sp} (lk:K.lookup f=some ⟨oc,od,.func (VE name F M body scope dV kV ad pm an G ct),ah⟩) (ag:W3 K G F=true) (S:FnScope N ps scope)
  (ac:∀vs H Q E,sp vs H Q E->vs.length=ps.length)
  (Y:∀(A:TH) (B:List Env) (s:SZ) (H:Hp) (vs:List V) (Q:VK) (E:XK), Room k (A.deeper (UT F scope s.heap.objs.size f G)) -> sp vs H Q E ->
   ∃t,PSs (kC CX P w K mg base N F scope f G A B s H E) body t/\t {nx:=λ_ H'=>Q .non H',rt:=Q} (start N vs) H) :
  FnOk P w K mg base CX (k+1) f (VE name F M body scope dV kV ad pm an G ct) ps sp:=by
 refine⟨ac,λA B s H args us vs Q E hr e0 hb r ab=>?_⟩;have hl:=ac _ _ _ _ ab;have KX:K.In s.heap:=e0.mod.kin.keeps λb o e=>(e0.bs b o e).1
 have aj:s.heap.NoLimit:=e0.mod.nolimit.keeps λb o e=>(e0.bs b o e).1
 have aa:∀y∈ps.zip us,scope.names.lookup y.1=some .local\/(scope.names.lookup y.1=some .cell/\((W1 (s.heap.objs.size+1) scope.names []).lookup y.1).isSome=true):=by
  rintro⟨n,v⟩ hy;rcases S.par n (Z5 hy).1 with q|q
  ·exact .inl q
  ·exact .inr ⟨q,PySem.W.cellsFrom_some _ _ _ (.inl q)⟩
 refine codeAny_call_function hr.depth (KX _ _ lk) rfl S.co S.gen rfl (PySem.W.codeRec_of KX ag) (hb _ _ _ _ ?_);refine wpAny_newFunctionEnv_cells S.kind aa λenv he s1 x=>?_
 subst he;refine⟨aj.keeps x.toInCall.keep,codeAny_func ?_⟩;obtain⟨t,ht,hq⟩:=Y A B s H vs Q E (hr.deeper _) ab;have I:Inv (kC CX P w K mg base N F scope f G A B s H E) [] (start N vs) H s1:=AI S hr.hd e0 hl r x;refine US (ht [] s1 (start N vs) H _ I hq) (λfl s' hs=>?_) λe s' hs=>hs
 have fin:∀ {U:St} {H':Hp} {v:V} {u:Value},Inv (kC CX P w K mg base N F scope f G A B s H E) [] U H' s'->RelV v u->Q v H'->CE B P w H s Q u s':=
  λ{U H' v u} J rv q=>⟨v,H',J.os,J.bare,J.base,J.hok,rv,q⟩
 cases fl with
 | ret u=>
  obtain⟨v,U,H',J,rv,q⟩:=hs;exact fin J rv q
 | next=>
  obtain⟨U,H',J,q⟩:=hs;exact fin (v:=V.non) (u:=T1) J rfl q
 | brk=>
  obtain⟨_,_,_,q⟩:=hs;exact VC q
 | cont=>
  obtain⟨_,_,_,q⟩:=hs;exact VC q
section
variable {X:Cx}{x:Str}{p pos:Pos}{e:Expr}{es:List Expr}{t:TA}{id T:String}{r:List V->Hp->VK->Prop}
def P5(r:List V->Hp->VK->Prop)(t:TA):TE:=λσ H Q=>t σ H λvs H1=>r vs H1 Q
theorem jC(hc:CallR X (.builtin id) r)(F:Gl X x)(hm:X.mg x=none)(W:TZ x=some (.builtin id))(J:PA X (e::es) t)(hn:x ≠ "__name__" := by decide)(q:(x == ("__debug__" : Str))=false:=by decide)
  (G:S0 (e::es) X.env=(false,eval e X.env)::S0 es X.env:=by rfl) (B:(TU pos (S0 es X.env)).any (·.1)=false:=by rfl):PE X (.Call (.Name x p) (e::es) [] pos) (P5 r t):=by
 intro pins s σ H Q I h;refine Z4 (kA I F hm W ?_ hn q);exact PyProof.Rows.callWith_builtin1 (bS (J pos pins s σ H _ I h) λU s1 ⟨vs,H1,M,Y,N⟩=>hc pins s1 σ H1 vs U Q M Y N) G B
theorem oZ(hc:CallR X (.type T) r)(F:Gl X x)(hm:X.mg x=none)(W:TZ x=some (.type T))(J:PA X (e::es) t)(hn:x ≠ "__name__" := by decide)(q:(x == ("__debug__" : Str))=false:=by decide)
  (G:S0 (e::es) X.env=(false,eval e X.env)::S0 es X.env:=by rfl) (B:(TU pos (S0 es X.env)).any (·.1)=false:=by rfl):PE X (.Call (.Name x p) (e::es) [] pos) (P5 r t):=by
 intro pins s σ H Q I h;refine Z4 (kA I F hm W ?_ hn q);exact YQ (bS (J pos pins s σ H _ I h) λU s1 ⟨vs,H1,M,Y,N⟩=>hc pins s1 σ H1 vs U Q M Y N) G B
end
end L2
namespace HT
open PySem PyProof.Rows
noncomputable def lexLt:List Int->List Int->Bool
 | [],[]=>false
 | [],_::_=>true
 | _::_,[]=>false
 | x::xs,y::ys=>if x=y then lexLt xs ys else decide (x<y)
theorem cU(x y:Int)(xs ys:List Int):lexLt (x::xs) (y::ys)=if x=y then lexLt xs ys else decide (x<y):=rfl
theorem oR:lexLt [] []=false:=rfl
theorem l7(y:Int)(ys:List Int):lexLt [] (y::ys)=true:=rfl
theorem l8(x:Int)(xs:List Int):lexLt (x::xs) []=false:=rfl
theorem DB(A:TH)(s:SZ)(a:Int)(t:Tok)(c:Int)(u:Tok):∃e,WR A s (.int a t) (.int c u) e/\(e=true↔a=c):=
 ⟨(a == c),SeqAt.EqAt.int_int a t c u,by simp⟩
theorem CJ(A:TH)(s:SZ)(a:Int)(t:Tok)(c:Int)(u:Tok)(prog:S6)(w:World)(E:Value->SZ->Prop)(Q:Value->SZ->Prop)(h:Q (.bool (decide (a<c))) s) :
  wpAny (model prog w) A (richCompare .Lt (.int a t) (.int c u)) Q E s:=
 (PyProof.Rows.lt_int h:wpAny (model prog w) A (TJ .Lt (.int a t) (.int c u)) Q E s)
section
open PySem.SeqAt
open PySem.AutoSeq1 (wpAny_loadPart')
open PySem.MeetsSeq PySem.MeetsSeq2 PySem.MeetsSeq3
theorem oV(l b:Addr)(items B:Array Value)(n n2:Nat)(dd ad:Option Addr)(sl ab:Array (Option Value))(ns ms:List Int)(hi:UJ items.toList ns)(hj:UJ B.toList ms) :
  Meets (VV.«tuple.__lt__» ⟨[.ref l,.ref b],[]⟩)
   (λ_ R s => s.heap.get? l = some {cls := .type "tuple", dict:=dd, data := .seq items n, slots:=sl} /\ s.heap.get? b = some {cls := .type "tuple", dict:=ad, data := .seq B n2, slots:=ab} /\
    R (.ok (.ret (.bool (lexLt ns ms)))) s):=
 .of_wp λprog w A R s h=>by
  obtain⟨hp,g,d,tk,os⟩:=s;obtain⟨hl,hb,h⟩:=h;have f2:=AutoSeq1.sub_tuple_tuple;have z1:items.size=ns.length:=by rw[<- hi.length];simp
  have z2:B.size=ms.length:=by rw[<- hj.length];simp
  wp_walk using V9 hl,V9 hb,wpAny_forIn_list _ (λrest b s'=>b.1=none/\s'=⟨hp,g,d,tk,os⟩/\∃(vs ws:List Value) (G J:List Int),rest=vs.zip ws /\
   UJ vs G/\UJ ws J/\G.length+B.size=J.length+items.size/\R (.ok (.ret (.bool (lexLt G J)))) ⟨hp,g,d,tk,os⟩) _
  case turn=>
   rintro⟨y,x⟩ rest b s' ⟨W,rfl,vs,ws,G,J,hz,Y,M,F,U⟩;cases Y with
   | nil=>rw[Z7]at hz;cases hz
   | cons a t hvi'=>
    cases M with
    | nil=>rw[List.zip_nil_right]at hz;cases hz
    | cons c u hwi'=>
     rw[Z8]at hz;injection hz with hyx hrest
     injection hyx with hy hx
     subst hy hx;rw[cU]at U;simp only[UO]at F;obtain⟨e,he,N⟩:=DB A.in1 ⟨hp,g,d,tk,os⟩ a t c u;refine SY (he prog w _ _ ?_);cases e with
     | true=>
      rw[if_pos (N.mp rfl)]at U
      wp_walk
      exact⟨rfl,rfl,_,_,_,_,hrest,hvi',hwi',by lia,U⟩
     | false=>
      rw[if_neg (λq=>absurd (N.mpr q) TN)]at U;have ac:=CJ A.in1 ⟨hp,g,d,tk,os⟩ a t c u prog w
      wp_walk using ac
      exact⟨_,rfl,by simpa using U⟩
  case fin=>
   rintro⟨b1,b2⟩ s' ⟨W,rfl,vs,ws,G,J,hz,Y,M,F,U⟩;simp only at W;subst W;have hv:lexLt G J=decide (items.size<B.size):=by
    cases Y with
    | nil=>
     cases M with
     | nil=>
      simp only[WH]at F;rw[oR];exact(decide_eq_false (by lia)).symm
     | cons c u hw=>
      simp only[WH,UO]at F;rw[l7];exact(decide_eq_true (by lia)).symm
    | cons a t hv=>
     cases M with
     | nil=>
      simp only[WH,UO]at F;rw[l8];exact(decide_eq_false (by lia)).symm
     | cons c u hw=>
      rw[Z8]at hz;cases hz
   rw[hv]at U
   wp_walk
   exact⟨_,rfl,by simpa[Builtin.Tuple.tupleCompareSizes]using U⟩
  case h=>
   exact⟨rfl,rfl,items.toList,B.toList,ns,ms,rfl,hi,hj,by lia,h⟩
end
section
variable {prog:S6}{w:World}{A:TH}{E:Value->SZ->Prop}{s:SZ}
theorem mV(hl:IsTup s.heap l items)(hb:IsTup s.heap b items2)(hi:UJ items.toList ns)(hj:UJ items2.toList ms)
  (hu:A.units<cLine) (h:Q (.bool (lexLt ns ms)) s):wpAny (model prog w) A (TJ .Lt (.ref l) (.ref b)) Q E s:=by
 obtain⟨⟨cls,dd,data,sl⟩,U,Y,n,hd⟩:=id hl;obtain⟨⟨W,M,N,J⟩,G,q,n2,B⟩:=id hb;simp only at Y hd q B;subst Y hd q B;exact richCompare_meets_room (op:=.Lt) ⟨_,U,rfl⟩ ⟨_,G,rfl⟩ PySem.F.slot_tuple_lt PySem.F.entry_tuple_lt (PySem.F.args_tuple_lt_2 _ _) (oV l b items items2 n n2 dd M sl J ns ms hi hj)
  ⟨U,G,show WD (lexLt ns ms)≠Value.notImplemented/\Q (.bool (lexLt ns ms)) s from⟨(λx=>nomatch x),h⟩⟩ hu
theorem GO(ht:IsTup s.heap t vs.toArray)(hb:IsTup s.heap b ws.toArray)(Y:vs≠[])
  (h1:ws=[]->Q (.ref t) s) (h2:ws≠[]->Q (.ref s.heap.objs.size) {s with heap:=s.heap.push {cls:=.type "tuple",data:=.seq (vs++ws).toArray} })
  (hsz:vs.length+ws.length<=S7):wpAny (model prog w) A (UI .Add (.ref t) (.ref b)) Q E s:=by
 obtain⟨⟨cls,dd,data,U⟩,M,hc,n,hd⟩:=id ht;obtain⟨⟨ab,J,N,F⟩,q,B,W,G⟩:=id hb;simp only at hc hd B G;subst hc hd B G;have e:vs.toArray++ws.toArray=(vs++ws).toArray:=by simp
 by_cases hw:ws=[]
 ·exact concat_meets ⟨_,M,rfl⟩ ⟨_,q,rfl⟩ Z9 seq_tuple_add zaa zab (zac _ _)
   (tuple_addW1 t b vs.toArray ws.toArray n W dd J U F (by simpa using Y) (by simp[hw])) ⟨M,q,h1 hw⟩
 ·refine concat_meets ⟨_,M,rfl⟩ ⟨_,q,rfl⟩ Z9 seq_tuple_add zaa zab (zac _ _)
   (tuple_addW2 t b vs.toArray ws.toArray n W dd J U F (by simpa using Y) (by simpa using hw) (by rw[TL,TL];exact hsz)) ⟨M,q,?_⟩
  rw[e];exact h2 hw
noncomputable def sIx(n d:Nat):Option Int->Nat
 | none=>d
 | some v=>if v<0 then(v+(n:Int)).toNat else min v.toNat n
theorem L8(n d:Nat)(B:d<=n)(o:Option Int):sIx n d o<=n:=by
 cases o with
 | none=>exact B
 | some v=>
  show(if v<0 then(v+(n:Int)).toNat else min v.toNat n)<=n;by_cases q:v<0
  ·rw[if_pos q];lia
  ·rw[if_neg q];exact Nat.min_le_right _ _
theorem xZ(v:Int)(n d:Nat):(if v<0 then max (v+(n:Int)) 0 else min v (n:Int))=((sIx n d (some v):Nat):Int):=by
 show(if v<0 then max (v+(n:Int)) 0 else min v (n:Int))=(((if v<0 then(v+(n:Int)).toNat else min v.toNat n):Nat):Int);by_cases q:v<0
 ·simp only[if_pos q];lia
 ·simp only[if_neg q];lia
theorem vW(lo hi:Option Int)(n:Nat):zad lo hi 1 (n:Int)=(((sIx n 0 lo:Nat):Int),((sIx n n hi:Nat):Int)):=by
 have h1:¬ ((1:Int)<0):=by lia
 unfold zad;simp only[h1,if_false];refine Prod.ext ?_ ?_
 ·cases lo with
  | none=>rfl
  | some v=>exact xZ v n 0
 ·cases hi with
  | none=>rfl
  | some v=>exact xZ v n n
theorem v5(i j:Nat):YV (i:Int) (j:Int) 1=j-i:=by
 unfold YV;have h1:(1:Int)>0:=by lia
 simp only[h1,if_true,Int.ediv_one];split <;> lia
theorem mN(p:VW v o)(h:Q o s):wpAny (model prog w) A (Builtin.Slice.slicePartIndex v) Q E s:=by
 cases p with
 | none=>exact slicePart_none h
 | int i t=>exact slicePart_int h
theorem eP{J:Addr}{F G:Value}{lo hi:Option Int}{n:Nat}{Q:Int×Int×Nat->SZ->Prop}(hs:s.heap.IsSliceOf J F G .none)(N:VW F lo)(U:VW G hi)
  (h:Q (((sIx n 0 lo:Nat):Int),1,sIx n n hi-sIx n 0 lo) s):wpAny (model prog w) A (Builtin.Slice.sliceApplied (.ref J) (pure (n:Int))) Q E s:=by
 obtain⟨os,q,M,B⟩:=id hs;unfold Builtin.Slice.sliceApplied Builtin.Slice.sliceFields;refine SY (SY (UP q B (x:=F) rfl (SY (UP q B (x:=G) rfl (SY (UP q B (x:=.none) rfl (S1 ?_)))))));refine SY (slicePart_none ?_);show wpAny _ _ (if((1:Int) == 0)=true then _ else _) _ _ s;rw[if_neg (by decide)];refine SY (mN N (SY (mN U (SY (S1 ?_)))));show wpAny _ _ (match zad lo hi 1 (n:Int)with|(lo,hi)=>pure (lo,(1:Int),YV lo hi 1)) _ _ s;rw[vW lo hi n];show wpAny _ _ (pure (((sIx n 0 lo:Nat):Int),(1:Int),YV ((sIx n 0 lo:Nat):Int) ((sIx n n hi:Nat):Int) 1)) _ _ s;rw[v5];exact S1 h
theorem BP(xs:Array Value)(i k:Nat):((UZ k).filterMap λ(m:Nat)=>xs[((i:Int)+(m:Int)*1).toNat]?).toArray=((xs.toList.drop i).take k).toArray:=by
 have e:(λ(m:Nat)=>xs[((i:Int)+(m:Int)*1).toNat]?)=λm=>xs[i+m]?:=by
  funext m;have:((i:Int)+(m:Int)*1).toNat=i+m:=by lia
  rw[this]
 rw[e];have:=pick_run xs i k;rw[List.filterMap_map]at this;have q:((λx=>xs[x]?) ∘ λx=>i+x)=λm=>xs[i+m]?:=rfl
 rw[q]at this;rw[this]
theorem i4{t G:Addr}{items:Array Value}{W Y:Value}{lo hi:Option Int}{Q:Value->SZ->Prop}(F:IsTup s.heap t items)(hs:s.heap.IsSliceOf G W Y .none)(pl:VW W lo)(pu:VW Y hi)
  (hw:¬ (sIx items.size 0 lo=0/\sIx items.size items.size hi=items.size))
  (h:Q (.ref s.heap.objs.size) {s with heap:=s.heap.push {cls:=.type "tuple",data:=.seq ((items.toList.drop (sIx items.size 0 lo)).take (sIx items.size items.size hi-sIx items.size 0 lo)).toArray} })
  (hsz:items.size<=S7):wpAny (model prog w) A (VX (.ref t) (.ref G)) Q E s:=by
 have B:sizeOk (.seq ((items.toList.drop (sIx items.size 0 lo)).take (sIx items.size items.size hi-sIx items.size 0 lo)).toArray):=by
  show((items.toList.drop (sIx items.size 0 lo)).take (sIx items.size items.size hi-sIx items.size 0 lo)).toArray.size<=S7;rw[TL,W2,List.length_drop,UL]
  lia
 have hj:sIx items.size items.size hi<=items.size:=L8 _ _ (TF _) hi;obtain⟨os,N,J,ab⟩:=id hs;have M:s.TypeIs (.ref G) "slice" := ⟨os,N,J⟩;unfold VX
 try with_reducible refine U8 ?_
 first|refine SY (S1 ?_)|skip
 refine SY (wpAny_sequenceKey F.typeIs (by decide) ?_);refine SY (VY (name:=U5 "__getitem__") F.typeIs YW
  (U1 YW F.typeIs entry_tuple_getitem ?_ (args_tuple_getitem _ _)))
 show wpAny _ _ (Builtin.Tuple.tupleItemsOf (.ref t) >>= _) _ _ s;refine SY (tupleItemsOf_ F ?_);refine SY (YX M ?_);rw[if_pos (by decide)];refine SY (eP hs pl pu ?_);have U:¬ ((((sIx items.size 0 lo:Nat):Int) == 0 && (1:Int) == 1 && (sIx items.size items.size hi-sIx items.size 0 lo) == items.size)=true):=by
  intro q;rw[UF,UF]at q;have q1:((sIx items.size 0 lo:Nat):Int)=0:=eq_of_beq q.1.1;have q2:sIx items.size items.size hi-sIx items.size 0 lo=items.size:=eq_of_beq q.2;exact hw ⟨by lia,by lia⟩
 show wpAny _ _ (if(((sIx items.size 0 lo:Nat):Int) == 0 && (1:Int) == 1 && (sIx items.size items.size hi-sIx items.size 0 lo) == items.size)=true then _ else _) _ _ s;rw[if_neg U,BP]
 first
  | exact SY (m:=YY _) (U2 (S1 ⟨_,rfl,S1 h⟩) B)
  | exact SY (m:=YY _) (U2 (SY (S1 (S1 ⟨_,rfl,S1 h⟩))) B)
  | exact SY (SY (m:=YY _) (U2 (S1 (S1 ⟨_,rfl,S1 h⟩)) B))
  | exact SY (SY (m:=YY _) (U2 (S1 ⟨_,rfl,S1 h⟩) B))
end
end HT
namespace L2
open PySem PySem.Spec PyProof.Rows
abbrev TO:=St->Hp->(Option Int->Hp->Prop)->Prop
def PO(X:Cx)(e:Option Expr)(t:TO):Prop:=
 ∀(pins:List (Addr×Obj)) (s:SZ) (σ:St) (H:Hp) (Q:Option Int->Hp->Prop),Inv X pins σ H s->t σ H Q->
  wpAny (model X.prog X.w) X.A (evalPart e X.env) (λu s'=>∃o H',Inv X pins σ H' s'/\VW u o/\Q o H') X.xe s
def FM:TO:=λ_ H Q=>Q none H
def OS(t:TE):TO:=λσ H Q=>t σ H λx H1=>∃i,x=.int i/\Q (some i) H1
theorem intsAre_of:∀ {q:List Value},Vals (ns.map V.int) q->UJ q ns:=by
 induction ns with
 | nil=>intro q r;rw[W4]at r;cases r;exact .nil
 | cons n ns ih=>
  intro q r;rw[TB]at r;cases r with
  | cons r1 r2=>
   obtain⟨t,e⟩:=r1;subst e;exact .cons n t (ih r2)
section
variable {X:Cx}{e:Expr}{te:TE}{lo hi:Option Expr}{tl th:TO}{pos p2:Pos}
theorem FN:PO X none FM:=by
 intro pins s σ H Q I h;rw[evalPart_none];exact S1 ⟨none,H,I,.none,h⟩
theorem FZ(h:PE X e te):PO X (some e) (OS te):=by
 intro pins s σ H Q I hw;rw[evalPart_some];refine bS (h pins s σ H _ I hw) λu J ⟨x,H1,F,G,B⟩=>?_
 obtain⟨i,rfl,q⟩:=B;obtain⟨t,rfl⟩:=G;exact⟨some i,H1,F,.int i t,q⟩
def SlR(X:Cx)(r:V->Option Int->Option Int->Hp->VK->Prop):Prop:=
 ∀(pins:List (Addr×Obj)) (s:SZ) (σ:St) (H:Hp) (x:V) (v vl vu:Value) (lo hi:Option Int) (sl:Addr) (Q:VK),Inv X pins σ H s->RelV x v->s.heap.IsSliceOf sl vl vu .none->VW vl lo->VW vu hi->r x lo hi H Q->
  ∃T id,typeLookup (.type T) "__getitem__" = pure (some (.builtin id))/\s.TypeIs v T/\wpAny (model X.prog X.w) X.A (VX v (.ref sl)) (EP X pins σ Q) X.xe s
theorem SlR.or(h:SlR X r)(h':SlR X r'):SlR X (λx lo hi H Q=>r x lo hi H Q\/r' x lo hi H Q):=by
 intro pins s σ H x v M N lo hi B Q I G hs F J q;rcases q with q|q
 ·exact h pins s σ H x v M N lo hi B Q I G hs F J q
 ·exact h' pins s σ H x v M N lo hi B Q I G hs F J q
def SJ(r:V->Option Int->Option Int->Hp->VK->Prop)(te:TE)(tl th:TO):TE:=λσ H Q=>te σ H λx H1=>tl σ H1 λl H2=>th σ H2 λu q=>r x l u q Q
theorem C1(hr:SlR X r)(he:PE X e te)(M:PO X lo tl)(hu:PO X hi th):PE X (.Subscript e (.Slice lo hi none p2) pos) (SJ r te tl th):=by
 intro pins s σ H Q I h;refine Subscript_ (bS (he pins s σ H _ I h) λv s1 ⟨x,H1,I1,r1,q1⟩=>?_);refine wpAny_Slice (bS (M pins s1 σ H1 _ I1 q1) λF s2 ⟨l,H2,I2,N,q2⟩=>bS (hu pins s2 σ H2 _ I2 q2) λG B ⟨u,J,U,pu,q3⟩=>?_);rw[evalPart_none];refine S1 ?_;have Y:Inv X pins σ J {B with heap:=B.heap.push {cls:=.type "slice",data:=.fields #[F,G,.none]} }:=U.kept (t':=B.toks) λb ob q=>TC _ q
 obtain⟨T,id,hT,ht,W⟩:=hr pins {B with heap:=B.heap.push {cls:=.type "slice",data:=.fields #[F,G,.none]} } σ J x v F G l u B.heap.objs.size Q Y r1 (Heap.IsSliceOf.new ..) N pu q3;show wpAny (model X.prog X.w) X.A (subscriptTail e (.Slice lo hi none p2) v (.ref B.heap.objs.size)) (EP X pins σ Q) X.xe {B with heap:=B.heap.push {cls:=.type "slice",data:=.fields #[F,G,.none]} };exact tail_any (ops:=[.ref B.heap.objs.size,v]) ht hT W (by with_unfolding_all rfl)
def oX(xs:List V)(lo hi:Option Int):List V:=(xs.drop (HT.sIx xs.length 0 lo)).take (HT.sIx xs.length xs.length hi-HT.sIx xs.length 0 lo)
theorem kO(xs:List V)(lo hi:Option Int):(oX xs lo hi).length<=xs.length:=by
 unfold oX;rw[W2,List.length_drop]
 lia
def O6(K:S2):V->Option Int->Option Int->Hp->VK->Prop:=λx lo hi H Q=>∃a xs,x=.ref a/\SqT K H a xs /\
 ¬ (HT.sIx xs.length 0 lo=0/\HT.sIx xs.length xs.length hi=xs.length)/\∀p,H p=none->Q (.ref p) (upd H p (.tup (oX xs lo hi)))
theorem J5:SlR X (O6 X.K):=by
 intro pins s σ H x v Y vu lo hi W Q I M hs J N h;obtain⟨a,xs,rfl,U,hw,q⟩:=h;cases M;obtain⟨F,r,G,hz⟩:=I.tuple U;have B:F.toArray.size=xs.length:=by rw[TL];exact r.length.symm
 refine⟨"tuple",_,PyProof.Rows.slot_tuple_getitem.lookup,G.typeIs,?_⟩;refine HT.i4 G hs J N (by rw[B];exact hw) ?_ (by rw[B];exact hz);rw[B];refine⟨.ref s.heap.objs.size,_,I.laid (t':=s.toks) (o:=.tup (oX xs lo hi)) (λb ob q=>TC _ q) (TF _) ?_,rfl,q _ (I.hok.fresh (TF _))⟩;exact⟨UD (kO xs lo hi) hz,_,(r.drop (HT.sIx xs.length 0 lo)).take (HT.sIx xs.length xs.length hi-HT.sIx xs.length 0 lo),IsTupN.new _ _⟩
def QR(K:S2):R2:=λx y H Q=>∃a b ns ms,x=.ref a/\y=.ref b/\SqT K H a (ns.map V.int)/\SqT K H b (ms.map V.int)/\Q (.bl (HT.lexLt ns ms)) H
theorem L4(U:X.A.units<cLine):OpR X (TJ .Lt) (QR X.K):=by
 intro pins s σ H x y v u Q I Y G h;obtain⟨a,b,ns,ms,rfl,rfl,J,hb,q⟩:=h;cases Y;cases G;obtain⟨F,N,W,_⟩:=I.tuple J;obtain⟨B,r2,p2,_⟩:=I.tuple hb;have M:UJ F.toArray.toList ns:=intsAre_of N;have i2:UJ B.toArray.toList ms:=intsAre_of r2;exact HT.mV W p2 M i2 U ⟨.bl (HT.lexLt ns ms),H,I,rfl,q⟩
def N9(K:S2):R2:=λx y H Q=>∃a b xs ys,x=.ref a/\y=.ref b/\SqT K H a xs/\SqT K H b ys/\xs≠[]/\xs.length+ys.length<=S7 /\
 (ys=[]->Q (.ref a) H)/\(ys≠[]->∀p,H p=none->Q (.ref p) (upd H p (.tup (xs++ys))))
theorem Vals.nil_iff(r:Vals xs us):us=[]↔xs=[]:=by
 cases r with
 | nil=>simp
 | cons _ _=>simp
theorem FI:OpR X (UI .Add) (N9 X.K):=by
 intro pins s σ H x y v u Q I rx J h;obtain⟨a,b,xs,ys,rfl,rfl,M,hb,hx,hz,U,W⟩:=h;cases rx;cases J;obtain⟨N,F,Y,_⟩:=I.tuple M;obtain⟨G,B,p2,_⟩:=I.tuple hb;refine HT.GO Y p2 (λz=>hx (F.nil_iff.mp z)) (λz=>⟨.ref a,H,I,rfl,U (B.nil_iff.mp z)⟩) (λz=>?_) (by rw[<- F.length,<- B.length];exact hz);refine⟨.ref s.heap.objs.size,_,I.laid (t':=s.toks) (o:=.tup (xs++ys)) (λb ob q=>TC _ q) (TF _) ?_,rfl,W (λw=>z (B.nil_iff.mpr w)) _ (I.hok.fresh (TF _))⟩;exact⟨by rw[T8];exact hz,_,F.append B,IsTupN.new _ _⟩
end
noncomputable def JP(n:Nat)(i:Int):Option Nat:=if 0<=i then(if i<n then some i.toNat else none)else if -(n:Int)<=i then some (i+n).toNat else none
def kH{α:Type}(xs:List α)(i:Int):Option α:=(JP xs.length i).bind λj=>xs[j]?
theorem yH(h:JP n i=some j):seqIndex? i n=some j/\j<n/\-(n:Int)<=i/\i<n:=by
 unfold JP at h;by_cases h0:0<=i
 ·rw[if_pos h0]at h
  by_cases h1:i<n
  ·rw[if_pos h1]at h
   have e:i.toNat=j:=T5 h;exact⟨by rw[seqIndex_of h0 h1,e],by lia,by lia,h1⟩
  ·rw[if_neg h1]at h;cases h
 ·rw[if_neg h0]at h
  by_cases h1:-(n:Int)<=i
  ·rw[if_pos h1]at h
   have e:(i+n).toNat=j:=T5 h;exact⟨by rw[seqIndex_neg (by lia) h1,e],by lia,h1,by lia⟩
  ·rw[if_neg h1]at h;cases h
theorem rN{q:Type}{xs:List q}{i:Int}{v:q}(h:kH xs i=some v):∃j,seqIndex? i xs.length=some j/\xs[j]?=some v/\j<xs.length/\-(xs.length:Int)<=i/\i<xs.length:=by
 unfold kH at h;cases e:JP xs.length i with
 | none=>rw[e]at h;cases h
 | some j=>
  rw[e]at h;obtain⟨h1,h2,B,F⟩:=yH e;exact⟨j,h1,h,h2,B,F⟩
theorem fE{q:Type}{xs:List q}{j:Nat}{v:q}(h:xs[j]?=some v):kH xs (j:Int)=some v:=by
 have B:j<xs.length:=(List.getElem?_eq_some_iff.mp h).1;have e:JP xs.length (j:Int)=some j:=by
  unfold JP;rw[if_pos (by lia),if_pos (by lia)];simp
 unfold kH;rw[e];exact h
def qZ(b:Expr):Prop:=∀o i,YZ b false o i=operate [o,i] (VX o i)
def IxR(X:Cx)(r:R2):Prop:=
 ∀(value slice:Expr) (pins:List (Addr×Obj)) (s:SZ) (σ:St) (H:Hp) (x y:V) (v u:Value) (Q:VK),Inv X pins σ H s->RelV x v->RelV y u->r x y H Q->
  YZ slice false v u=operate [v,u] (VX v u)->wpAny (model X.prog X.w) X.A (subscriptTail value slice v u) (EP X pins σ Q) X.xe s
def MtR(X:Cx)(id:String)(r:V->List V->Hp->VK->Prop):Prop:=
 ∀(pins:List (Addr×Obj)) (s:SZ) (σ:St) (H:Hp) (x:V) (xs:List V) (v:Value) (us:List Value) (Q:VK),Inv X pins σ H s->RelV x v->Vals xs us->r x xs H Q->
  wpAny (model X.prog X.w) X.A (call (.builtin id) (v::us)) (EP X pins σ Q) X.xe s
section
variable {X:Cx}{a b:Expr}{ta tb:TE}{pos:Pos}
theorem IxR.or(h:IxR X r)(h':IxR X r'):IxR X (λx y H Q=>r x y H Q\/r' x y H Q):=by
 intro value B pins s σ H x y v u Q I G F q hs;rcases q with q|q
 ·exact h value B pins s σ H x y v u Q I G F q hs
 ·exact h' value B pins s σ H x y v u Q I G F q hs
theorem MtR.or{id:String}{r B:V->List V->Hp->VK->Prop}(h:MtR X id r)(h':MtR X id B):MtR X id (λx xs H Q=>r x xs H Q\/B x xs H Q):=by
 intro pins s σ H x xs v F Q I G rs q;rcases q with q|q
 ·exact h pins s σ H x xs v F Q I G rs q
 ·exact h' pins s σ H x xs v F Q I G rs q
theorem NN(J:IxR X r)(F:PE X a ta)(U:PE X b tb)(hs:qZ b):PE X (.Subscript a b pos) (NF r ta tb):=by
 intro pins s σ H Q I h;exact Subscript_ (M3 F U I h λv u N x y H2 G M B q=>J a b pins N σ H2 x y v u Q G M B q (hs _ _))
def PK(K:S2):R2:=λx y H Q=>∃p xs i v,x=.ref p/\y=.int i/\SqL K H p xs/\kH xs i=some v/\Q v H
def O4(K:S2):R2:=λx y H Q=>∃p xs i v,x=.ref p/\y=.int i/\SqT K H p xs/\kH xs i=some v/\Q v H
def PQ:R2:=λx y H Q=>∃z i c,x=.str z/\y=.int i/\z.length<=S7/\kH z.cps.toList i=some c/\Q (.str ⟨#[c]⟩) H
theorem IB:IxR X (PK X.K):=by
 intro value G pins s σ H x y v u Q I rx U h hs;obtain⟨p,xs,i,z,rfl,rfl,hq,W,q⟩:=h;cases rx;obtain⟨t,rfl⟩:=U;obtain⟨B,r,F,hz⟩:=I.list hq;obtain⟨j,h1,h2,h3,Y,h5⟩:=rN W;obtain⟨w,N,J⟩:=r.get h2;have hl:=r.length;have hn:=oH;have fin:EP X pins σ Q w s:=⟨z,H,I,J,q⟩;by_cases h0:0<=i
 ·have M:i.toNat=j:=by
   rw[seqIndex_of h0 h5]at h1;exact T5 h1
  exact item_listR F.isList h0 (by lia) (by rw[M];simpa using N) fin hs
 ·have M:(i+(B.toArray.size:Int)).toNat=j:=by
   rw[seqIndex_neg (by lia) Y]at h1;rw[TL,<- hl];exact T5 h1
  exact subscriptTail_builtinR (x:=w) F.isList.typeIs slot_list_getitem.lookup
   (wpAny_getItem_list_neg (Q:=λr s'=>r=w/\EP X pins σ Q r s') F.isList (by lia) (by rw[TL] <;> lia) (by lia) (by rw[M];simpa using N) ⟨rfl,fin⟩) hs
theorem LJ:IxR X (O4 X.K):=by
 intro value B pins s σ H x y v u Q I Y J h hs;obtain⟨p,xs,i,z,rfl,rfl,W,M,q⟩:=h;cases Y;obtain⟨t,rfl⟩:=J;obtain⟨N,r,G,hz⟩:=I.tuple W;obtain⟨j,h1,h2,h3,h4,h5⟩:=rN M;obtain⟨w,U,F⟩:=r.get h2;have hl:=r.length;have hn:=oH;have fin:EP X pins σ Q w s:=⟨z,H,I,F,q⟩;exact subscriptTail_builtinR (x:=w) G.typeIs slot_tuple_getitem.lookup
  (getItem_tuple (j:=j) (Q:=λr s'=>r=w/\EP X pins σ Q r s') G (by lia) (by lia) (by rw[TL,<- hl];exact h1) (by simpa using U) ⟨rfl,fin⟩) hs
theorem J7:IxR X PQ:=by
 intro value B pins s σ H x y v u Q I W F h hs;obtain⟨z,i,c,rfl,rfl,hz,G,q⟩:=h;obtain⟨t,rfl⟩:=W;obtain⟨t',rfl⟩:=F;obtain⟨j,h1,h2,h3,N,U⟩:=rN G;have Y:z.cps.toList.length=z.length:=by simp[Str.length]
 rw[Y]at h1 N U;have hn:=oH;exact tail_any (X0 s z t) slot_str_getitem.lookup (getItem_str (c:=c) (by
  have M:decide (i < -(2^63:Int))=false:=decide_eq_false (by lia);have J:decide (i ≥ 2^63)=false:=decide_eq_false (by lia);rw[M,J,Bool.or_false]) (by rw[h1];simpa using h2) ⟨.str ⟨#[c]⟩,H,I.tok _,⟨_,rfl⟩,q⟩) hs
def SU(K:S2):R2:=λx y H Q=>PK K x y H Q\/O4 K x y H Q\/PQ x y H Q
theorem LW:IxR X (SU X.K):=IB.or (LJ.or J7)
theorem v9(q:List Value)(n j:Nat)(u:Value):UX (·.setIfInBounds j u) {cls:=.type "list",data:=.seq q.toArray n}={cls:=.type "list",data:=.seq (q.set j u).toArray n}:=by
 simp[UX]
theorem Inv.lst{pins:List (Addr×Obj)}{σ:St}{H:Hp}{s:SZ}{p:Addr}{xs:List V}(I:Inv X pins σ H s)(h:H p=some (.lst xs)) :
  ∃(q:List Value) (n:Nat),Vals xs q/\s.heap.get? p=some {cls:=.type "list",data:=.seq q.toArray n}/\xs.length<=S7:=by
 obtain⟨z,q,n,r,e⟩:=I.hok p _ h;exact⟨q,n,r,e,z⟩
theorem Inv.lstUpd{pins:List (Addr×Obj)}{xs ys:List V}{B its':List Value}{n F:Nat}{f:Obj->Obj}(I:Inv X pins σ H s)(h:H p=some (.lst xs))
  (J:s.heap.get? p=some {cls:=.type "list",data:=.seq B.toArray n}) (G:f {cls:=.type "list",data:=.seq B.toArray n}={cls:=.type "list",data:=.seq its'.toArray F}) (r:Vals ys its') (hz:ys.length<=S7) (t:Nat) :
  Inv X pins σ (upd H p (.lst ys)) {s with heap:=s.heap.update p f,toks:=t}:=by
 have e:(s.heap.update p f).get? p=some {cls:=.type "list",data:=.seq its'.toArray F}:=by
  rw[WI f J (by rw[G] <;> rfl),G]
 refine I.write (x:=p) (e:=p) (by rw[h];trivial) (.inl rfl) (λb u M q=>(VZ _ _ (T3 M)).trans q) ⟨_,e⟩ ?_;exact⟨hz,its',F,r,e⟩
def OL:V->V->V->Hp->(Hp->Prop)->Prop:=λo i v H Q=>∃p xs k j,o=.ref p/\i=.int k/\H p=some (.lst xs)/\JP xs.length k=some j/\Q (upd H p (.lst (xs.set j v)))
theorem set_list:II X OL:=by
 intro pins s σ H o i v ov iv u Q I ro ri rv h;obtain⟨p,xs,k,j,rfl,rfl,Y,hj,q⟩:=h;cases ro;obtain⟨t,rfl⟩:=ri;obtain⟨B,n,r,F,hz⟩:=I.lst Y;obtain⟨h1,h2,N,M⟩:=yH hj;have J:=r.length;have hn:=oH;have U:Inv X pins σ (upd H p (.lst (xs.set j v))) {s with heap:=s.heap.update p (UX (·.setIfInBounds j u))}:=
  I.lstUpd Y F (v9 B n j u) (r.set rv j) (by rw[W5];exact hz) s.toks
 by_cases h0:0<=k
 ·have G:k.toNat=j:=by
   rw[seqIndex_of h0 M]at h1;exact T5 h1
  exact PySem.W.ki_setAt F h0 (by lia) (by rw[TL,<- J];exact M) (by rw[G];exact⟨_,U,q⟩)
 ·have G:(k+(B.toArray.size:Int)).toNat=j:=by
   rw[seqIndex_neg (by lia) N]at h1;rw[TL,<- J];exact T5 h1
  exact PySem.W.ki_setBack F (by lia) (by rw[TL,<- J];exact N) (by lia) (by rw[G];exact⟨_,U,q⟩)
theorem qT(lo hi:Option Int)(n:Nat):(V0 lo hi none n).1=((HT.sIx n 0 lo:Nat):Int)/\(V0 lo hi none n).2.1=((HT.sIx n n hi:Nat):Int)/\(V0 lo hi none n).2.2=1:=by
 refine⟨?_,?_,rfl⟩
 ·cases lo with
  | none=>simp[V0,HT.sIx]
  | some i=>
   simp only[V0,HT.sIx,Option.getD_none,show(1:Int)>0 by decide,if_true];by_cases h:i<0
   ·simp only[h,if_true] <;> lia
   ·simp only[h,if_false] <;> lia
 ·cases hi with
  | none=>simp[V0,HT.sIx]
  | some i=>
   simp only[V0,HT.sIx,Option.getD_none,show(1:Int)>0 by decide,if_true];by_cases h:i<0
   ·simp only[h,if_true] <;> lia
   ·simp only[h,if_false] <;> lia
theorem oU(q:List Value)(lo hi:Option Int):slicePick q.toArray lo hi none=((q.drop (HT.sIx q.length 0 lo)).take (HT.sIx q.length q.length hi-HT.sIx q.length 0 lo)).toArray:=by
 obtain⟨h1,h2,B⟩:=qT lo hi q.toArray.size;unfold slicePick;rw[h1,h2,B];simp only[sliceRange_one,pick_run,TL] <;> rfl
def RT(K:S2):V->Option Int->Option Int->Hp->VK->Prop:=λx lo hi H Q=>∃a xs,x=.ref a/\SqL K H a xs/\∀p,H p=none->Q (.ref p) (upd H p (.lst (oX xs lo hi)))
theorem GU:SlR X (RT X.K):=by
 intro pins s σ H x v Y vu lo hi W Q I M hs J N h;obtain⟨a,xs,rfl,U,q⟩:=h;cases M;obtain⟨G,r,F,hz⟩:=I.list U;have B:=r.length;refine⟨"list",_,slot_list_getitem.lookup,F.isList.typeIs,?_⟩;refine wpAny_getItem_list_slice F.isList hs J N .none (by simp) ?_ (by rw[TL] <;> lia);rw[oU,<- B];refine⟨.ref s.heap.objs.size,_,I.laid (t':=s.toks) (o:=.lst (oX xs lo hi)) (λb ob q=>TC _ q) (TF _) ?_,rfl,q _ (I.hok.fresh (TF _))⟩;exact⟨UD (kO xs lo hi) hz,_,0,(r.drop (HT.sIx xs.length 0 lo)).take (HT.sIx xs.length xs.length hi-HT.sIx xs.length 0 lo),TV _ rfl⟩
noncomputable def jQ:V->Bool
 | .non=>true
 | .bl _=>true
 | .int _=>true
 | .str _=>true
 | _=>false
noncomputable def JO:V->V->Bool
 | .non,.non=>true
 | .bl a,.bl b=>a == b
 | .bl a,.int b=>(if a then 1 else 0) == b
 | .int a,.bl b=>a == (if b then 1 else 0)
 | .int a,.int b=>a == b
 | .str a,.str b=>a == b
 | _,_=>false
theorem MO(B:RelV y u)(q:RelV x v)(F:jQ y=true)(fx:jQ x=true):WR A s u v (JO y x):=by
 cases y with
 | non=>
  cases B;cases x with
  | non=>cases q;exact SeqAt.EqAt.same _
  | bl b=>cases q;exact SeqAt.EqAt.none_bool b
  | int b=>obtain⟨t,rfl⟩:=q;exact SeqAt.EqAt.none_int b t
  | str b=>obtain⟨t,rfl⟩:=q;exact SeqAt.EqAt.none_str b t
  | _=>exact absurd (show false=true from fx) TN
 | bl a=>
  cases B;cases x with
  | non=>cases q;exact SeqAt.EqAt.bool_none a
  | bl b=>cases q;exact SeqAt.EqAt.bool_bool a b
  | int b=>obtain⟨t,rfl⟩:=q;exact SeqAt.EqAt.bool_int a b t
  | str b=>obtain⟨t,rfl⟩:=q;exact SeqAt.EqAt.bool_str a b t
  | _=>exact absurd (show false=true from fx) TN
 | int a=>
  obtain⟨t',rfl⟩:=B;cases x with
  | non=>cases q;exact SeqAt.EqAt.int_none a t'
  | bl b=>cases q;exact SeqAt.EqAt.int_bool a t' b
  | int b=>obtain⟨t,rfl⟩:=q;exact SeqAt.EqAt.int_int a t' b t
  | str b=>obtain⟨t,rfl⟩:=q;exact SeqAt.EqAt.int_str a t' b t
  | _=>exact absurd (show false=true from fx) TN
 | str a=>
  obtain⟨t',rfl⟩:=B;cases x with
  | non=>cases q;exact SeqAt.EqAt.str_none a t'
  | bl b=>cases q;exact SeqAt.EqAt.str_bool a t' b
  | int b=>obtain⟨t,rfl⟩:=q;exact SeqAt.EqAt.str_int a t' b t
  | str b=>obtain⟨t,rfl⟩:=q;exact SeqAt.EqAt.str_str a t' b t
  | _=>exact absurd (show false=true from fx) TN
 | _=>exact absurd (show false=true from F) TN
def IT(x:V)(u:Value):Bool:=match u with
 | .none=>JO .non x
 | .bool b=>JO (.bl b) x
 | .int i _=>JO (.int i) x
 | .str z _=>JO (.str z) x
 | _=>false
theorem DW(r:RelV y u)(f:jQ y=true):IT x u=JO y x:=by
 cases y with
 | non=>cases r;rfl
 | bl b=>cases r;rfl
 | int i=>obtain⟨t,rfl⟩:=r;rfl
 | str z=>obtain⟨t,rfl⟩:=r;rfl
 | _=>exact absurd (show false=true from f) TN
theorem rM:∀ {xs:List V} {us:List Value},Vals xs us->xs.all jQ=true->us.any (IT x)=xs.any λy=>JO y x
 | _,_,.nil,_=>rfl
 | y::xs,u::us,.cons r t,f=>by
  rw[WS,UF]at f;rw[VF,VF,DW r f.1,rM t f.2]
theorem nU(B:RelV x v)(fx:jQ x=true):∀ {xs:List V} {us:List Value},Vals xs us->xs.all jQ=true->∀u∈us,WR A s u v (IT x u)
 | _,_,.nil,_=>λu q=>by cases q
 | y::xs,u::us,.cons r t,f=>λF q=>by
  rw[WS,UF]at f;rcases List.mem_cons.mp q with rfl|q
  ·rw[DW r f.1];exact MO r B f.1 fx
  ·exact nU B fx t f.2 F q
def inV(x:V)(xs:List V):Bool:=xs.any λy=>JO y x
def R4(K:S2)(neg:Bool):R2:=λx y H Q=>∃p xs,y=.ref p/\(SqL K H p xs\/SqT K H p xs)/\jQ x=true/\xs.all jQ=true/\Q (.bl (if neg then !inV x xs else inV x xs)) H
theorem zZ:OpR X (TJ .In) (R4 X.K false):=by
 intro pins s σ H x y v u Q I J M h;obtain⟨p,xs,rfl,F,fx,fs,q⟩:=h;cases M;rcases F with F|F
 ·obtain⟨B,r,G,hz⟩:=I.list F
  refine SeqAt.in_listAt (IT x) G.isList (λw hw=>nU J fx r fs w (by simpa using hw)) ⟨.bl _,H,I,rfl,?_⟩;rw[show B.toArray.any (IT x)=B.any (IT x) by simp,rM r fs];exact q
 ·obtain⟨B,r,G,hz⟩:=I.tuple F
  refine SeqAt.in_tupleAt (IT x) G (λw hw=>nU J fx r fs w (by simpa using hw)) ⟨.bl _,H,I,rfl,?_⟩;rw[show B.toArray.any (IT x)=B.any (IT x) by simp,rM r fs];exact q
theorem qQ:OpR X (TJ .NotIn) (λx y H Q=>∃i j,x=.str i/\y=.str j/\Q (.bl (!(!(XX j i 0 j.length 1).isEmpty))) H):=by
 intro pins s σ H x y v u Q I F B h;obtain⟨i,j,rfl,rfl,q⟩:=h;obtain⟨t,rfl⟩:=F;obtain⟨t',rfl⟩:=B;exact notIn_str ⟨.bl _,H,I,rfl,q⟩
theorem CallR.or(h:CallR X f r)(h':CallR X f r'):CallR X f (λxs H Q=>r xs H Q\/r' xs H Q):=by
 intro pins s σ H xs B Q I rs q;rcases q with q|q
 ·exact h pins s σ H xs B Q I rs q
 ·exact h' pins s σ H xs B Q I rs q
theorem qY:CallR X (.type "list") (λxs H Q=>∃p ys,xs=[.ref p]/\(SqL X.K H p ys\/SqT X.K H p ys)/\∀l,H l=none->Q (.ref l) (upd H l (.lst ys))):=by
 intro pins s σ H xs us Q I r h;obtain⟨p,ys,rfl,N,q⟩:=h;obtain⟨u,rfl,rx⟩:=vals1 r;cases rx;have fin:∀(B:List Value),Vals ys B->ys.length<=S7->∀(h':Heap) (G:Nat),(∀b o',s.heap.get? b=some o'->h'.get? b=some o')->
   h'.get? s.heap.objs.size=some {cls:=.type "list",dict:=none,data:=.seq B.toArray G,slots:=#[]}->EP X pins σ Q (.ref s.heap.objs.size) {s with heap:=h'}:=λB F hz h' G J e=>
  ⟨.ref s.heap.objs.size,_,I.laid (t':=s.toks) J (TF _) (show ObjOk X.prog X.w _ h' _ (.lst ys)from⟨hz,B,G,F,e⟩),rfl,q _ (I.hok.fresh (TF _))⟩
 rcases N with N|N
 ·obtain⟨B,F,U,hz⟩:=I.list N
  have M:=F.length;obtain⟨o,ho,W,n,Y⟩:=U.isList;exact call_list_seq p (.inl rfl) ho W Y (λh' G J e=>fin B F hz h' G J e) (by simp only[TL] <;> lia)
 ·obtain⟨B,F,U,hz⟩:=I.tuple N
  have M:=F.length;obtain⟨o,ho,W,n,Y⟩:=U;exact call_list_seq p (.inr rfl) ho W Y (λh' G J e=>fin B F hz h' G J e) (by simp only[TL] <;> lia)
theorem oT:CallR X (.type "tuple") (λxs H Q=>∃p ys,xs=[.ref p]/\((SqL X.K H p ys/\∀l,H l=none->Q (.ref l) (upd H l (.tup ys)))\/(SqT X.K H p ys/\Q (.ref p) H))):=by
 intro pins s σ H xs us Q I r h;obtain⟨p,ys,rfl,h⟩:=h;obtain⟨u,rfl,Y⟩:=vals1 r;cases Y;rcases h with⟨G,q⟩|⟨G,q⟩
 ·obtain⟨B,F,J,hz⟩:=I.list G
  have N:=F.length;refine call_tuple_list J.isList (λh' W=>?_) (by simp only[TL] <;> lia);have M:Inv X pins σ H {s with heap:=h'}:=I.kept (t':=s.toks) W;have U:Inv X pins σ (upd H h'.objs.size (.tup ys)) {s with heap:=h'.push {cls:=.type "tuple",data:=.seq B.toArray} }:=
   M.laid (t':=s.toks) (λb o e=>TC _ e) (TF _) (show ObjOk X.prog X.w _ _ _ (.tup ys)from⟨hz,B,F,IsTupN.new _ _⟩)
  exact⟨.ref h'.objs.size,_,U,rfl,q _ (M.hok.fresh (TF _))⟩
 ·obtain⟨B,F,J,hz⟩:=I.tuple G
  exact call_tuple_same J ⟨.ref p,H,I,rfl,q⟩
def R6(K:S2)(T:String)(x:V)(H:Hp):Prop:=match x with
 | .str _=>T = "str"
 | .int _=>T = "int"
 | .ref p=>(T = "list" /\ ∃xs,SqL K H p xs)\/(T = "tuple" /\ ∃o,K.lookup p=some o/\o.cls=.type "tuple" /\ o.dict=none) \/
   (T = "dict" /\ ((∃kvs,H p=some (.dK kvs))\/∃kvs,H p=some (.dT kvs)))\/(T = "set" /\ ∃S n,H p=some (.set S n))
 | _=>False
theorem LF(I:Inv X pins σ H s)(r:RelV x v)(ty:R6 X.K T x H) :
  s.TypeIs v T/\∀a,v=.ref a->∃J,s.heap.get? a=some J/\J.dict=none:=by
 cases x with
 | str z=>
  obtain⟨t,rfl⟩:=r;cases(show T = "str" from ty);exact⟨X0 s z t,λ_ e=>nomatch e⟩
 | int i=>
  obtain⟨t,rfl⟩:=r;cases(show T = "int" from ty);exact⟨typeIs_int s i t,λ_ e=>nomatch e⟩
 | ref p=>
  cases r;rcases ty with⟨rfl,xs,N⟩|⟨rfl,o,q,U,F⟩|⟨rfl,q⟩|⟨rfl,S,n,q⟩
  ·obtain⟨M,_,G,_⟩:=I.list N
   refine⟨G.isList.typeIs,λa e=>?_⟩;cases e;obtain⟨o,n,e,c,F,_⟩:=G;exact⟨o,e,F⟩
  ·refine⟨⟨o,I.kIn p o q,U⟩,λa e=>?_⟩
   cases e;exact⟨o,I.kIn _ o q,F⟩
  ·have z:∃o,s.heap.get? p=some o/\o.ExactDict:=by
    rcases q with⟨kvs,q⟩|⟨kvs,q⟩
    ·obtain⟨_,_,_,_,o,_,_,e,ex,_⟩:=I.hok p _ q
     exact⟨o,e,ex⟩
    ·obtain⟨_,_,_,_,o,_,_,e,ex,_⟩:=I.hok p _ q
     exact⟨o,e,ex⟩
   obtain⟨o,e,ex⟩:=z;refine⟨⟨o,e,ex.1⟩,λa B=>?_⟩;cases B;exact⟨o,e,ex.2.1⟩
  ·obtain⟨o,_,_,_,e,ex,_⟩:=I.hok p _ q
   refine⟨⟨o,e,ex.1⟩,λa B=>?_⟩;cases B;exact⟨o,e,ex.2.1⟩
 | _=>exact VC ty
def NG(K:S2)(T:String)(r:V->List V->Hp->VK->Prop)(to:TE)(t:TA):TE:=λσ H Q=>to σ H λx H1=>R6 K T x H1/\t σ H1 λxs H2=>r x xs H2 Q
variable {o e:Expr}{es:List Expr}{to:TE}{t:TA}{name:Str}{apos cpos:Pos}{T id:String}{r:V->List V->Hp->VK->Prop}
theorem fQ(pa:PlainAttrs T)(J:Slot T name id)(M:typeOf (.builtin id)=pure (.type "method_descriptor"))(Y:MtR X id r)(ho:PE X o to)(ha:PA X (e::es) t)
  (F:WT o name X.env (eval o X.env)=eval o X.env:=by rfl)
  (G:((TU cpos (S0 (e::es) X.env)).all (λx => !x.1) && (backToKw cpos (X1 [] X.env)).all (λx => x.1.isSome)
   && decide ((e::es).length+([]:List VI).length+(if([]:List VI).isEmpty then 0 else 1)<30))=true:=by rfl)
  (B:(apos.endLine == cpos.line)=true:=by rfl) (hs:S0 (e::es) X.env=(false,eval e X.env)::S0 es X.env:=by rfl) (q:(TU cpos (S0 es X.env)).any (·.1)=false:=by rfl) :
  PE X (.Call (.Attribute o name apos) (e::es) [] cpos) (NG X.K T r to t):=by
 intro pins s σ H Q I h;refine wpAny_Call_method_late F G B rfl (bS (ho pins s σ H _ I h) λv s1 ⟨x,H1,N,U,ty,q1⟩=>?_);obtain⟨h1,h2⟩:=LF N U ty;refine⟨T,id,pa,J,M,h1,h2,?_⟩;have W:=ha cpos pins s1 σ H1 _ N q1;rw[hs]at W ⊢;refine zae (by show(false || (TU cpos (S0 es X.env)).any (·.1))=false;rw[q] <;> rfl) (Calls.evalArgs_plain ?_);exact bS W λus s2 ⟨vs,H2,I2,r2,q2⟩=>Y pins s2 σ H2 x vs v us Q I2 U r2 q2
end
def NH(X:Cx)(id:String)(r:V->List V->Hp->VK->Prop):Prop:=
 ∀(pins:List (Addr×Obj)) (s:SZ) (σ:St) (H:Hp) (x:V) (xs:List V) (v:Value) (us:List Value) (Q:VK),Inv X pins σ H s->RelV x v->Vals xs us->r x xs H Q->
  wpAny (model X.prog X.w) X.A (call (.builtin id) (v::us)) (EP X pins σ Q) X.xe s
theorem Vals.one:∀ {x:V} {us:List Value},Vals [x] us->∃u,us=[u]/\RelV x u
 | _,_,.cons r .nil=>⟨_,rfl,r⟩
theorem Vals.zero:∀ {us:List Value},Vals [] us->us=[]
 | _,.nil=>rfl
theorem Vals.rep(h:Vals xs us):∀k:Nat,Vals (V7 k xs).flatten (V7 k us).flatten
 | 0=>.nil
 | k+1=>by
  rw[Y0,Y0,Y1,Y1];exact Vals.append h (Vals.rep h k)
section
variable {X:Cx}{pins:List (Addr×Obj)}{σ:St}{H:Hp}{s:SZ}{l b:Addr}{xs ys zs:List V}
theorem Inv.lset{B its':List Value}{n:Nat}{f:Array Value->Array Value}{t':Nat}(I:Inv X pins σ H s)(M:H l=some (.lst xs))
  (e:s.heap.get? l=some {cls:=.type "list",data:=.seq B.toArray n}) (F:f B.toArray=its'.toArray) (G:Vals ys its') (hz:ys.length<=S7) :
  Inv X pins σ (upd H l (.lst ys)) {s with heap:=s.heap.update l (UX f),toks:=t'}:=by
 have q:=PySem.IsL.update e f;rw[F]at q;refine I.write (x:=l) (e:=l) (by rw[M];exact trivial) (.inl rfl) (λU u N J=>(VZ s.heap (UX f) (T3 N)).trans J) ⟨_,q⟩ ?_;exact⟨hz,its',_,G,q⟩
theorem Inv.lnew(I:Inv X pins σ H s)(B:Vals ys its)(hz:ys.length<=S7) :
  Inv X pins σ (upd H s.heap.objs.size (.lst ys)) {s with heap:=s.heap.push {cls:=.type "list",data:=.seq its.toArray},toks:=t'}:=
 I.laid (λ_ _ q=>TC _ q) (TF _) ⟨hz,its,0,B,TV _ rfl⟩
theorem Inv.fresh(I:Inv X pins σ H s):H s.heap.objs.size=none:=I.hok.fresh (TF _)
theorem Inv.lstM(I:Inv X pins σ H s)(B:H l=some (.lst xs)):xs.length<=S7/\∃(q:List Value) (n:Nat),Vals xs q/\xs.length=q.length/\s.heap.get? l=some {cls:=.type "list",data:=.seq q.toArray n}:=by
 obtain⟨z,q,n,r,e⟩:=I.hok l _ B;exact⟨z,q,n,r,r.length,e⟩
theorem CF(h:n<=S7):zaf n=false:=by
 unfold zaf;exact decide_eq_false (by lia)
end
section
variable {X:Cx}
def xU:V->List V->Hp->VK->Prop:=λx vs H Q=>∃l xs y,x=.ref l/\vs=[y]/\H l=some (.lst xs)/\xs.length<S7/\Q .non (upd H l (.lst (xs++[y])))
theorem p7:NH X "list.append" xU:=by
 intro pins s σ H x vs v U Q I M N h;obtain⟨l,xs,y,rfl,rfl,G,hz,q⟩:=h;cases M;obtain⟨u,rfl,J⟩:=N.one;obtain⟨z,B,n,r,W,e⟩:=I.lstM G;refine W6 F.slot_list_append ⟨_,e,rfl⟩ F.entry_list_append (F.args_list_append_2 _ _) (PySem.list_append l B.toArray n u (by rw[TL];lia)) ⟨e,?_⟩;refine⟨.non,_,I.lset (its':=B++[u]) G e (by simp) (r.append (.cons J .nil)) ?_,rfl,q⟩;rw[T8,Y2]
 lia
end
section
variable {prog:S6}{w:World}{A:TH}{E:Value->SZ->Prop}{s:SZ}
end
section
variable {X:Cx}
end
section
variable {κ:Type}[DecidableEq κ]
noncomputable def jU(kvs:List (κ×V))(k:κ):Option V:=(kvs.find? λq=>decide (q.1=k)).map (·.2)
noncomputable def putK(kvs:List (κ×V))(k:κ)(v:V):List (κ×V):=
 if(kvs.any λq=>decide (q.1=k))=true then kvs.map (λq=>if q.1=k then(q.1,v)else q)else kvs++[(k,v)]
noncomputable def JF(kvs:List (κ×V))(k:κ):List (κ×V):=kvs.filter λq=>decide (q.1≠k)
theorem jJ{p:κ×V}{r:List (κ×V)}{k:κ}(e:p.1=k):jU (p::r) k=some p.2:=by simp[jU,UV,e]
theorem jB{p:κ×V}{r:List (κ×V)}{k:κ}(e:¬ p.1=k):jU (p::r) k=jU r k:=by simp[jU,UV,e]
theorem uY(k:κ):∀kvs:List (κ×V),(kvs.any λq=>decide (q.1=k))=(jU kvs k).isSome
 | []=>rfl
 | p::r=>by
  rw[VF];by_cases e:p.1=k
  ·simp only[jJ e,decide_eq_true e,Bool.true_or,Option.isSome_some]
  ·rw[jB e,decide_eq_false e,Bool.false_or];exact uY k r
theorem k7(kvs:List (κ×V))(k:κ)(v:V):(putK kvs k v).length<=kvs.length+1:=by
 unfold putK;split
 ·rw[S5];lia
 ·rw[T8,UO,WH];lia
theorem RelO.isSome_eq(r:RelO o u):o.isSome=u.isSome:=by
 cases o with
 | none=>cases u with
  | none=>rfl
  | some _=>exact(show False from r).elim
 | some _=>cases u with
  | none=>exact(show False from r).elim
  | some _=>rfl
theorem RelO.getD(r:RelO o u)(q:RelV d d'):RelV (o.getD d) (u.getD d'):=by
 cases o with
 | none=>cases u with
  | none=>exact q
  | some _=>exact(show False from r).elim
 | some _=>cases u with
  | none=>exact(show False from r).elim
  | some _=>exact r
theorem KV.val(r:KV kvs vs)(k:κ):RelO (jU kvs k) (WU vs k):=by
 unfold KV at r;induction r with
 | nil=>exact VH
 | @cons p q ps qs h t ih=>
  obtain⟨h1,h2⟩:=h;by_cases e:p.1=k
  ·have B:q.1=k:=h1.symm.trans e
   have b:WU (q::qs) k=some q.2:=by simp[WU,UV,B]
   rw[jJ e,b];exact h2
  ·have B:¬ q.1=k:=λz=>e (h1.trans z)
   have b:WU (q::qs) k=WU qs k:=by simp[WU,UV,B]
   rw[jB e,b];exact ih
theorem KV.any(r:KV kvs vs)(k:κ):(kvs.any λq=>decide (q.1=k))=vs.any λq=>decide (q.1=k):=by
 unfold KV at r;induction r with
 | nil=>rfl
 | cons h t ih=>rw[VF,VF,ih,h.1]
theorem KV.repl(r:KV kvs vs)(k:κ)(F:RelV y u) :
  KV (kvs.map λB=>if B.1=k then(B.1,y)else B) (vs.map λB=>if B.1=k then(B.1,u)else B):=by
 unfold KV at r ⊢;induction r with
 | nil=>exact .nil
 | @cons p q ps qs h t ih=>
  rw[TB,TB];refine .cons ?_ ih;obtain⟨h1,h2⟩:=h;by_cases e:p.1=k
  ·rw[if_pos e,if_pos (h1.symm.trans e)];exact⟨h1,F⟩
  ·rw[if_neg e,if_neg (λz=>e (h1.trans z))];exact⟨h1,h2⟩
theorem KV.put(r:KV kvs vs)(k:κ)(q:RelV y u):KV (putK kvs k y) (stored vs k u):=by
 unfold putK stored;rw[r.any k];by_cases e:(vs.any λB=>decide (B.1=k))=true
 ·rw[if_pos e,if_pos e];exact r.repl k q
 ·rw[if_neg e,if_neg e];exact Paired.snoc r ⟨rfl,q⟩
theorem KV.drop(r:KV kvs vs)(k:κ):KV (JF kvs k) (without vs k):=by
 unfold KV at r ⊢;unfold JF without;induction r with
 | nil=>exact .nil
 | @cons p q ps qs h t ih=>
  obtain⟨h1,h2⟩:=h;rw[WV,WV];by_cases e:p.1=k
  ·have a:¬ decide (p.1≠k)=true:=by simp[e]
   have b:¬ decide (q.1≠k)=true:=by simp[h1.symm.trans e]
   rw[if_neg a,if_neg b];exact ih
  ·have B:¬ q.1=k:=λz=>e (h1.trans z)
   have a:decide (p.1≠k)=true:=by simp[e]
   have b:decide (q.1≠k)=true:=by simp[B]
   rw[if_pos a,if_pos b];exact .cons ⟨h1,h2⟩ ih
theorem KV.length(r:KV kvs vs):kvs.length=vs.length:=WE r
end
theorem qE(r:RelV (kV k) u):(bK P w).is k u=true:=by
 cases k with
 | inl i=>obtain⟨t,e⟩:=(show ∃t,u=Value.int i t from r);subst e;exact tM P w i t
 | inr x=>obtain⟨t,e⟩:=(show ∃t,u=Value.str x t from r);subst e;exact tE P w x t
theorem pK:∀ {ks:List Key} {us:List Value},Vals (ks.map kV) us->ItemsAre (bK P w) ks us
 | [],_,r=>by rw[W4]at r;cases r;exact .nil
 | k::ks,_,r=>by
  rw[TB]at r;cases r with
  | cons h t=>exact .cons (qE h) (pK t)
abbrev KT(H:Hp):List (List Key×V)->List (List Key×Addr×Value)->Prop:=UB λp q=>p.1=q.1/\H q.2.1=some (.tup (p.1.map kV))/\RelV p.2 q.2.2
theorem KT.val(r:KT H kvs xs)(k:List Key):RelO (jU kvs k) ((atKey xs k).map (·.2)):=by
 induction r with
 | nil=>exact VH
 | @cons p q ps qs h t ih=>
  obtain⟨h1,_,h2⟩:=h;by_cases e:p.1=k
  ·have B:q.1=k:=h1.symm.trans e
   have b:atKey (q::qs) k=some q.2:=by simp[atKey,UV,B]
   rw[jJ e,b];exact h2
  ·have B:¬ q.1=k:=λz=>e (h1.trans z)
   have b:atKey (q::qs) k=atKey qs k:=by simp[atKey,UV,B]
   rw[jB e,b];exact ih
theorem KT.repl(r:KT H kvs xs)(k:List Key)(F:RelV y u) :
  KT H (kvs.map λB=>if B.1=k then(B.1,y)else B) (xs.map (putAt k u)):=by
 induction r with
 | nil=>exact .nil
 | @cons p q ps qs h t ih=>
  rw[TB,TB];refine .cons ?_ ih;obtain⟨h1,h2,G⟩:=h;unfold putAt;by_cases e:p.1=k
  ·rw[if_pos e,if_pos (h1.symm.trans e)];exact⟨h1,h2,F⟩
  ·rw[if_neg e,if_neg (λz=>e (h1.trans z))];exact⟨h1,h2,G⟩
theorem KT.put(r:KT H kvs xs)(k:List Key)(G:H b=some (.tup (k.map kV)))(B:RelV y u) :
  KT H (putK kvs k y) (storedH xs k b u):=by
 have e:(kvs.any λF=>decide (F.1=k))=(atKey xs k).isSome:=by
  rw[uY,(r.val k).isSome_eq,zag]
 unfold putK storedH;rw[e];by_cases q:(atKey xs k).isSome=true
 ·rw[if_pos q,if_pos q];exact r.repl k B
 ·rw[if_neg q,if_neg q];exact Paired.snoc r ⟨rfl,G,B⟩
theorem KT.keeps(r:KT H kvs xs)(q:∀b ys,H b=some (.tup ys)->H' b=some (.tup ys)):KT H' kvs xs:=
 Paired.mapP r λ_ _ z=>⟨z.1,q _ _ z.2.1,z.2.2⟩
section
variable {P:S6}{w:World}{H:Hp}{h:Heap}{a:Addr}
theorem I0(ok:HOk P w H h)(e:Rd H a u):ObjOk P w H h a u:=e.ok ok
theorem lL(ok:HOk P w H h)(e:Rd H a (.dK kvs)):kvs.length<=S7/\(a == UY)=false/\∃vs,KV kvs vs/\h.DictOf (bK P w) a vs:=
 show ObjOk P w H h a (.dK kvs)from I0 ok e
theorem OC(ok:HOk P w H h)(e:H a=some (.dK kvs)):kvs.length<=S7/\(a == UY)=false/\∃vs,KV kvs vs/\h.DictOf (bK P w) a vs:=lL ok (.inl e)
theorem j9(ok:HOk P w H h)(e:H a=some (.tup (ks.map kV))):(VQ (bK P w)).is h ks a:=by
 obtain⟨_,q,r,o,h1,h2,n,B⟩:=(show ObjOk P w H h a (.tup (ks.map kV))from ok a _ e);exact⟨o,q.toArray,n,h1,h2,B.1,by simpa using pK r⟩
theorem oI(ok:HOk P w H h)(e:Rd H a (.dT kvs)):kvs.length<=S7/\(a == UY)=false /\
  ∃xs,KT H kvs xs/\h.DictOfH (VQ (bK P w)) a xs:=by
 obtain⟨z,y,xs,r,o,es,ep,h1,h2,F,G,J⟩:=(show ObjOk P w H h a (.dT kvs)from I0 ok e);refine⟨z,y,xs,r,o,es,ep,h1,h2,F,G,λx B=>?_,J⟩;have all:∀ {l:List (List Key×V)} {m:List (List Key×Addr×Value)},KT H l m->∀x∈m,(VQ (bK P w)).is h x.1 x.2.1:=by
  intro l m q;induction q with
  | nil=>intro x B;exact nomatch B
  | @cons p q ps qs hq t ih=>
   intro x B;rcases List.mem_cons.mp B with e|B
   ·subst e
    exact j9 ok (by rw[<- hq.1];exact hq.2.1)
   ·exact ih x B
 exact all r x B
theorem OQ(ok:HOk P w H h)(e:H a=some (.dT kvs)):kvs.length<=S7/\(a == UY)=false /\
  ∃xs,KT H kvs xs/\h.DictOfH (VQ (bK P w)) a xs:=oI ok (.inl e)
end
def DGet(H:Hp)(a:Addr)(y:V)(r:Option V):Prop:=
 (∃kvs k,Rd H a (.dK kvs)/\y=kV k/\r=jU kvs k)\/∃kvs k b,Rd H a (.dT kvs)/\y=.ref b/\H b=some (.tup (k.map kV))/\r=jU kvs k
def DPut(H:Hp)(a:Addr)(y v:V)(H':Hp):Prop:=
 (∃kvs k,H a=some (.dK kvs)/\y=kV k/\kvs.length<S7/\H'=upd H a (.dK (putK kvs k v))) \/
 ∃kvs k b,H a=some (.dT kvs)/\y=.ref b/\H b=some (.tup (k.map kV))/\kvs.length<S7/\H'=upd H a (.dT (putK kvs k v))
theorem DGet.k{H:Hp}{a:Addr}{kvs:List (Key×V)}{k:Key}(e:H a=some (.dK kvs)):DGet H a (kV k) (jU kvs k):=.inl ⟨kvs,k,.inl e,rfl,rfl⟩
theorem DGet.t{H:Hp}{a b:Addr}{kvs:List (List Key×V)}{k:List Key}(e:H a=some (.dT kvs))(q:H b=some (.tup (k.map kV))):DGet H a (.ref b) (jU kvs k):=.inr ⟨kvs,k,b,.inl e,rfl,q,rfl⟩
theorem DPut.k{H:Hp}{a:Addr}{kvs:List (Key×V)}{k:Key}{v:V}(e:H a=some (.dK kvs))(q:kvs.length<S7):DPut H a (kV k) v (upd H a (.dK (putK kvs k v))):=.inl ⟨kvs,k,e,rfl,q,rfl⟩
theorem DPut.t{H:Hp}{a b:Addr}{kvs:List (List Key×V)}{k:List Key}{v:V}(e:H a=some (.dT kvs))(q:H b=some (.tup (k.map kV)))(B:kvs.length<S7) :
  DPut H a (.ref b) v (upd H a (.dT (putK kvs k v))):=.inr ⟨kvs,k,b,e,rfl,q,B,rfl⟩
section
variable {X:Cx}{pins:List (Addr×Obj)}{σ:St}{H:Hp}{s:SZ}{a:Addr}{y v:V}{u r:Value}{o:Option V}{A:TH}{E:Value->SZ->Prop}
theorem Inv.big(I:Inv X pins σ H s):UY<s.heap.objs.size:=by
 have h:UC<s.heap.objs.size:=(I.mod.glob.keeps I.bk).lt;exact W7 (by decide) h
theorem AW(U:A.units+1<cLine)(I:Inv X pins σ H s)(g:DGet H a y (some v))(N:RelV y u)(h:∀F s',Inv X pins σ H s'->RelV v F->Q F s') :
  wpAny (model X.prog X.w) A (VX (.ref a) u) Q E s:=by
 rcases g with⟨kvs,k,e,G,l⟩|⟨kvs,k,b,e,G,W,l⟩
 ·subst G
  obtain⟨z,Y,vs,q,J⟩:=lL I.hok e;obtain⟨F,hw,B⟩:=RelO.some_of (v:=v) (o:=WU vs k) (by rw[l];exact q.val k);exact wpAny_getItem_of (qE N) J.mapOf hw (h F _ (I.tok _) B)
 ·subst G
  cases(show u=S9 b from N);obtain⟨z,Y,xs,q,J⟩:=oI I.hok e;obtain⟨F,hw,B⟩:=RelO.some_of (v:=v) (o:=(atKey xs k).map (·.2)) (by rw[l];exact q.val k);obtain⟨p,hp,M⟩:=Option.map_eq_some_iff.mp hw;refine wpAny_getItem_heap (X2 U) (j9 I.hok W) J hp ?_;rw[M];exact h F _ (I.tok _) B
theorem Q1(N:A.units+1<cLine)(I:Inv X pins σ H s)(g:DGet H a y o)(M:RelV y u)(h:∀s',Inv X pins σ H s'->Q (.bool o.isSome) s') :
  wpAny (model X.prog X.w) A (TJ .In u (.ref a)) Q E s:=by
 rcases g with⟨kvs,k,e,F,l⟩|⟨kvs,k,b,e,F,U,l⟩
 ·subst F
  obtain⟨z,J,vs,B,G⟩:=lL I.hok e;refine wpAny_in_of (qE M) J G.mapOf ?_;rw[<- (B.val k).isSome_eq,<- l];exact h _ (I.tok _)
 ·subst F
  cases(show u=S9 b from M);obtain⟨z,J,xs,B,G⟩:=oI I.hok e;refine wpAny_in_heap (X2 N) (j9 I.hok U) J G ?_;have q:=(B.val k).isSome_eq;rw[zag]at q;rw[<- q,<- l];exact h _ (I.tok _)
theorem FK(N:A.units+1<cLine)(I:Inv X pins σ H s)(g:DGet H a y o)(M:RelV y u)(h:∀s',Inv X pins σ H s'->Q (.bool (!o.isSome)) s') :
  wpAny (model X.prog X.w) A (TJ .NotIn u (.ref a)) Q E s:=by
 rcases g with⟨kvs,k,e,F,l⟩|⟨kvs,k,b,e,F,U,l⟩
 ·subst F
  obtain⟨z,J,vs,B,G⟩:=lL I.hok e;refine wpAny_notIn_of (qE M) J G.mapOf ?_;rw[<- (B.val k).isSome_eq,<- l];exact h _ (I.tok _)
 ·subst F
  cases(show u=S9 b from M);obtain⟨z,J,xs,B,G⟩:=oI I.hok e;refine wpAny_notIn_heap (X2 N) (j9 I.hok U) J G ?_;have q:=(B.val k).isSome_eq;rw[zag]at q;rw[<- q,<- l];exact h _ (I.tok _)
theorem yR(I:Inv X pins σ H s)(B:P4 (H a))(hs:UE a s.heap h')(F:∃q,h'.get? a=some q)(new:ObjOk X.prog X.w (upd H a ob) h' a ob) :
  Inv X pins σ (upd H a ob) {s with heap:=h',toks:=t'}:=
 I.write (x:=a) (e:=a) B (.inl rfl) (λb q G z=>(hs.2 b G).trans z) F new
theorem KY(z:kvs.length<=S7)(B:(a == UY)=false)(q:KV kvs vs)(F:h'.DictOf (bK P w) a vs) :
  ObjOk P w H' h' a (.dK kvs):=⟨z,B,vs,q,F⟩
theorem zJ(hu:A.units+1<cLine)(I:Inv X pins σ H s)(g:DPut H a y v H')(Y:RelV y u)(rv:RelV v r)(h:∀s',Inv X pins σ H' s'->Q () s') :
  wpAny (model X.prog X.w) A (setItem (.ref a) u r) Q E s:=by
 rcases g with⟨kvs,k,e,J,l,M⟩|⟨kvs,k,b,e,J,eb,l,M⟩
 ·subst J M
  obtain⟨z,U,vs,B,N⟩:=OC I.hok e;have hz:vs.length<=S7:=by rw[<- B.length];exact z
  have W:(putK kvs k v).length<=S7:=by have:=k7 kvs k v;lia
  refine wpAny_setItem_pairs (hsz:=hz) (qE Y) N λh' F hs=>h _ ?_
  have he:∃q,h'.get? a=some q:=let ⟨q,_,_,G,_⟩:=F;⟨q,G⟩;exact yR I (by rw[e];exact VH) hs he (KY W U (B.put k rv) F)
 ·subst J M
  cases(show u=S9 b from Y);obtain⟨z,U,xs,B,N⟩:=OQ I.hok e;have hz:xs.length<=S7:=by rw[<- WE B];exact z
  have W:(putK kvs k v).length<=S7:=by have:=k7 kvs k v;lia
  refine wpAny_setItem_heap (hsz:=hz) (X2 hu) (j9 I.hok eb) N λh' F hs=>h _ ?_
  obtain⟨q,es,ep,G,h2,h3,h4,_,h5⟩:=F;refine yR I (by rw[e];exact VH) hs ⟨q,G⟩ ⟨W,U,_,(B.put k eb rv).keeps λc ys ec=>?_,q,es,ep,G,h2,h3,h4,h5⟩;rw[aJ (OK ec e (λz=>nomatch z))];exact ec
end
section
variable {X:Cx}{pins:List (Addr×Obj)}{σ:St}{H:Hp}{s:SZ}{a:Addr}{kvs:List (Key×V)}{k:Key}{u:Value}{A:TH}{E:Value->SZ->Prop}
theorem OJ(I:Inv X pins σ H s)(e:Rd H a (.dK kvs))(h:∀t s',Inv X pins σ H s'->Q (.int kvs.length t) s'):wpAny (model X.prog X.w) A (call (.builtin "len") [.ref a]) Q E s:=by
 obtain⟨z,B,vs,q,F⟩:=lL I.hok e;refine call_len_dict B F (by rw[<- q.length];rw[WF]at z;lia) ?_;rw[<- q.length];exact h _ _ (I.tok _)
end
def PL(i:Expr):Prop:=∀q B,YZ i false q B=operate [q,B] (VX q B)
theorem GG{E:Value->SZ->Prop}{T id:String}{Q:Value->SZ->Prop}
  (N:typeLookup (.type T) "__getitem__" = pure (some (.builtin id))) (hs:PL slice)
  (h:wpAny (model prog w) A (eval value env) (λo G=>wpAny (model prog w) A (eval slice env) (λi q=>q.TypeIs o T/\wpAny (model prog w) A (VX o i) Q E q) E G) E s) :
  wpAny (model prog w) A (eval (.Subscript value slice pos) env) Q E s:=by
 refine Subscript_ (US h (λo G J=>US J (λi q B=>?_) λ_ _ x=>x) λ_ _ x=>x);obtain⟨hT,B⟩:=B;unfold subscriptTail;refine SY ?_;rw[getitemInPython_of_ne hT.not_modules];refine SY (wpAny_specialOf hT N ?_);have fin:wpAny (model prog w) A (YZ slice false o i) (λr F=>wpAny (model prog w) A (letTemporaryGo value o r >>= λ_=>pure r) Q E F) E q:=by
  rw[hs o i];exact wpAny_operating (US B (λr F M=>SY (wpAny_letTemporaryGo (S1 M))) λ_ _ x=>x)
 first
  | exact S1 (SY fin)
  | exact SY (S1 (SY fin))
  | exact SY fin
theorem tR(I:Inv X pins σ H s)(g:DGet H a y o):s.TypeIs (.ref a) "dict" := by
 rcases g with⟨kvs,k,e,_,_⟩|⟨kvs,k,b,e,_,_,_⟩
 ·obtain⟨_,_,vs,_,q⟩:=lL I.hok e
  exact q.typeIs
 ·obtain⟨_,_,xs,_,q⟩:=oI I.hok e
  exact q.typeIs
def JC(td ty:TE):TE:=λσ H Q=>td σ H λx H1=>ty σ H1 λy H2=>∃a v,x=.ref a/\DGet H2 a y (some v)/\Q v H2
def NT(td ty tv:TE):TS:=λD σ H=>tv σ H λv H1=>td σ H1 λx H2=>ty σ H2 λy B=>∃a q,x=.ref a/\DPut B a y v q/\D.nx σ q
section
variable {X:Cx}{o i e value:Expr}{pos pos' tpos:Pos}{td ty tv:TE}
theorem GB(W:X.A.units+1<cLine)(ho:PE X o td)(hi:PE X i ty)(hs:PL i):PE X (.Subscript o i pos) (JC td ty):=by
 intro pins s σ H Q I h;refine GG PySem.F.slot_dict_getitem.lookup hs (bS (ho pins s σ H _ I h) λu U ⟨x,H1,J,Y,M⟩=>bS (hi pins U σ H1 _ J M) λiv s2 ⟨y,H2,B,G,a,v,ex,g,N⟩=>?_);subst ex;obtain rfl:u=S9 a:=Y;exact⟨tR B g,AW W B g G λw' s3 I3 q=>⟨v,H2,I3,q,N⟩⟩
theorem GV(hu:X.A.units+1<cLine)(G:PE X o td)(hi:PE X i ty)(W:PE X value tv)(hs:UM value (some (.Subscript o i pos')) pos.line X.env=pure false) :
  PS X (.Assign [.Subscript o i pos'] value pos) (NT td ty tv):=by
 intro pins s σ H D I h;refine wpAny_Assign_Subscript (bS (W pins s σ H _ I h) λr s1 ⟨v,H1,U,J,q1⟩=>bS (G pins s1 σ H1 _ U q1) λu s2 ⟨x,H2,N,F,q2⟩=>bS (hi pins s2 σ H2 _ N q2) λiv s3 ⟨y,H3,B,q,a,Y,ex,g,q3⟩=>?_) hs;subst ex;obtain rfl:u=S9 a:=F;exact zJ hu B g q J λs4 M=>⟨σ,Y,M,q3⟩
end
theorem C9(h:Heap)(q:UY<h.objs.size):ObjOk P w H (h.push {cls:=.type "dict",data:=.dict #[]}) h.objs.size (.dT []):=
 ⟨U6 _,beq_eq_false_iff_ne.mpr (T3 (TY q)),[],.nil,_,#[],0,TV _ rfl,⟨rfl,rfl,rfl⟩,rfl,rfl,List.nodup_nil⟩
def KL:TE:=λ_ H Q=>∀p,H p=none->Q (.ref p) (upd H p (.dT []))
section
variable {X:Cx}{pos:Pos}
theorem CQ:PE X (.Dict [] [] pos) KL:=λpins s σ H Q I h=>
 wpAny_Dict_empty ⟨.ref s.heap.objs.size,_,I.laid (a:=s.heap.objs.size) (o:=.dT []) (t':=s.toks) (λ_ _ q=>TC _ q) (TF _) (C9 s.heap I.big),rfl,h _ (I.hok.fresh (TF _))⟩
end
structure M2(X:Cx)(o:Expr)(m:Str)(apos:Pos)(e f:Expr)(cpos:Pos):Prop where
 base:WT o m X.env (eval o X.env)=eval o X.env
 few:((TU cpos (S0 [e,f] X.env)).all (λx=>!x.1) && (backToKw cpos (X1 [] X.env)).all (λx=>x.1.isSome)
  && decide (([e,f]:List Expr).length+([]:List VI).length+(if([]:List VI).isEmpty then 0 else 1)<30))=true
 line:(apos.endLine == cpos.line)=true
 trees:TU cpos (S0 [e,f] X.env)=[(false,eval e X.env),(false,eval f X.env)]
def NE(H:Hp)(a:Addr):Prop:=(∃kvs,Rd H a (.dK kvs))\/∃kvs,Rd H a (.dT kvs)
theorem D8(I:Inv X pins σ H s)(d:NE H a) :
  s.TypeIs (.ref a) "dict" /\ (∀b,S9 a=.ref b->∃B,s.heap.get? b=some B/\B.dict=none)/\(a == UY)=false:=by
 rcases d with⟨kvs,e⟩|⟨kvs,e⟩
 ·obtain⟨_,G,vs,_,F⟩:=lL I.hok e
  refine⟨F.typeIs,λb q=>?_,G⟩;cases q;obtain⟨B,_,_,h1,h2,_⟩:=F;exact⟨B,h1,h2.2.1⟩
 ·obtain⟨_,G,xs,_,F⟩:=oI I.hok e
  refine⟨F.typeIs,λb q=>?_,G⟩;cases q;obtain⟨B,_,_,h1,h2,_⟩:=F;exact⟨B,h1,h2.2.1⟩
section
variable {X:Cx}{pins:List (Addr×Obj)}{σ:St}{H:Hp}{s:SZ}{a:Addr}{y d:V}{u r:Value}{o:Option V}{A:TH}{E:Value->SZ->Prop}
theorem JV(W:A.units+1<cLine)(I:Inv X pins σ H s)(g:DGet H a y o)(M:RelV y u)(U:RelV d r)(h:∀N s',Inv X pins σ H s'->RelV (o.getD d) N->Q N s') :
  wpAny (model X.prog X.w) A (call (.builtin "dict.get") [.ref a,u,r]) Q E s:=by
 rcases g with⟨kvs,k,e,G,l⟩|⟨kvs,k,b,e,G,Y,l⟩
 ·subst G
  obtain⟨z,J,vs,q,B⟩:=lL I.hok e;refine call_meetsIn zah B.typeIs PySem.F.entry_dict_get (PySem.F.args_dict_get_3 _ _ _) (meets_dict_get_default (bK X.prog X.w) a (qE M) J r) ⟨_,B.mapOf,h _ _ (I.tok _) ?_⟩;rw[l];exact(q.val k).getD U
 ·subst G
  cases(show u=S9 b from M);obtain⟨z,J,xs,q,B⟩:=oI I.hok e;refine call_meetsIn zah B.typeIs PySem.F.entry_dict_get (PySem.F.args_dict_get_3 _ _ _) (meetsH_dict_get_default (VQ (bK X.prog X.w)) a b J r) ⟨X2 W,k,xs,j9 I.hok Y,B,h _ _ (I.tok _) ?_⟩;rw[l];exact(q.val k).getD U
end
def ME(td ty tx:TE):TE:=λσ H Q=>td σ H λx H1=>∃a,x=.ref a/\NE H1 a/\ty σ H1 λy H2=>tx σ H2 λz q=>∃o,DGet q a y o/\Q (o.getD z) q
section
variable {X:Cx}{o e f:Expr}{apos cpos:Pos}{td ty tx:TE}
theorem CS(hu:X.A.units+1<cLine)(U:PE X o td)(he:PE X e ty)(hf:PE X f tx)(m:M2 X o "get" apos e f cpos):PE X (.Call (.Attribute o "get" apos) [e,f] [] cpos) (ME td ty tx):=by
 intro pins s σ H Q I h;refine wpAny_Call_method m.base m.few m.line PySem.F.plainAttrs_dict zah PySem.F.type_dict_get (bS (U pins s σ H _ I h) λu s1 ⟨x,H1,B,N,a,ex,d,q1⟩=>?_);subst ex;obtain rfl:u=S9 a:=N;obtain⟨t1,J,_⟩:=D8 B d;refine⟨t1,J,?_⟩;rw[m.trees];refine zae rfl (Calls.evalArgs_plain (Z3 (bS (he pins s1 σ H1 _ B q1) λiv s2 ⟨y,H2,Y,G,q2⟩=>
  Z3 (bS (hf pins s2 σ H2 _ Y q2) λfv s3 ⟨z,H3,M,rz,ov,g,q3⟩=>Calls.spliced_nil ?_))))
 exact JV hu M g G rz λw' s4 W q=>⟨_,H3,W,q,q3⟩
end
section
variable {X:Cx}{pins:List (Addr×Obj)}{σ:St}{H:Hp}{s:SZ}{a:Addr}{kvs:List (Key×V)}{A:TH}{E:Value->SZ->Prop}
end
section
variable {X:Cx}{pins:List (Addr×Obj)}{σ:St}{H:Hp}{s:SZ}{a:Addr}{y:V}{u:Value}{A:TH}{E:Value->SZ->Prop}
end
end L2
namespace Att
open PySem PySem.W PySem.Calls PyProof.Rows
theorem lN:∀(ns:List Int) (vs:List Value),WellAll P h vs (ns.map WData.int)->UJ vs ns:=by
 intro ns;induction ns with
 | nil=>
  intro vs w;rw[W4]at w;cases w;exact .nil
 | cons n ns ih=>
  intro vs w;rw[TB]at w;cases w with
  | cons a b=>
   cases a;exact .cons _ _ (ih _ b)
theorem zK{l:OpenLaw}{n:Nat}(hn:l.most=some n){P:Params}{h:Heap}{args:List WData}{B:List Value}
  (F:l.row.toRowW.claim.pre args=true) (N:WellAll P h B args) :
  ∃a vs ns,B=[S9 a]/\args=[WData.list (ns.map WData.int)]/\h.get? a=some {cls:=.type "list",data:=.seq vs.toArray}/\UJ vs ns/\ns.length<=n:=by
 have U:WShape.hasAll [] args [.list .int]=true:=(pre_splitW F).1;have W:l.pre.holds [] {args:=args}=true:=(pre_splitW F).2;obtain⟨d,r,rfl,h1,h2⟩:=hasAllW_cons U;obtain rfl:=hasAllW_nil h2;obtain⟨xs,rfl,Y⟩:=hasW_list h1;obtain⟨ns,rfl⟩:=items_int Y;have G:ns.length<=n:=by
  unfold OpenLaw.pre at W;have J:(WTm.not (.lt (.lit (.int (n:Int))) (.len (.arg 0)))).holds [] {args:=[.list (ns.map .int)]}=true:=by
   have J:=(holds_andW W).1;rw[hn]at J;exact J
  have M:=condW_of J (w_not (w_lt w_lit (w_len_list (w_arg rfl))));rw[S5]at M;refine Nat.le_of_not_lt λq=>?_
  have q':(n:Int)<((ns.length:Nat):Int):=by lia
  first
   | (rw[decide_eq_true q']at M;exact absurd M (by decide))
   | (simp at M;lia)
 cases N with
 | cons w1 w2=>
  cases w2;cases w1 with
  | list ho hall=>exact⟨_,_,ns,rfl,rfl,ho,lN ns _ hall,G⟩
theorem zW(l:OpenLaw)(args:List WData):l.row.toRowW.claim.post args (.bool true) args=true:=
 postW_of (r:=l.row.toRowW) (X:=(true == true))
  (show WShape.has [] (.bool true) .bool=true by first|rfl|decide|simp[WShape.has,WShape.arms,WShape.armsAll])
  (show(WTm.eq .res (.lit (.bool true))).value [] {args:=args,res:=some (.bool true),after:=args}=some (.bool (true == true))from w_eq_bool (w_res rfl) w_lit) rfl
theorem sY{l:OpenLaw}{n:Nat}{q:S6}{J:List Str}{XP:(Str->Option Value)->Heap->Prop}{YP:World->Heap->Prop}{d:DefRec}
  (hn:l.most=some n) (af:d.params.defaults=[])
  (call:∀(w:World) (F B:SZ) (mg mb:Str -> Option Value) (W:Addr) (o:Obj) (pm cd N:Value) (a:Addr) (vs:List Value) (ns:List Int),
   Ground q J [] XP w F mg mb B.heap->YP w B.heap->
   B.heap.get? W=some o->o.data=.func (docDef d.name d.params d.body d.scope pm cd N)->B.heap.CodeRec cd d.name->mg d.name=some (.ref W)->
   B.heap.get? a=some {cls:=.type "list",data:=.seq vs.toArray}->UJ vs ns->ns.length<=n->B.gens=#[]->
   VD (model l.prog w) WW (.call (.ref W) ⟨[.ref a],[]⟩) (λr s'=>r=.ok (.ret (.bool true))/\OldK B.heap s'.heap/\s'.os=B.os/\V3 s'.gens) B) :
  WalkO q J XP YP l.row.toRowW d [] (λf vs=>PySem.call f vs):=by
 intro w F B mg mb G Y W o pm cd N dV kV ho hd ae hD ad hg args aj as ab al aw ah ay;obtain rfl:dV=.none:=Dflts.none hD af;obtain rfl:kV=.none:=Dflts.noKw hD;obtain⟨a,vs,ns,rfl,rfl,aa,M,U⟩:=zK hn ab ah;refine enter_call (YS (call w F B mg mb W o pm cd N a vs ns G Y ho (fd_plain hd) ae ad aa M U hg) λr s' hq=>?_);obtain⟨rfl,h2,h3,h4⟩:=hq;exact⟨.inl ⟨.bool true,.bool true,[],rfl,λ_=>rfl,.bool true,zW l _,λ_=>⟨List.Pairwise.nil,λ_ hm=>(nomatch hm)⟩⟩,h2,h3,h4⟩
section
variable {prog:S6}{w:World}{A:TH}{E:Value->SZ->Prop}{s:SZ}{K:Frag}
noncomputable def rZ(h:Heap):Heap:={h with objs:=#[]}
theorem iR(h:Heap)(b:Addr):(rZ h).get? b=none:=by
 cases e:(rZ h).get? b with
 | none=>rfl
 | some o=>exact absurd (S8 e) (Nat.not_lt_zero _)
noncomputable def ledger(h:Heap)(L d:Addr):List (Addr×Obj):=(UZ h.objs.size).filterMap λa=>if a=L\/a=d then none else(h.get? a).map λo=>(a,o)
theorem cS:(a,o)∈ledger h L d↔a≠L/\a≠d/\h.get? a=some o:=by
 unfold ledger;rw[List.mem_filterMap];constructor
 ·rintro⟨b,_,e⟩
  split at e
  ·cases e
  ·rename_i hb
   obtain⟨o',B,F⟩:=Option.map_eq_some_iff.mp e;cases F;exact⟨λq=>hb (.inl q),λq=>hb (.inr q),B⟩
 ·rintro⟨J,G,B⟩
  refine⟨a,List.mem_range.mpr (S8 B),?_⟩;rw[if_neg (show ¬ (a=L\/a=d)from λq=>q.elim J G),B] <;> rfl
theorem LD(n:h.Ns L m):Fr (rZ h) L h m:=
 ⟨n,λb o e=>(by rw[iR]at e;cases e),U6 _⟩
end
end Att
namespace L2
open PySem PySem.Spec PyProof.Rows
theorem pD:∀ {vs:List Value} {ns:List Int},UJ vs ns->Vals (ns.map V.int) vs
 | _,_,.nil=>.nil
 | _,_,.cons n t h=>.cons ⟨t,rfl⟩ (pD h)
def Only(H:Hp):Prop:=∀b,H b=none\/∃o xs,H b=some (.frz o (.lst xs))
theorem CK{P:S6}{w:World}{K:S2}{mg mb:Str->Option Value}{CX:BB}{k:Nat}{fa a:Addr}{fd:U0}{x:Str}{sp:Sp}{B:SZ}{vs:List Value}{ns:List Int}
  (KX:K.In B.heap) (af:B.heap.Ns UC mg) (J:B.heap.Ns builtinsNs mb) (am:∀x:Str,x ≠ "__name__" -> mb x=TZ x) (ad:B.heap.NoLimit) (hg:B.gens=#[])
  (ha:B.heap.get? a=some {cls:=.type "list",data:=.seq vs.toArray}) (hi:UJ vs ns) (hl:ns.length<=S7) (hr:Room k WW)
  (F:∀base:Heap,K.In base->base.Ns UC mg->FnOk P w K mg base CX k fa fd [x] sp) (U:∀(s:SZ) (u:Value),BindsTo s fd ⟨[u],[]⟩ [(x,u)])
  (ai:∀H:Hp,Only H->SqL K H a (ns.map V.int)->sp [.ref a] H (λv _=>v=.bl true) λ_ _ _=>False)
  (ak:∀H e s',CX [] H B (λ_ _ _=>False) e s'->False) :
  VD (model P w) WW (.call (.ref fa) ⟨[.ref a],[]⟩) (λr s'=>r=.ok (.ret (.bool true))/\OldK B.heap s'.heap/\s'.os=B.os/\V3 s'.gens) B:=by
 have rv:=pD hi;have ac:=hi.length
 -- from an abstract heap in which nothing but the script may be tracked
 have N:∀H:Hp,Only H->SqL K H a (ns.map V.int)->HOk P w H B.heap->(∀b,H b≠none->b=a)->(H a≠none->K.lookup a=none)->
   VD (model P w) WW (.call (.ref fa) ⟨[.ref a],[]⟩) (λr s'=>r=.ok (.ret (.bool true))/\OldK B.heap s'.heap/\s'.os=B.os/\V3 s'.gens) B:=by
  intro H hO hS Y hA hK;have G:∀ {b:Addr} {o:Obj},B.heap.get? b=some o->H b=none->(sO B.heap H).get? b=some o:=λe n=>CH e n
  have ah:∀ {b:Addr} {o:Obj} {es:Array VJ} {ep:Nat},B.heap.get? b=some o->o.data=.dict es ep->H b=none:=λ{b o es ep} e d=>by
   cases q:H b with
   | none=>rfl
   | some u=>
    have e':b=a:=hA b (by rw[q];simp);subst e';rw[ha]at e;cases e;have d':Data.seq vs.toArray _=Data.dict es ep:=d;cases d'
  have M:∀ {b:Addr} {m:Str->Option Value},B.heap.Ns b m->(sO B.heap H).Ns b m:=λ{b m} ⟨o,es,ep,e,d,r⟩=>⟨o,es,ep,G e (ah e d),d,r⟩
  have W:K.In (sO B.heap H):=λb o e=>G (KX b o e) (by
   cases q:H b with
   | none=>rfl
   | some u=>
    have e':b=a:=hA b (by rw[q];simp);subst e';rw[hK (by rw[q];simp)]at e;cases e)
  have hM:Mod K mg (sO B.heap H):=⟨W,M af,⟨mb,M J,am⟩,let ⟨mc,h1,h2⟩:=ad;⟨mc,M h1,h2⟩⟩;have e0:Env0 P w K mg (sO B.heap H) WW [] B H:=⟨rfl,hM,λb o e=>GT e,Nat.le_of_eq (zR _ _),trivial,λb J=>absurd (show b∈([]:List Addr)from J) (by simp),Y,.of_eq hg⟩;refine YS ((F _ W (M af)).run WW [] B H ⟨[.ref a],[]⟩ [.ref a] [.ref a] _ _ hr e0 (U B (.ref a)) (.cons rfl .nil) (ai H hO hS)) λr s' h=>?_
  cases r with
  | error e=>exact(ak H e s' h).elim
  | ok fl=>
   cases fl with
   | next=>exact VC h
   | brk=>exact VC h
   | cont=>exact VC h
   | ret u=>
    obtain⟨v,H',os,ab,un,aa,r',q⟩:=h;have q':v=.bl true:=q;subst q';obtain rfl:u=WD true:=r';refine⟨rfl,OldK.of_keep λb o e=>?_,os,ab⟩;cases q:H b with
    | none=>exact un.keep b o e q (by intro z;exact absurd (show b∈([]:List Addr)from z) (by simp)) (by simp)
    | some u=>
     rcases hO b with z|⟨ob,xs,z⟩
     ·rw[q]at z;cases z
     ·have z2:=un.frzs b ob _ z
      obtain⟨e1,_⟩:=Y b _ z;obtain⟨e2,_⟩:=aa b _ z2;rw[e]at e1;cases e1;exact e2
 cases hk:K.lookup a with
 | some o=>
  -- the script is one of the module's own objects
  have e:=KX a o hk;rw[ha]at e;cases e;refine N (λ_=>none) (λ_=>.inl rfl) (.inr ⟨_,vs.toArray,_,hk,rfl,rfl,rfl,by rw[TL,ac];exact hl,by simpa using rv⟩) (λb u z=>by have z':(none:Option HO)=some u:=z;cases z') (λb z=>absurd rfl z) λz=>absurd rfl z
 | none=>
  refine N (λb=>if b=a then some (.frz {cls:=.type "list",data:=.seq vs.toArray} (.lst (ns.map V.int)))else none) (λb=>?_) (.inl (.inr ⟨{cls:=.type "list",data:=.seq vs.toArray},if_pos rfl⟩)) (λb u z=>?_) (λb z=>?_) λ_=>hk
  ·by_cases J:b=a
   ·exact .inr ⟨_,_,if_pos J⟩
   ·exact .inl (if_neg J)
  ·by_cases J:b=a
   ·have z':=(if_pos J).symm.trans z
    cases z';subst J;exact⟨ha,by rw[S5];exact hl,vs,_,rv,ha⟩
   ·have z':=(if_neg J).symm.trans z
    cases z'
  ·by_cases J:b=a
   ·exact J
   ·exact absurd (if_neg J) z
theorem FJ{l:zai}{n k:Nat}{q:S6}{M:List Str}{XP:(Str->Option Value)->Heap->Prop}{YP:World->Heap->Prop}{d:DefRec}{K:Params->S2}{CX:World->BB}{sp:World->Sp}{x:Str}
  (hn:l.most=some n) (ab:n<=S7) (af:d.params.defaults=[]) (hr:Room k WW)
  (hY:∀(w:World) (h:Heap),YP w h->(K w.params).In h)
  (F:∀(w:World) (mg:Str -> Option Value) (fa:Addr) (h:Heap), (K w.params).In h -> h.Ns UC mg -> mg d.name = some (.ref fa) ->
   ∃fd:U0,(∀(s:SZ) (u:Value),BindsTo s fd ⟨[u],[]⟩ [(x,u)]) /\
    ∀base:Heap,(K w.params).In base->base.Ns UC mg->FnOk l.prog w (K w.params) mg base (CX w) k fa fd [x] (sp w))
  (ac:∀(w:World) (H:Hp) (a:Addr) (ns:List Int),ns.length<=n->Only H->SqL (K w.params) H a (ns.map V.int)->sp w [.ref a] H (λv _=>v=.bl true) λ_ _ _=>False)
  (ae:∀(w:World) (H:Hp) (s:SZ) (e:Value) (s':SZ),CX w [] H s (λ_ _ _=>False) e s'->False) :
  PySem.W.WalkO q M XP YP l.row.toRowW d [] (λf vs=>PySem.call f vs):=by
 refine Att.sY hn af λw ag U mg mb fa o pm cd aq a vs ns G Y ho hd aj ad N J B hg=>?_
 have KX:=hY w _ Y;obtain⟨fd,hb,hF⟩:=F w mg fa _ KX G.T.g ad;exact CK KX G.T.g G.T.b G.T.builtins G.T.nolimit hg N J (UD B ab) hr hF hb (λH hO hS=>ac w H a ns B hO hS) λH e s'=>ae w H U e s'
noncomputable def cY(s:Stmt):Arguments:=match s with
 | .FunctionDef _ a _ _ _ _ _ _ _ _=>a
 | _=>{posonlyargs:=[],args:=[],vararg:=none,kwonlyargs:=[],kw_defaults:=[],kwarg:=none,defaults:=[]}
noncomputable def bP(s:Stmt):List Stmt:=match s with
 | .FunctionDef _ _ b _ _ _ _ _ _ _=>b
 | _=>[]
noncomputable def aK(s:Stmt):Scope:=match s with
 | .FunctionDef _ _ _ _ _ _ sc _ _ _=>sc
 | _=>{kind:=.function,names:=[],isGenerator:=false,isCoroutine:=false}
abbrev xC:BB:=λ_ _ _ _ _ _=>False
abbrev E0:XK:=λ_ _ _=>False
theorem OD:wG xC X E0:=λ_ _ _ _ _ _ _ h=>h.elim
structure Fun(K:S2)(x qual:Str)(st:Stmt)(f:Addr)(fd:U0):Prop where
 ex:∃(oc:Value) (od:Option Addr) (kV doc pm:Value) (an:Option Addr) (cdv ct:Value) (osl:Array (Option Value)),
  fd=VE x qual (cY st) (bP st) (aK st) .none kV doc pm an cdv ct/\K.lookup f=some ⟨oc,od,.func fd,osl⟩/\W3 K cdv qual=true
 kp:WG K (.ref f)=true
section
variable {P:S6}{w:World}{K:S2}{mg:Str->Option Value}{base:Heap}
theorem Fun.ok{x G:Str}{st:Stmt}{f:Addr}{fd:U0}{N ps:List Str}{k:Nat}{sp:Sp}(F:Fun K x G st f fd)(S:FnScope N ps (aK st))(Y:∀vs H Q E,sp vs H Q E->vs.length=ps.length)
  (M:∀(J:Value) (A:TH) (B:List Env) (s:SZ) (H:Hp) (vs:List V) (Q:VK) (E:XK), Room k (A.deeper (UT G (aK st) s.heap.objs.size f J)) -> sp vs H Q E ->
   ∃t,PSs (kC xC P w K mg base N G (aK st) f J A B s H E).nox (bP st) t/\t {nx:=λ_ H'=>Q .non H',rt:=Q} (start N vs) H):FnOk P w K mg base xC (k+1) f fd ps sp:=by
 obtain⟨oc,od,kV,aa,pm,an,J,ct,ad,rfl,lk,U⟩:=F.ex;refine OI lk U S Y λA B s H vs Q E hr W=>?_
 obtain⟨t,h,q⟩:=M J A B s H vs Q E hr W;exact⟨t,h.nox,q⟩
theorem Fun.binds{x q:Str}{st:Stmt}{f:Addr}{fd:U0}{ps:List Str}(F:Fun K x q st f fd)
  (h:∀(kV B M:Value) (J:Option Addr) (G ct:Value) (us:List Value),us.length=ps.length->bindArgs (VE x q (cY st) (bP st) (aK st) .none kV B M J G ct) ⟨us,[]⟩=pure (ps.zip us)):Binds K fd ps []:=by
 obtain⟨W,od,kV,B,M,J,G,ct,U,rfl,Y,N⟩:=F.ex;exact .all (h kV B M J G ct)
theorem D6{x q:Str}{st:Stmt}{f:Addr}{N:Value}{od J:Option Addr}{G:Array (Option Value)}{kV F M B ct:Value}(l:K.lookup f=some ⟨N,od,.func (VE x q (cY st) (bP st) (aK st) .none kV F M J B ct),G⟩)
  (c:W3 K B q=true) (k:WG K (.ref f)=true):Fun K x q st f (VE x q (cY st) (bP st) (aK st) .none kV F M J B ct):=⟨⟨N,od,kV,F,M,J,B,ct,G,rfl,l,c⟩,k⟩
end
theorem y9(q:Room k A):A.units+1<cLine:=Y3 (Nat.add_le_add_left (by decide:1<=64) _) q.units
section
variable {X:Cx}
theorem pv(i:Nat)(B:X.N[i]?=some x:=by rfl)(G:JN X.env.scope x:=by first|exact UQ rfl|exact VL (UQ rfl)|exact VL (VL rfl))(F:(x == ("__debug__" : Str))=false:=by decide)
  (q:(x == ("__classdict__" : Str))=false:=by decide):PE X (.Name x pos) (kE i):=MF B G F q
end
theorem QT{A B:Prop}(h:B):if false=true then A else B:=by
 rw[if_neg TN];exact h
theorem RC{A B:Prop}(h:A):if true=true then A else B:=by
 rw[if_pos rfl];exact h
def Same(H H':Hp):Prop:=∀b o,H b=some o->H' b=some o
theorem Same.trans(a:Same H H1)(b:Same H1 H2):Same H H2:=λc o h=>b c o (a c o h)
theorem Same.free(e:Same H H')(h:H' l=Option.none):H l=Option.none:=by
 cases q:H l with
 | none=>rfl
 | some o=>
  rw[e l o q]at h;cases h
theorem Same.seq{K:S2}{H H':Hp}{a:Addr}{xs:List V}(e:Same H H')(h:SqL K H a xs):SqL K H' a xs:=by
 rcases h with(h|⟨o,h⟩)|h
 ·exact .inl (.inl (e _ _ h))
 ·exact .inl (.inr ⟨o,e _ _ h⟩)
 ·exact .inr h
section
variable {X:Cx}
end
section
variable {κ:Type}[DecidableEq κ]
theorem xW:∀ {l:List κ} {k:κ},l.Nodup->¬ k∈l->(l++[k]).Nodup
 | [],k,_,_=>by simp
 | a::r,k,h,hk=>by
  obtain⟨h1,h2⟩:=List.nodup_cons.mp h;show(a::(r++[k])).Nodup;refine List.nodup_cons.mpr ⟨λm=>?_,xW h2 λm=>hk (List.mem_cons.mpr (VL m))⟩;rcases List.mem_append.mp m with q|q
  ·exact h1 q
  ·exact hk (List.mem_cons.mpr (UQ (List.mem_singleton.mp q).symm))
end
end L2
set_option maxHeartbeats 4000000
namespace My
open PySem PySem.Spec PyProof.Rows L2
def PM(i j:Int):Prop:=(-(10^250)<i/\i<10^250)/\-(10^250)<j/\j<10^250
section
variable {X:Cx}
def QY(K:S2):List V->Hp->VK->Prop:=λxs H Q=>∃x n t b,xs=[x,.ty n]/\TyOf K H x t/\XY K t (.type n)=some b/\Q (.bl b) H
theorem C5:CallR X (.builtin "isinstance") (QY X.K):=by
 intro pins s σ H xs J Q I r h;obtain⟨x,n,t,b,rfl,ty,e,q⟩:=h;obtain⟨u,G,rfl,F,B⟩:=vals2 r;cases B;exact AE I F ty e λtk=>⟨.bl b,H,I.tok tk,rfl,q⟩
end
structure Ok(P:S6)(w:World)(K:S2)(mg:Str->Option Value)(base:Heap)(x:Str)(k:Nat)(ps:List Str)(sp:Sp):Prop where
 ex:∃f fd,WG K (.ref f)=true/\Binds K fd ps []/\mg x=some (.ref f)/\FnOk P w K mg base xC k f fd ps sp
structure DefAt(K:S2)(mg:Str->Option Value)(x:Str)(st:Stmt)(ps:List Str):Prop where
 ex:∃f fd,Fun K x x st f fd/\Binds K fd ps []/\mg x=some (.ref f)
def MJ(sp:Sp)(t:TA):TE:=λσ H Q=>t σ H λvs H1=>sp vs H1 Q E0
section
variable {X:Cx}{x:Str}{k:Nat}{ps:List Str}{sp:Sp}{e:Expr}{es:List Expr}{t:TA}{p pos:Pos}
theorem jF(O:Ok X.prog X.w X.K X.mg X.base x k ps sp)(M:Room k X.A)(G:Gl X x)(N:PA X (e::es) t)(q:(x == ("__debug__" : Str))=false:=by decide)
  (J:S0 (e::es) X.env=(false,eval e X.env)::S0 es X.env:=by rfl) (B:(TU pos (S0 es X.env)).any (·.1)=false:=by rfl) :
  PE X (.Call (.Name x p) (e::es) [] pos) (MJ sp t):=by
 obtain⟨f,fd,U,Y,W,F⟩:=O.ex;have h:=HS (p:=p) (pos:=pos) F M G W U Y .nil OD N q J B;intro pins s σ H Q I hw;refine h pins s σ H Q I ?_;have e:(λ(vs:List V) (H1:Hp)=>sp (vs++[]) H1 Q E0)=λvs H1=>sp vs H1 Q E0:=by
  funext vs H1;rw[V6]
 show t σ H λvs H1=>sp (vs++[]) H1 Q E0
 rw[e];exact hw
end
section
variable {P:S6}{w:World}{K:S2}{mg:Str->Option Value}{base:Heap}
def BodyOk(P:S6)(w:World)(K:S2)(mg:Str->Option Value)(base:Heap)(x:Str)(st:Stmt)(N:List Str)(k:Nat)(sp:Sp):Prop:=
 ∀(f:Addr) (cdv:Value) (A:TH) (outer:List Env) (s:SZ) (H:Hp) (vs:List V) (Q:VK) (E:XK),Room k (A.deeper (UT x (aK st) s.heap.objs.size f cdv))->sp vs H Q E->
   ∃t,PSs (kC xC P w K mg base N x (aK st) f cdv A outer s H E).nox (bP st) t/\t {nx:=λ_ H'=>Q .non H',rt:=Q} (start N vs) H
theorem BodyOk.fn{x:Str}{st:Stmt}{N ps:List Str}{k:Nat}{sp:Sp}{f:Addr}{fd:U0}(B:BodyOk P w K mg base x st N k sp)(F:Fun K x x st f fd)(S:FnScope N ps (aK st))(J:∀vs H Q E,sp vs H Q E->vs.length=ps.length) :
  FnOk P w K mg base xC (k+1) f fd ps sp:=F.ok S J λG A q s H vs Q E M h=>B f G A q s H vs Q E M h
theorem BodyOk.ok{x:Str}{st:Stmt}{N ps:List Str}{k:Nat}{sp:Sp}(q:BodyOk P w K mg base x st N k sp)(D:DefAt K mg x st ps)(S:FnScope N ps (aK st))(G:∀vs H Q E,sp vs H Q E->vs.length=ps.length) :
  Ok P w K mg base x (k+1) ps sp:=by
 obtain⟨f,fd,F,B,J⟩:=D.ex;exact⟨f,fd,F.kp,B,J,q.fn F S G⟩
theorem Ok.mono(O:Ok P w K mg base x j ps sp)(h:j<=k):Ok P w K mg base x k ps sp:=by
 obtain⟨f,fd,B,G,q,F⟩:=O.ex;exact⟨f,fd,B,G,q,F.mono h⟩
end
def u4(K:S2):Sp:=λvs H Q _=>∃(a:Addr) (ns:List Int),vs=[.ref a]/\SqL K H a (ns.map V.int)/\ns.length<=63/\∀H',Q (.bl true) H'
theorem walk{l:zai}{q:S6}{B:List Str}{XP:(Str->Option Value)->Heap->Prop}{J:World->Heap->Prop}{d:DefRec}{K:Params->S2}{k:Nat}(N:k<=100)(hn:l.most=some 63)(G:d.params.defaults=[])
  (Y:∀(w:World) (h:Heap),J w h->(K w.params).In h)
  (F:∀(w:World) (mg:Str -> Option Value) (fa:Addr) (h:Heap), (K w.params).In h -> h.Ns UC mg -> mg d.name = some (.ref fa) ->
   ∃fd:U0,(∀(s:SZ) (u:Value),BindsTo s fd ⟨[u],[]⟩ [("script",u)])/\∀base:Heap,(K w.params).In base->base.Ns UC mg->FnOk l.prog w (K w.params) mg base xC k fa fd ["script"] (u4 (K w.params))) :
  PySem.W.WalkO q B XP J l.row.toRowW d [] (λf vs=>PySem.call f vs):=
 L2.FJ (n:=63) (k:=k) (x := "script") (CX:=λ_=>xC) (sp:=λw=>u4 (K w.params)) hn (by decide) G (Room.mono (k:=100) ⟨rfl,by decide,by decide⟩ N) Y F (λ_ _ a ns U _ M=>⟨a,ns,rfl,M,U,λ_=>rfl⟩) λ_ _ _ _ _ z=>z
theorem t5(h:H p=none):Same H (upd H p o):=λb u e=>by
 rw[aJ (bI e h)];exact e
theorem Same.tupR{K:S2}{H H':Hp}{a:Addr}{xs:List V}(e:Same H H')(h:SqT K H a xs):SqT K H' a xs:=by
 rcases h with(h|⟨o,h⟩)|h
 ·exact .inl (.inl (e _ _ h))
 ·exact .inl (.inr ⟨o,e _ _ h⟩)
 ·exact .inr h
theorem boot_len:TZ "len" = some (.builtin "len"):=by decide +kernel
theorem boot_max:TZ "max" = some (.builtin "max"):=by decide +kernel
theorem boot_min:TZ "min" = some (.builtin "min"):=by decide +kernel
theorem boot_isinstance:TZ "isinstance" = some (.builtin "isinstance"):=by decide +kernel
theorem boot_sorted:TZ "sorted" = some (.builtin "sorted"):=by decide +kernel
theorem boot_int:TZ "int" = some (.type "int"):=by decide +kernel
theorem boot_bool:TZ "bool" = some (.type "bool"):=by decide +kernel
theorem boot_tuple:TZ "tuple" = some (.type "tuple"):=by decide +kernel
theorem boot_list:TZ "list" = some (.type "list"):=by decide +kernel
theorem boot_str:TZ "str" = some (.type "str"):=by decide +kernel
theorem boot_range:TZ "range" = some (.type "range"):=by decide +kernel
theorem boot_all:TZ "all" = some (.builtin "all"):=by decide +kernel
end My
namespace My
open PySem PySem.Spec PyProof.Rows L2 PySem.SeqAt
inductive Dx where
 | non|bl (b:Bool)|int (i:Int)|str (x:Str)|tup (l:List Dx)|lst (l:List Dx)
mutual
def Rep(K:S2)(H:Hp):Dx->V->Prop
 | .non,v=>v=.non
 | .bl b,v=>v=.bl b
 | .int i,v=>v=.int i
 | .str x,v=>v=.str x
 | .tup l,v=>∃a xs,v=.ref a/\SqT K H a xs/\RepL K H l xs
 | .lst l,v=>∃a xs,v=.ref a/\SqL K H a xs/\RepL K H l xs
def RepL(K:S2)(H:Hp):List Dx->List V->Prop
 | [],vs=>vs=[]
 | d::ds,vs=>∃x xs,vs=x::xs/\Rep K H d x/\RepL K H ds xs
end
section
variable {K:S2}{H H':Hp}
mutual
theorem Rep.same(e:Same H H'):∀(d:Dx) (v:V),Rep K H d v->Rep K H' d v
 | .non,v,h=>by rw[Rep]at h ⊢;exact h
 | .bl b,v,h=>by rw[Rep]at h ⊢;exact h
 | .int i,v,h=>by rw[Rep]at h ⊢;exact h
 | .str x,v,h=>by rw[Rep]at h ⊢;exact h
 | .tup l,v,h=>by
  rw[Rep]at h ⊢;obtain⟨a,xs,q,h1,h2⟩:=h;exact⟨a,xs,q,Same.tupR e h1,RepL.same e l xs h2⟩
 | .lst l,v,h=>by
  rw[Rep]at h ⊢;obtain⟨a,xs,q,h1,h2⟩:=h;exact⟨a,xs,q,e.seq h1,RepL.same e l xs h2⟩
theorem RepL.same(e:Same H H'):∀(ds:List Dx) (vs:List V),RepL K H ds vs->RepL K H' ds vs
 | [],vs,h=>by rw[RepL]at h ⊢;exact h
 | d::ds,vs,h=>by
  rw[RepL]at h ⊢;obtain⟨x,xs,q,h1,h2⟩:=h;exact⟨x,xs,q,Rep.same e d x h1,RepL.same e ds xs h2⟩
end
theorem RepL.nil:RepL K H [] []:=by rw[RepL]
theorem RepL.cons(h1:Rep K H d v)(h2:RepL K H ds vs):RepL K H (d::ds) (v::vs):=by
 rw[RepL];exact⟨v,vs,rfl,h1,h2⟩
theorem RepL.length:∀ {ds:List Dx} {vs:List V},RepL K H ds vs->vs.length=ds.length
 | [],vs,h=>by rw[RepL]at h;rw[h];rfl
 | d::ds,vs,h=>by
  rw[RepL]at h;obtain⟨x,xs,rfl,_,h2⟩:=h;rw[UO,UO,RepL.length h2]
theorem RepL.get':∀ {ds:List Dx} {vs:List V} {i:Nat} {d:Dx},RepL K H ds vs->ds[i]?=some d->∃v,vs[i]?=some v/\Rep K H d v
 | [],vs,i,d,h,e=>by simp at e
 | d'::ds,vs,i,d,h,e=>by
  rw[RepL]at h;obtain⟨x,xs,rfl,h1,h2⟩:=h;cases i with
  | zero=>simp at e;subst e;exact⟨x,rfl,h1⟩
  | succ i=>exact RepL.get' (i:=i) (ds:=ds) h2 (by simpa using e)
theorem RepL.append:∀ {ds es:List Dx} {vs us:List V},RepL K H ds vs->RepL K H es us->RepL K H (ds++es) (vs++us)
 | [],es,vs,us,h,h'=>by rw[RepL]at h;rw[h];exact h'
 | d::ds,es,vs,us,h,h'=>by
  rw[RepL]at h;obtain⟨x,xs,rfl,h1,h2⟩:=h;exact RepL.cons h1 (RepL.append h2 h')
mutual
def Dx.dep:Dx->Nat
 | .tup l=>w6 l+1
 | .lst l=>w6 l+1
 | .non=>0
 | .bl _=>0
 | .int _=>0
 | .str _=>0
def w6:List Dx->Nat
 | []=>0
 | d::ds=>max d.dep (w6 ds)
end
mutual
def Dx.nb:Dx->Bool
 | .bl _=>false
 | .tup l=>JS l
 | .lst l=>JS l
 | .non=>true
 | .int _=>true
 | .str _=>true
def JS:List Dx->Bool
 | []=>true
 | d::ds=>d.nb && JS ds
end
theorem yJ:∀ {ds:List Dx} {i:Nat} {d:Dx},ds[i]?=some d->d.dep<=w6 ds
 | [],i,d,e=>by simp at e
 | d'::ds,0,d,e=>by simp at e;subst e;rw[w6];lia
 | d'::ds,i+1,d,e=>by
  have:=yJ (ds:=ds) (i:=i) (by simpa using e);rw[w6];lia
theorem wO:∀ {ds:List Dx} {i:Nat} {d:Dx},JS ds=true->ds[i]?=some d->d.nb=true
 | [],i,d,_,e=>by simp at e
 | d'::ds,0,d,h,e=>by simp at e;subst e;rw[JS,UF]at h;exact h.1
 | d'::ds,i+1,d,h,e=>by
  rw[JS,UF]at h;exact wO h.2 (by simpa using e)
end
section
variable {X:Cx}{pins:List (Addr×Obj)}{σ:L2.St}{H:Hp}{s:SZ}
theorem yG(I:Inv X pins σ H s)(h1:SqL X.K H a xs)(h2:SqT X.K H a ys):False:=by
 obtain⟨F,_,⟨o,n,e,c,_⟩,_⟩:=I.list h1;obtain⟨its',_,⟨o',q,B,_⟩,_⟩:=I.tuple h2;rw[e]at q;cases q;rw[c]at B;exact absurd B (by decide)
mutual
theorem Rep.inj(I:Inv X pins σ H s):∀(d e:Dx) (v:V),Rep X.K H d v->Rep X.K H e v->d=e
 | .non,e,v,h,h'=>by
  rw[Rep]at h;subst h;cases e <;> (rw[Rep]at h') <;> first|rfl|(cases h';done)|(obtain⟨_,_,z,_⟩:=h';cases z)
 | .bl b,e,v,h,h'=>by
  rw[Rep]at h;subst h;cases e <;> (rw[Rep]at h') <;> first|(cases h';rfl)|(cases h';done)|(obtain⟨_,_,z,_⟩:=h';cases z)
 | .int i,e,v,h,h'=>by
  rw[Rep]at h;subst h;cases e <;> (rw[Rep]at h') <;> first|(cases h';rfl)|(cases h';done)|(obtain⟨_,_,z,_⟩:=h';cases z)
 | .str x,e,v,h,h'=>by
  rw[Rep]at h;subst h;cases e <;> (rw[Rep]at h') <;> first|(cases h';rfl)|(cases h';done)|(obtain⟨_,_,z,_⟩:=h';cases z)
 | .tup l,e,v,h,h'=>by
  rw[Rep]at h;obtain⟨a,xs,rfl,h1,h2⟩:=h;cases e with
  | tup m=>
   rw[Rep]at h';obtain⟨b,ys,B,q,F⟩:=h';cases B;have G:=I.tuple_inj h1 q;subst G;rw[RepL.inj I l m xs h2 F]
  | lst m=>
   rw[Rep]at h';obtain⟨b,ys,B,q,F⟩:=h';cases B;exact(yG I q h1).elim
  | non=>rw[Rep]at h';cases h'
  | bl b=>rw[Rep]at h';cases h'
  | int i=>rw[Rep]at h';cases h'
  | str x=>rw[Rep]at h';cases h'
 | .lst l,e,v,h,h'=>by
  rw[Rep]at h;obtain⟨a,xs,rfl,h1,h2⟩:=h;cases e with
  | lst m=>
   rw[Rep]at h';obtain⟨b,ys,B,q,F⟩:=h';cases B;have G:=I.list_inj h1 q;subst G;rw[RepL.inj I l m xs h2 F]
  | tup m=>
   rw[Rep]at h';obtain⟨b,ys,B,q,F⟩:=h';cases B;exact(yG I h1 q).elim
  | non=>rw[Rep]at h';cases h'
  | bl b=>rw[Rep]at h';cases h'
  | int i=>rw[Rep]at h';cases h'
  | str x=>rw[Rep]at h';cases h'
theorem RepL.inj(I:Inv X pins σ H s):∀(ds es:List Dx) (vs:List V),RepL X.K H ds vs->RepL X.K H es vs->ds=es
 | [],es,vs,h,h'=>by
  rw[RepL]at h;subst h;cases es with
  | nil=>rfl
  | cons e es=>rw[RepL]at h';obtain⟨_,_,z,_⟩:=h';cases z
 | d::ds,es,vs,h,h'=>by
  rw[RepL]at h;obtain⟨x,xs,rfl,h1,h2⟩:=h;cases es with
  | nil=>rw[RepL]at h';cases h'
  | cons e es=>
   rw[RepL]at h';obtain⟨_,_,z,q,B⟩:=h';cases z;rw[Rep.inj I d e x h1 q,RepL.inj I ds es xs h2 B]
end
end
open Classical in
theorem rF:∀(ds es:List Dx),((UZ (min ds.length es.length)).all (λj=>decide (ds.getD j .non=es.getD j .non)) && ds.length == es.length)=decide (ds=es):=by
 intro ds es;by_cases h:ds=es
 ·subst h
  simp
 ·rw[decide_eq_false h]
  by_cases q:ds.length=es.length
  ·simp only[q,Nat.min_self,beq_self_eq_true,Bool.and_true]
   rw[Bool.eq_false_iff];intro B;rw[X3]at B;refine h (Y4 q λi h1 h2=>?_);have:=of_decide_eq_true (B i (List.mem_range.mpr h2));simpa[WJ,h1,h2]using this
  ·have:(ds.length == es.length)=false:=by simpa using q
   rw[this,Y5]
open Classical in
theorem tW(ds es:List Dx)(h:ds.length=es.length):((UZ ds.length).all (λj=>decide (ds.getD j .non=es.getD j .non)))=decide (ds=es):=by
 have:=rF ds es;rw[h,Nat.min_self,beq_self_eq_true,Bool.and_true]at this;rw[h];exact this
section
variable {X:Cx}{pins:List (Addr×Obj)}{σ:L2.St}{H:Hp}{s:SZ}
theorem EqAt.to(h:EqAt A s u v b)(e:b=c):EqAt A s u v c:=e ▸ h
open Classical in
theorem jH(I:Inv X pins σ H s){n:Nat}(ih:∀(A:TH) (d e:Dx) (x y:V) (u v:Value),d.dep<=n->A.units+n<cLine->d.nb=true->e.nb=true->Rep X.K H d x->Rep X.K H e y->RelV x u->RelV y v->EqAt A s u v (decide (d=e)))
  {A:TH} {ds es:List Dx} {xs ys:List V} {q vs:List Value} (hd:w6 ds<=n) (hu:A.units+(n+1)<cLine) (h1:JS ds=true) (h2:JS es=true) (M:RepL X.K H ds xs) (G:RepL X.K H es ys) (J:Vals xs q) (N:Vals ys vs) :
  ∀j (h1:j<q.toArray.size) (h2:j<vs.toArray.size),EqAt A.in1 s q.toArray[j] vs.toArray[j] (decide (ds.getD j .non=es.getD j .non)):=by
 intro j j1 j2;have l1:=M.length;have l2:=G.length;have l3:=J.length;have l4:=N.length;have k1:j<q.length:=by simpa using j1
 have k2:j<vs.length:=by simpa using j2
 have B:ds[j]?=some (ds.getD j .non):=by simp[WJ,show j<ds.length by lia]
 have F:es[j]?=some (es.getD j .non):=by simp[WJ,show j<es.length by lia]
 obtain⟨x,ex,Y⟩:=M.get' B;obtain⟨y,ey,W⟩:=G.get' F;obtain⟨u,U,ru⟩:=J.get ex;obtain⟨v,ev,rv⟩:=N.get ey;have b1:q.toArray[j]=u:=by
  rw[UK k1]at U;simpa using T5 U
 have b2:vs.toArray[j]=v:=by
  rw[UK k2]at ev;simpa using T5 ev
 rw[b1,b2];exact ih A.in1 _ _ x y u v (UD (yJ B) hd) (by show A.units+1+n<cLine;lia) (wO h1 B) (wO h2 F) Y W ru rv
end
section
variable {X:Cx}{pins:List (Addr×Obj)}{σ:L2.St}{H:Hp}{s:SZ}
theorem PlainL.isList(p:PlainL h a its):h.IsList a its:=by
 obtain⟨o,n,e,c,_,d⟩:=p;exact⟨o,e,c,n,d⟩
open Classical in
theorem lV(I:Inv X pins σ H s) :
  ∀(n:Nat) (A:TH) (d e:Dx) (x y:V) (u v:Value),d.dep<=n->A.units+n<cLine->d.nb=true->e.nb=true->Rep X.K H d x->Rep X.K H e y->RelV x u->RelV y v->EqAt A s u v (decide (d=e)):=by
 intro n;induction n with
 | zero=>
  intro A d e x y u v hd hu Y M W q ru F;have B:A.units<cLine:=by lia
  cases d with
  | bl b=>rw[Dx.nb]at Y;cases Y
  | tup l=>rw[Dx.dep]at hd;lia
  | lst l=>rw[Dx.dep]at hd;lia
  | non=>
   rw[Rep]at W;subst W;cases ru;cases e with
   | bl b=>rw[Dx.nb]at M;cases M
   | non=>rw[Rep]at q;subst q;cases F;exact EqAt.to (EqAt.same _) (by simp)
   | int i=>rw[Rep]at q;subst q;obtain⟨t,rfl⟩:=F;exact EqAt.to (EqAt.none_int _ _) (by simp)
   | str i=>rw[Rep]at q;subst q;obtain⟨t,rfl⟩:=F;exact EqAt.to (EqAt.none_str _ _) (by simp)
   | tup l=>
    rw[Rep]at q;obtain⟨a,xs,rfl,h1,_⟩:=q;cases F;obtain⟨J,_,G,_⟩:=I.tuple h1;exact EqAt.to (EqAt.none_tuple G B) (by simp)
   | lst l=>
    rw[Rep]at q;obtain⟨a,xs,rfl,h1,_⟩:=q;cases F;obtain⟨J,_,G,_⟩:=I.list h1;exact EqAt.to (EqAt.none_list G.isList B) (by simp)
  | int i=>
   rw[Rep]at W;subst W;obtain⟨t,rfl⟩:=ru;cases e with
   | bl b=>rw[Dx.nb]at M;cases M
   | non=>rw[Rep]at q;subst q;cases F;exact EqAt.to (EqAt.int_none _ _) (by simp)
   | int j=>rw[Rep]at q;subst q;obtain⟨t',rfl⟩:=F;exact EqAt.to (EqAt.int_int _ _ _ _) (by simp[zaj])
   | str j=>rw[Rep]at q;subst q;obtain⟨t',rfl⟩:=F;exact EqAt.to (EqAt.int_str _ _ _ _) (by simp)
   | tup l=>
    rw[Rep]at q;obtain⟨a,xs,rfl,h1,_⟩:=q;cases F;obtain⟨J,_,G,_⟩:=I.tuple h1;exact EqAt.to (EqAt.int_tuple _ _ G B) (by simp)
   | lst l=>
    rw[Rep]at q;obtain⟨a,xs,rfl,h1,_⟩:=q;cases F;obtain⟨J,_,G,_⟩:=I.list h1;exact EqAt.to (EqAt.int_list _ _ G.isList B) (by simp)
  | str i=>
   rw[Rep]at W;subst W;obtain⟨t,rfl⟩:=ru;cases e with
   | bl b=>rw[Dx.nb]at M;cases M
   | non=>rw[Rep]at q;subst q;cases F;exact EqAt.to (EqAt.str_none _ _) (by simp)
   | int j=>rw[Rep]at q;subst q;obtain⟨t',rfl⟩:=F;exact EqAt.to (EqAt.str_int _ _ _ _) (by simp)
   | str j=>rw[Rep]at q;subst q;obtain⟨t',rfl⟩:=F;exact EqAt.to (EqAt.str_str _ _ _ _) (by simp[zaj])
   | tup l=>
    rw[Rep]at q;obtain⟨a,xs,rfl,h1,_⟩:=q;cases F;obtain⟨J,_,G,_⟩:=I.tuple h1;exact EqAt.to (EqAt.str_tuple _ _ G B) (by simp)
   | lst l=>
    rw[Rep]at q;obtain⟨a,xs,rfl,h1,_⟩:=q;cases F;obtain⟨J,_,G,_⟩:=I.list h1;exact EqAt.to (EqAt.str_list _ _ G.isList B) (by simp)
 | succ n ih=>
  intro A d e x y u v hd hu Y M W q ru F;have B:A.units<cLine:=by lia
  cases d with
  | bl b=>rw[Dx.nb]at Y;cases Y
  | non=>exact ih A _ e x y u v (by rw[Dx.dep];lia) (by lia) Y M W q ru F
  | int i=>exact ih A _ e x y u v (by rw[Dx.dep];lia) (by lia) Y M W q ru F
  | str i=>exact ih A _ e x y u v (by rw[Dx.dep];lia) (by lia) Y M W q ru F
  | tup l=>
   have ab:=W;rw[Rep]at W;obtain⟨a,xs,rfl,h1,q1⟩:=W;cases ru;obtain⟨J,v1,G,_⟩:=I.tuple h1;cases e with
   | bl b=>rw[Dx.nb]at M;cases M
   | non=>rw[Rep]at q;subst q;cases F;exact EqAt.to (EqAt.tuple_none G B) (by simp)
   | int j=>rw[Rep]at q;subst q;obtain⟨t',rfl⟩:=F;exact EqAt.to (EqAt.tuple_int _ _ G B) (by simp)
   | str j=>rw[Rep]at q;subst q;obtain⟨t',rfl⟩:=F;exact EqAt.to (EqAt.tuple_str _ _ G B) (by simp)
   | lst m=>
    rw[Rep]at q;obtain⟨b,ys,rfl,h2,q2⟩:=q;cases F;obtain⟨N,v2,U,_⟩:=I.list h2;exact EqAt.to (EqAt.tuple_list G U.isList B) (by simp)
   | tup m=>
    by_cases hv:v=S9 a
    ·subst hv
     obtain rfl:y=V.ref a:=RelV.inj F rfl;have:=Rep.inj I _ _ _ ab q;rw[this];exact EqAt.to (EqAt.same _) (by simp)
    ·rw[Rep]at q;obtain⟨b,ys,rfl,h2,q2⟩:=q;cases F
     obtain⟨N,v2,U,_⟩:=I.tuple h2;rw[Dx.dep]at hd;rw[Dx.nb]at Y M;refine EqAt.to (EqAt.of_refs (λz=>hv (by rw[z])) (RcAt.tuples G U B (jH I ih (by lia) hu Y M q1 q2 v1 v2))) ?_;have e1:J.toArray.size=l.length:=by rw[TL,<- v1.length,q1.length]
     have e2:N.toArray.size=m.length:=by rw[TL,<- v2.length,q2.length]
     rw[e1,e2,rF];simp
  | lst l=>
   have ab:=W;rw[Rep]at W;obtain⟨a,xs,rfl,h1,q1⟩:=W;cases ru;obtain⟨J,v1,G,_⟩:=I.list h1;cases e with
   | bl b=>rw[Dx.nb]at M;cases M
   | non=>rw[Rep]at q;subst q;cases F;exact EqAt.to (EqAt.list_none G.isList B) (by simp)
   | int j=>rw[Rep]at q;subst q;obtain⟨t',rfl⟩:=F;exact EqAt.to (EqAt.list_int _ _ G.isList B) (by simp)
   | str j=>rw[Rep]at q;subst q;obtain⟨t',rfl⟩:=F;exact EqAt.to (EqAt.list_str _ _ G.isList B) (by simp)
   | tup m=>
    rw[Rep]at q;obtain⟨b,ys,rfl,h2,q2⟩:=q;cases F;obtain⟨N,v2,U,_⟩:=I.tuple h2;exact EqAt.to (EqAt.list_tuple G.isList U B) (by simp)
   | lst m=>
    by_cases hv:v=S9 a
    ·subst hv
     obtain rfl:y=V.ref a:=RelV.inj F rfl;have:=Rep.inj I _ _ _ ab q;rw[this];exact EqAt.to (EqAt.same _) (by simp)
    ·rw[Rep]at q;obtain⟨b,ys,rfl,h2,q2⟩:=q;cases F
     obtain⟨N,v2,U,_⟩:=I.list h2;rw[Dx.dep]at hd;rw[Dx.nb]at Y M;have e1:J.toArray.size=l.length:=by rw[TL,<- v1.length,q1.length]
     have e2:N.toArray.size=m.length:=by rw[TL,<- v2.length,q2.length]
     by_cases hl:l.length=m.length
     ·refine EqAt.to (EqAt.of_refs (λz=>hv (by rw[z])) (RcAt.lists G.isList U.isList (by rw[e1,e2,hl]) B (jH I ih (by lia) hu Y M q1 q2 v1 v2))) ?_
      rw[e1,tW _ _ hl];simp
     ·refine EqAt.to (EqAt.of_refs (λz=>hv (by rw[z])) (RcAt.lists_lengths G.isList U.isList (by rw[e1,e2];simpa using hl) B)) ?_
      rw[decide_eq_false];intro z;cases z;exact hl rfl
end
noncomputable def Dx.seq:Dx->Bool
 | .tup _=>true | .lst _=>true | .non=>false | .bl _=>false | .int _=>false | .str _=>false
open Classical in
def PZ(K:S2)(neg:Bool):R2:=λx y H Q=>∃d e,Rep K H d x/\Rep K H e y/\d.seq=true/\e.seq=true/\d.nb=true/\e.nb=true/\d.dep<=60/\Q (.bl (if neg then !decide (d=e)else decide (d=e))) H
section
variable {X:Cx}{pins:List (Addr×Obj)}{σ:L2.St}{H:Hp}{s:SZ}
open Classical in
theorem JB(I:Inv X pins σ H s)(hu:X.A.units+64<cLine)(r1:Rep X.K H d x)(J:Rep X.K H e y)(q1:d.seq=true)(M:e.seq=true)(n1:d.nb=true)(n2:e.nb=true)(hd:d.dep<=60)(ru:RelV x u)(rv:RelV y v) :
  RcAt X.A s u v (decide (d=e))/\RcNeAt X.A s u v (!decide (d=e)):=by
 have B:X.A.units<cLine:=by lia
 cases d with
 | bl b=>cases q1
 | non=>cases q1
 | int b=>cases q1
 | str b=>cases q1
 | tup l=>
  rw[Rep]at r1;obtain⟨a,xs,rfl,h1,k1⟩:=r1;cases ru;obtain⟨U,v1,G,_⟩:=I.tuple h1;have N:U.toArray.size=l.length:=by rw[TL,<- v1.length,k1.length]
  cases e with
  | bl b=>cases M
  | non=>cases M
  | int b=>cases M
  | str b=>cases M
  | tup m=>
   rw[Rep]at J;obtain⟨b,ys,rfl,h2,Y⟩:=J;cases rv;obtain⟨F,W,q,_⟩:=I.tuple h2;have e2:F.toArray.size=m.length:=by rw[TL,<- W.length,Y.length]
   rw[Dx.dep]at hd;rw[Dx.nb]at n1 n2;have he:=jH I (lV I 60) (A:=X.A) (by lia) (by lia) n1 n2 k1 Y v1 W;have a1:=RcAt.tuples G q B he;have a2:=RcNeAt.tuples G q B he;rw[N,e2,rF]at a1 a2;have z:decide (Dx.tup l=Dx.tup m)=decide (l=m):=by simp
   rw[z];exact⟨a1,a2⟩
  | lst m=>
   rw[Rep]at J;obtain⟨b,ys,rfl,h2,Y⟩:=J;cases rv;obtain⟨F,W,q,_⟩:=I.list h2;have z:decide (Dx.tup l=Dx.lst m)=false:=by simp
   rw[z];exact⟨RcAt.tuple_list G q.isList B,RcNeAt.tuple_list G q.isList B⟩
 | lst l=>
  rw[Rep]at r1;obtain⟨a,xs,rfl,h1,k1⟩:=r1;cases ru;obtain⟨U,v1,G,_⟩:=I.list h1;have N:U.toArray.size=l.length:=by rw[TL,<- v1.length,k1.length]
  cases e with
  | bl b=>cases M
  | non=>cases M
  | int b=>cases M
  | str b=>cases M
  | tup m=>
   rw[Rep]at J;obtain⟨b,ys,rfl,h2,Y⟩:=J;cases rv;obtain⟨F,W,q,_⟩:=I.tuple h2;have z:decide (Dx.lst l=Dx.tup m)=false:=by simp
   rw[z];exact⟨RcAt.list_tuple G.isList q B,RcNeAt.list_tuple G.isList q B⟩
  | lst m=>
   rw[Rep]at J;obtain⟨b,ys,rfl,h2,Y⟩:=J;cases rv;obtain⟨F,W,q,_⟩:=I.list h2;have e2:F.toArray.size=m.length:=by rw[TL,<- W.length,Y.length]
   rw[Dx.dep]at hd;rw[Dx.nb]at n1 n2;have z:decide (Dx.lst l=Dx.lst m)=decide (l=m):=by simp
   rw[z];by_cases hl:l.length=m.length
   ·have he:=jH I (lV I 60) (A:=X.A) (by lia) (by lia) n1 n2 k1 Y v1 W
    have a1:=RcAt.lists G.isList q.isList (by rw[N,e2,hl]) B he;have a2:=RcNeAt.lists G.isList q.isList (by rw[N,e2,hl]) B he;rw[N,tW _ _ hl]at a1 a2;exact⟨a1,a2⟩
   ·have z2:decide (l=m)=false:=decide_eq_false λz=>hl (by rw[z])
    rw[z2];exact⟨RcAt.lists_lengths G.isList q.isList (by rw[N,e2];simpa using hl) B,RcNeAt.lists_lengths G.isList q.isList (by rw[N,e2];simpa using hl) B⟩
end
section
variable {X:Cx}
theorem J0(U:X.A.units+64<cLine):OpR X (TJ .Eq) (PZ X.K false):=by
 intro pins s σ H x y v u Q I W B h;obtain⟨d,e,N,r2,F,J,G,M,Y,q⟩:=h;exact(JB I U N r2 F J G M Y W B).1 X.prog X.w X.xe _ ⟨.bl _,H,I,rfl,q⟩
theorem K9(U:X.A.units+64<cLine):OpR X (TJ .NotEq) (PZ X.K true):=by
 intro pins s σ H x y v u Q I W B h;obtain⟨d,e,N,r2,F,J,G,M,Y,q⟩:=h;exact(JB I U N r2 F J G M Y W B).2 X.prog X.w X.xe _ ⟨.bl _,H,I,rfl,q⟩
end
noncomputable def MU(lo c:Int)(n:Nat):It:=⟨λi _=>i<n,λi H x H'=>H'=H/\x=.int (lo+i*c),λi _=>n<=i⟩
theorem tU{P:S6}{w:World}{K:S2}{tg:Expr}(it:Addr)(lo c:Int)(n:Nat):Turn P w K tg (MU lo c n) [it] it (λi h=>YO h it (lo+(i:Nat)*c) ((n:Int)-(i:Nat)) c) where
 mem:=by simp
 obj:=λi h st b q=>by
  have e:b=it:=by simpa using q
  subst e;exact⟨_,st,λv z=>by
   have z':Data.fields _=Data.cell v:=z;cases z'⟩
 keep:=λi h h' st k=>k it (by simp) _ st
 item:=by
  intro X Y hw N U i pins s σ H E I F st J;subst Y hw N;obtain⟨f0,M,f2,G,f4,f5⟩:=F it (by simp);have W:=Walks.range (prog:=X.prog) (w:=X.w) (I.ok.hd U) it lo c n;refine W.item i s _ _ J st λv h' tk hv B kk=>?_
  obtain⟨t,rfl⟩:=hv;have I1:Inv X pins σ H {s with heap:=h',toks:=tk}:=I.turned (λb o q e=>kk b o (by simpa using q) e) f0 M G f4 f5;exact⟨_,rfl,oK (s:={s with heap:=h',toks:=tk}) (n := "range_iterator") B rfl rfl (by decide) ⟨.int (lo+i*c),H,I1,⟨t,rfl⟩,⟨rfl,rfl⟩,B,λb q=>(F b q).1⟩⟩
 done:=by
  intro X Y hw N U i pins s σ H E I F st J;subst Y hw N;obtain⟨f0,M,f2,G,f4,f5⟩:=F it (by simp);exact wpAny_pyNext_range_end (I.ok.hd U) st (by have:n<=i:=J;lia) λh' eb=>⟨rfl,I.turned (t':=s.toks) (λb o q e=>eb b o q e) f0 M G f4 f5⟩
 self:=λ_ _ _ _ _ st h=>wpAny_pyIter_rangeiter st h
noncomputable def rsz(a b c:Int):Nat:=(V4 a b c).toNat
theorem K5(a b c:Int)(q:c≠0):V4 a b c=(rsz a b c:Int):=by
 unfold rsz;have:0<=V4 a b c:=by
  unfold V4;split
  ·rename_i h
   split
   ·have:=zak (show 0<=b-a-1 by lia) (show 0<=c by lia)
    lia
   ·lia
  ·split
   ·have:=zak (show 0<=a-b-1 by lia) (show 0<=-c by lia)
    lia
   ·lia
 lia
def NR(ta:TA):TI:=λσ H R=>ta σ H λvs H1=>∃i j c:Int,vs=[.int i,.int j,.int c]/\(c≠0/\c.natAbs<1000/\W8 i j c=true)/\R (MU i c (rsz i j c)) H1
theorem AF(N:Gl X "range")(hm:X.mg "range" = none)(U:PA X [a,b,c] ta)(hs:S0 [a,b,c] X.env=[(false,eval a X.env),(false,eval b X.env),(false,eval c X.env)]:=by rfl)(J:S0 [b,c] X.env=[(false,eval b X.env),(false,eval c X.env)]:=by rfl) :
  PI X tg (.Call (.Name "range" p) [a,b,c] [] pos) (NR ta):=by
 intro pins s σ H R I h;refine Call_ (kA I N hm My.boot_range (YQ (bS (U pos pins s σ H _ I h) λus G ⟨vs,H1,I1,r1,q1⟩=>?_) (by rw[hs,J]) (by rw[J];rfl)));obtain⟨i,j,B,e,⟨c0,c1,sm⟩,q⟩:=q1;subst e;cases r1 with
 | cons r rr=>
  cases rr with
  | cons r' rr=>
   cases rr with
   | cons r'' rr=>
    cases rr;obtain⟨t,rfl⟩:=r;obtain⟨t',rfl⟩:=r';obtain⟨F,rfl⟩:=r'';refine call_range_3 c0 ?_ (UQ (PyProof.noPylong_small (by lia)));refine wpAny_pyIter_range (IsRange.new ..) sm ?_;have M:Inv X pins σ H1 {G with heap:=G.heap.push {cls:=.type "range",data:=.fields #[.int i t,.int j t',.int B F]},toks:=G.toks}:=I1.kept λb o e=>TC _ e
    refine⟨(G.heap.push {cls:=.type "range",data:=.fields #[.int i t,.int j t',.int B F]}).objs.size,[(G.heap.push {cls:=.type "range",data:=.fields #[.int i t,.int j t',.int B F]}).objs.size],_,_,H1,rfl,
     M.kept (t':=G.toks) λb o e=>TC _ e,tU _ i B (rsz i j B),?_,λb hb=>?_,q⟩
    ·show YO _ _ (i+((0:Nat):Int)*B) (((rsz i j B:Nat):Int)-((0:Nat):Int)) B
     rw[<- K5 i j B c0];have Y:i+((0:Nat):Int)*B=i:=by simp
     have W:V4 i j B-((0:Nat):Int)=V4 i j B:=by simp
     rw[Y,W];exact TV _ rfl
    ·have e:b=(G.heap.push {cls:=.type "range",data:=.fields #[.int i t,.int j t',.int B F]}).objs.size:=by simpa using hb
     subst e;exact M.fpOk (TF _) (M.hok.fresh (TF _))
theorem zL(J:1<=c)(B:c<=1000)(G:-1000000<=a)(q:a<=1000000)(M:-1000000<=b)(F:b<=1000000):W8 a b c=true:=by
 have h1:a<b->0<=(b-a-1)/c/\(b-a-1)/c<=b-a-1:=λh=>⟨zak (by lia) (by lia),Int.ediv_le_self _ (by lia)⟩
 unfold W8 V4;simp only[Builtin.Range.rangeFitsLong,UF,zal,decide_eq_true_eq,beq_iff_eq,show c>0 by lia,if_true];split
 ·rename_i h
  have:=h1 h;generalize (b-a-1)/c=z at *
  lia
 ·lia
def TSame(H H':Hp):Prop:=∀b xs,Rd H b (.tup xs)->Rd H' b (.tup xs)
theorem Same.t(e:Same H H'):TSame H H':=λb xs h=>by
 rcases h with h|⟨o,h⟩
 ·exact .inl (e _ _ h)
 ·exact .inr ⟨o,e _ _ h⟩
theorem TSame.trans(a:TSame H H1)(b:TSame H1 H2):TSame H H2:=λc o h=>b c o (a c o h)
theorem TSame.put(h:H l=some (.lst us)):TSame H (upd H l o):=λb xs q=>by
 have ne:b≠l:=λz=>by
  subst z;rcases q with q|⟨B,q⟩ <;> (rw[h]at q;cases q)
 rcases q with q|⟨B,q⟩
 ·exact .inl (by rw[aJ ne];exact q)
 ·exact .inr ⟨B,by rw[aJ ne];exact q⟩
theorem TSame.sq{K:S2}{H H':Hp}{a:Addr}{xs:List V}(e:TSame H H')(h:SqT K H a xs):SqT K H' a xs:=by
 rcases h with h|h
 ·exact .inl (e _ _ h)
 ·exact .inr h
mutual
def Dx.nl:Dx->Bool
 | .lst _=>false
 | .tup l=>QB l
 | .non=>true
 | .bl _=>true
 | .int _=>true
 | .str _=>true
def QB:List Dx->Bool
 | []=>true
 | d::ds=>d.nl && QB ds
end
section
variable {K:S2}{H H':Hp}
mutual
theorem Rep.tsame(e:TSame H H'):∀(d:Dx) (v:V),d.nl=true->Rep K H d v->Rep K H' d v
 | .non,v,_,h=>by rw[Rep]at h ⊢;exact h
 | .bl b,v,_,h=>by rw[Rep]at h ⊢;exact h
 | .int i,v,_,h=>by rw[Rep]at h ⊢;exact h
 | .str x,v,_,h=>by rw[Rep]at h ⊢;exact h
 | .tup l,v,n,h=>by
  rw[Rep]at h ⊢;rw[Dx.nl]at n;obtain⟨a,xs,q,h1,h2⟩:=h;exact⟨a,xs,q,e.sq h1,RepL.tsame e l xs n h2⟩
 | .lst l,v,n,h=>by rw[Dx.nl]at n;cases n
theorem RepL.tsame(e:TSame H H'):∀(ds:List Dx) (vs:List V),QB ds=true->RepL K H ds vs->RepL K H' ds vs
 | [],vs,_,h=>by rw[RepL]at h ⊢;exact h
 | d::ds,vs,n,h=>by
  rw[RepL]at h ⊢;rw[QB,UF]at n;obtain⟨x,xs,q,h1,h2⟩:=h;exact⟨x,xs,q,Rep.tsame e d x n.1 h1,RepL.tsame e ds xs n.2 h2⟩
end
end
theorem Same.put(e:Same H H')(h:H l=none):Same H (upd H' l o):=λb u q=>by
 rw[aJ (bI q h)];exact e b u q
def aX(X:Cx)(N:List Str)(scope:Scope)(q:List (Str×Addr))(C:Addr)(s:SZ)(H:Hp)(fp:List Addr):Cx where
 prog:=X.prog
 w:=X.w
 K:=X.K
 mg:=X.mg
 base:=X.base
 A:=X.A
 N:=N
 s₀:=s
 H₀:=H
 env:=compEnvC scope q C X.env
 outer:=X.stack
 stack:=X.stack
 ex:=fp
 fn:=λ_=>false
 calm:=X.calm
 pn:=[]
 xe:=λ_ _=>False
def BE(X:Cx)(q:List Expr)(t:TT):Prop:=
 ∀(pins:List (Addr×Obj)) (s:SZ) (σ:L2.St) (H:Hp) (Q:Bool->Hp->Prop),Inv X pins σ H s->t σ H Q->
  wpAny (model X.prog X.w) X.A (forIn q true λc r=>if r=true then do let ok <- isTrue c X.env (eval c X.env);pure (W9 ok)else pure (W9 r)) (TP X pins σ Q) X.xe s
def RG:TT:=λ_ H Q=>Q true H
theorem FG:BE X [] RG:=λpins s σ H Q I h=>wpAny_tests_nil ⟨H,I,h⟩
theorem HP(h:PT X c t):BE X [c] t:=λpins s σ H Q I hw=>wpAny_tests_one (h pins s σ H Q I hw)
structure Clo(X:Cx)(N:List Str)(scope:Scope)(cl:List (Str×Addr)):Prop where
 clos:closureFor scope X.env=pure cl
 kind:scope.kind=.function
 nocell:∀y∈scope.names,y.2≠.cell
 names:∀y∈scope.names,y.2=.local->scope.names.lookup y.1=some .local
 sub:∀x c,cl.lookup x=some c->X.env.cells.lookup x=some c
 has:∀x,((VG scope X.env).names.lookup x=some .cell\/(VG scope X.env).names.lookup x=some .free)->∃c,cl.lookup x=some c
def Start(X:Cx)(N:List Str)(scope:Scope)(σ q:L2.St):Prop:=
 q.length=N.length/\∀(j:Nat) (x:Str) (v:V),N[j]?=some x->q[j]?=some (some v)->JN (VG scope X.env) x->¬ (VG scope X.env).names.lookup x=some .local/\∃i:Nat,X.N[i]?=some x/\σ[i]?=some (some v)/\(X.env.kindOf x=some .cell\/X.env.kindOf x=some .free)
def ER(wi:TI)(g:TG)(tt:TT)(te:TE)(S:L2.St->L2.St->Prop):TE:=λσ H Q=>∃M,S σ M/\wi σ H λJ H1=>∀D,H1 D=none->∃W:Nat->Nat->L2.St->List V->Hp->Prop,(∃m,W 0 m M [] (upd H1 D (.lst []))) /\
 ∀i m F B H2,W i m F B H2->(J.stop i H2/\Q (.ref D) H2)\/(J.go i H2/\B.length<S7/\∀x U,J.yld i H2 x U->g x F U λq H4=>tt q H4 λok N=>
  if ok=true then te q N λv Y=>Y D=some (.lst B)/\∃G,G<m/\W (i+1) G q (B++[v]) (upd Y D (.lst (B++[v])))else N D=some (.lst B)/\∃G,G<m/\W (i+1) G q B N)
section
variable {X:Cx}
theorem HG(B:Inv X pins σ H3 s3)(G:Clo X N scope cl)(J:∀b∈fp,g5 X pins H3 b)(M:∀b∈fp,∃o,s3.heap.get? b=some o) :
  (aX X N scope cl s3.heap.objs.size s3 H3 fp).Ok where
 mod:=B.ok.mod
 kind:=G.kind
 glob:=B.ok.glob
 blt:=B.ok.blt
 above:=TF _
 inj:=λx y c h1 h2=>B.ok.inj x y c (G.sub x c h1) (G.sub y c h2)
 has:=λx h=>G.has x h
 cab:=λx c h _=>nomatch h
 hd:=B.ok.hd
 frames:=B.ok.frames
 stk:=.inl rfl
 exf:=λb F=>by
  obtain⟨o,e⟩:=M b F;exact⟨TY (S8 e),λx c h=>(J b F).2.2.2.2.1 x c (G.sub x c h)⟩
 bs:=B.bs
 bsz:=UD B.ok.bsz B.sz
 noex:=λb o e F=>by
  rcases(J b F).2.2.2.1 with z|z
  ·exact B.ok.noex b o e z
  ·exact absurd (UR (S8 e) B.ok.bsz) (Nat.not_lt.mpr z)
 exfs:=λb F z=>by
  rcases List.mem_cons.mp (B.stkSub b z)with q|q
  ·exact(J b F).2.1 q
  ·exact(J b F).2.2.1 q
 funs:=B.stack
 frf:=B.stkFree
theorem BQ(F:Inv X pins σ H3 s3)(J:Clo X N scope cl)(ff:∀b∈fp,g5 X pins H3 b)(fe:∀b∈fp,∃o,s3.heap.get? b=some o)
  (st:Start X N scope σ σ') (ho:s4.os=s3.os) (hg:s4.gens=s3.gens) (U:∀b o,s3.heap.get? b=some o->s4.heap.get? b=some o) (hn:s4.heap.Ns s3.heap.objs.size m) :
  Inv (aX X N scope cl s3.heap.objs.size s3 H3 fp) [] σ' H3 s4 where
 ok:=HG F J ff fe
 os:=ho
 bare:=by rw[hg];exact F.bare
 base:=Un.kept U
 loc:=by
  refine⟨m,hn,λj x v h1 h2 B=>?_⟩;obtain⟨nl,i,W,e2,q⟩:=st.2 j x v h1 h2 B;obtain⟨m0,ap,Y⟩:=F.loc;have ac:JN X.env.scope x:=by
   rcases q with q|q
   ·exact .inr (.inl q)
   ·exact .inr (.inr q)
  obtain⟨u,ru,l⟩:=Y i x v W e2 ac;refine⟨u,ru,?_⟩;rcases l with⟨lk,_⟩|⟨_,c,hc,G⟩
  ·rcases q with q|q <;> (rw[lk]at q;cases q)
  ·have kk:(VG scope X.env).names.lookup x=some .cell\/(VG scope X.env).names.lookup x=some .free:=by
    rcases B with B|B|B
    ·exact absurd B nl
    ·exact .inl B
    ·exact .inr B
   obtain⟨c',M⟩:=J.has x kk;have ec:=J.sub x c' M;rw[hc]at ec;cases ec;obtain⟨o,ab,aa⟩:=G;exact .inr ⟨kk,c,M,o,U c o ab,aa⟩
 cell:=λx c e=>by
  obtain⟨v,o,W,d1⟩:=F.cell x c (J.sub x c e);exact⟨v,o,U c o W,d1⟩
 free:=F.hok.fresh (TF _)
 freeC:=λx c e=>F.freeC x c (J.sub x c e)
 pin:=λp hp=>nomatch hp
 hok:=F.hok.kept U
 len:=st.1
theorem comp_back(I3:Inv X pins σ H3 s3)(Y:∀b∈fp,g5 X pins H3 b)
  (B:Inv (aX X N scope cl s3.heap.objs.size s3 H3 fp) [] σ5 H5 s5) (hs:UE s3.heap.objs.size s5.heap h'):Inv X pins σ H5 {s5 with heap:=h'}:=by
 have ne:∀b o,s3.heap.get? b=some o->b≠s3.heap.objs.size:=λb o e=>TY (S8 e)
 have u:=B.base;refine I3.call' (s':={s5 with heap:=h'}) (ch:=fp) B.os ⟨λb o e n G F=>?_,λb o e n G F=>?_,u.free,λb o e F=>?_,u.tups,u.frzs,u.tbls⟩ ?_ B.bare λb G=>?_
 ·exact(hs.2 b (ne b o e)).trans (u.keep b o e n G F)
 ·obtain⟨U,q⟩:=u.slot b o e n G F
  exact⟨U,(hs.2 b (ne b o e)).trans q⟩
 ·obtain⟨o',q⟩:=u.there b o e F
  exact⟨o',(hs.2 b (ne b o e)).trans q⟩
 ·intro b ob e
  have J:H5 s3.heap.objs.size=none:=B.free;refine(B.hok b ob e).stay (λc w' hc q=>(hs.2 c ?_).trans q) (λ_ q=>q) λ_ _ q=>q
  rintro rfl;rcases hc with z|z
  ·subst z;rw[J]at e;cases e
  ·rw[J]at z;cases z
 ·obtain⟨_,W,_,M,f4,f5⟩:=Y b G
  exact⟨M,W,f4,f5⟩
theorem zS(I:Nat->SZ->Prop)
  (turn:∀n s, I n s -> wpAny (model prog w) A (UN it) (λr F => match r with
   | none=>R (.ok .next) F
   | some v=>wpAny (model prog w) A (YN target it v) (λ_ q=>wpAny (model prog w) A (VR target env v) (λ_ U=>
     wpAny (model prog w) A (forIn ifs true λc r=>if r=true then do let ok <- isTrue c env (eval c env);pure (W9 ok)else pure (W9 r)) (λok B=>
      if ok=true then wpAny (model prog w) A (eval elt env) (λx G=>
       wpAny (model prog w) A (call (.builtin "list.append") [acc,x]) (λ_ N=>∃m,m<n/\I m N) (λ_ _=>False) G) (λ_ _=>False) B
      else ∃m,m<n/\I m B) (λ_ _=>False) U) (λ_ _=>False) q) (λ_ _=>False) F) (λ_ _=>False) s)
  (n:Nat) (h:I n s) :
  VD (model prog w) A (.compLoop (.ListComp elt [⟨target,iter,ifs,0⟩] scope pos) 0 it acc env) R s:=by
 refine codeAny_loop rfl I (λn s hI=>?_) n h;show wpAny _ A ((compTurn (.ListComp elt [⟨target,iter,ifs,0⟩] scope pos) 0 it acc env).onRaise (λx=>do noteFrame x env;theTreesLotGoes x)) _ _ s;refine wpAny_noted ?_;rw[compTurn_list];have Y:∀(e:Value) (s':SZ),False->notedBy (model prog w) A env (λe s'=>R (.error e) s') e s':=λ_ _ h=>h.elim
 refine SY (wpAny_standAt (SY (US (turn n s hI) (λr F J=>?_) Y)));cases r with
 | none=>exact S1 J
 | some v=>
  refine SY (US J (λ_ q W=>?_) Y);refine SY (US W (λ_ U ac=>SY (US ac (λok B M=>?_) Y)) Y);cases ok with
  | false=>exact S1 ⟨rfl,M⟩
  | true=>
   exact SY (SY (US M (λx G ab=>SY (US ab (λ_ N aa=>S1 (S1 ⟨rfl,aa⟩)) Y)) Y))
theorem pT{aq tg al:Expr}{as:List Expr}{scope:Scope}{pos:Pos}{N:List Str}{Y:List (Str×Addr)}{wi:TI}{g:TG}{tt:TT}{te:TE}{RR:Value->Addr->Result->SZ->Prop}{pins:List (Addr×Obj)}{σ ai:L2.St}{Q:VK}{J:It}{H2:Hp}{B:SZ}{it:Addr}{fp:List Addr}{tn:Nat->Heap->Prop}{E:Value->SZ->Prop}
  (hc:X.calm=true) (cc:Clo X N scope Y) (hg:∀C s H fp,PG (aX X N scope Y C s H fp) tg g) (ht:∀C s H fp,BE (aX X N scope Y C s H fp) as tt) (he:∀C s H fp,PE (aX X N scope Y C s H fp) aq te)
  (I2:Inv X pins σ H2 B) (T:Turn X.prog X.w X.K tg J fp it tn) (an:tn 0 B.heap) (f2:∀b∈fp,g5 X pins H2 b) (sS:Start X N scope σ ai)
  (q2:∀D, H2 D = none -> ∃W:Nat -> Nat -> L2.St -> List V -> Hp -> Prop, (∃m, W 0 m ai [] (upd H2 D (.lst []))) /\
   ∀i m M F H2,W i m M F H2->(J.stop i H2/\Q (.ref D) H2)\/(J.go i H2/\F.length<S7/\∀x G,J.yld i H2 x G->g x M G λaj H4=>tt aj H4 λok H5=>
    if ok=true then te aj H5 λv H6=>H6 D=some (.lst F)/\∃m',m'<m/\W (i+1) m' aj (F++[v]) (upd H6 D (.lst (F++[v])))else H5 D=some (.lst F)/\∃m',m'<m/\W (i+1) m' aj F H5))
  (bt:∀(s3 s5:SZ) (G H5:Hp) (ab:L2.St) (D:Addr),Inv X pins σ G s3->(∀b∈fp,g5 X pins G b)->Inv (aX X N scope Y s3.heap.objs.size s3 G fp) [] ab H5 s5->Q (.ref D) H5->RR (.ref D) s3.heap.objs.size (.ok .next) s5) :
  wpAny (model X.prog X.w) X.A (newList []) (λaw az=>wpAny (model X.prog X.w) X.A (newFunctionEnv scope X.env.globals Y [] X.env.qual none .none (some X.env)) (λam a1=>
   VD (model X.prog X.w) X.A (.compStart (.ListComp aq [⟨tg,al,as,0⟩] scope pos) 0 (.ref it) aw {am with scope:=VG scope X.env}) (RR aw am.locals) a1) E az) E B:=by
 refine U2 (wpAny_newFunctionEnv cc.nocell (by intro y hy;simp at hy) (λh1 ae ag=>?_) cc.kind);dsimp only at ae ag ⊢;have I3:Inv X pins σ (upd H2 B.heap.objs.size (.lst [])) {B with heap:=B.heap.push {cls:=.type "list",dict:=none,data:=.seq ([]:List Value).toArray} }:=I2.lnew (t':=B.toks) .nil (U6 _);have hD:H2 B.heap.objs.size=none:=I2.fresh;have be:∀b∈fp,b≠B.heap.objs.size:=λb q=>by
  obtain⟨o,e,_⟩:=T.obj 0 _ an b q;exact TY (S8 e)
 have fe:∀b∈fp,∃o,(B.heap.push {cls:=.type "list",dict:=none,data:=.seq ([]:List Value).toArray}).get? b=some o:=λb q=>by
  obtain⟨o,e,_⟩:=T.obj 0 _ an b q;exact⟨o,TC _ e⟩
 have f3:∀b∈fp,g5 X pins (upd H2 B.heap.objs.size (.lst [])) b:=λb q=>⟨by rw[aJ (be b q)];exact(f2 b q).1,(f2 b q).2⟩
 obtain⟨W,⟨m0,w0⟩,turn⟩:=q2 B.heap.objs.size hD;have bm:(upd H2 B.heap.objs.size (.lst [])) B.heap.objs.size=some (.lst []):=aM;generalize hs3:({B with heap:=B.heap.push {cls:=.type "list",dict:=none,data:=.seq ([]:List Value).toArray} }:SZ)=s3 at I3;have e3:B.heap.push {cls:=.type "list",dict:=none,data:=.seq ([]:List Value).toArray}=s3.heap:=by rw[<- hs3]
 rw[e3]at ae ag fe ⊢;generalize B.heap.objs.size=D at *;generalize upd H2 D (.lst [])=G at *;have ao:∀b o,s3.heap.get? b=some o->h1.get? b=some o:=λb o e=>(ag.2 b (TY (S8 e))).trans (TC _ e)
 have bc:tn 0 s3.heap:=by
  refine T.keep 0 _ _ an λb q o e=>?_
  rw[<- e3];exact TC _ e
 have ak:∀s4:SZ,s4={B with heap:=h1,toks:=B.toks+([]:List (Str×Value)).length}->
   VD (model X.prog X.w) X.A (.compLoop (.ListComp aq [⟨tg,al,as,0⟩] scope pos) 0 (.ref it) (.ref D) (compEnvC scope Y s3.heap.objs.size X.env)) (RR (.ref D) s3.heap.objs.size) s4:=by
  rintro s4 rfl;have I4:Inv (aX X N scope Y s3.heap.objs.size s3 G fp) [] ai G {B with heap:=h1,toks:=B.toks+([]:List (Str×Value)).length}:=
   BQ (m:=λx=>([]:List (Str×Value)).reverse.lookup x) I3 cc f3 fe sS (by rw[<- hs3]) (by rw[<- hs3]) ao ae
  have ap:∀ {H':Hp},(∀b∈fp,H' b=none)->∀b∈fp,g5 (aX X N scope Y s3.heap.objs.size s3 G fp) [] H' b:=λhn b q=>by
   have ok:=I4.ok;exact⟨hn b q,(ok.exf b q).1,ok.exfs b q,.inl q,(ok.exf b q).2,λp hp=>nomatch hp⟩
  refine zS (λn s'=>∃i M F H',Inv (aX X N scope Y s3.heap.objs.size s3 G fp) [] M H' s'/\tn i s'.heap/\(∀b∈fp,H' b=none)/\H' D=some (.lst F)/\W i n M F H') ?_ m0 ⟨0,ai,[],G,I4,T.keep 0 _ _ bc λb q o e=>ao b o e,λb q=>(f3 b q).1,bm,w0⟩;rintro n s5 ⟨i,ab,F,H5,I5,a4,a3,cp,w5⟩;rcases turn i n ab F H5 w5 with⟨ay,qn⟩|⟨go,ba,step⟩
  ·refine bS (T.done (aX X N scope Y s3.heap.objs.size s3 G fp) rfl rfl rfl hc i [] s5 ab H5 _ I5 (ap a3) a4 ay) λr s6 ⟨hr,I6⟩=>?_
   subst hr;exact bt s3 s6 G H5 ab D I3 f3 I6 qn
  ·refine bS (T.item (aX X N scope Y s3.heap.objs.size s3 G fp) rfl rfl rfl hc i [] s5 ab H5 _ I5 (ap a3) a4 go) λr s6 ⟨u,hr,h6⟩=>?_
   subst hr;refine bS h6 λ_ s7 ⟨x,H7,I7,r7,y7,au,bo⟩=>?_
   have bj:=I7.pinned (ap bo) (T.obj _ _ au);refine bS (hg _ _ _ _ _ s7 ab H7 x u _ bj r7 (step x H7 y7)) λ_ s8 ⟨U,H8,I8,q8⟩=>?_
   refine bS (ht _ _ _ _ _ s8 U H8 _ I8 q8) λok s9 ⟨H9,I9,q9⟩=>?_
   have fin:∀ {ac:SZ} {aa:Hp} {vs:List V},Inv (aX X N scope Y s3.heap.objs.size s3 G fp) ([]++oA fp s7.heap) U aa ac->aa D=some (.lst vs)->(∃m',m'<n/\W (i+1) m' U vs aa)->
     ∃m,m<n/\∃i M F H',Inv (aX X N scope Y s3.heap.objs.size s3 G fp) [] M H' ac/\tn i ac.heap/\(∀b∈fp,H' b=none)/\H' D=some (.lst F)/\W i m M F H':=λ{ac aa vs} ah hd ⟨m',hm,bq⟩=>by
    refine⟨m',hm,i+1,U,vs,aa,ah.unpinned,T.keep _ _ _ au λb q o e=>(ah.pin (b,o) (U9 _ (U9 _ (fA q e)))).1,λb q=>?_,hd,bq⟩;obtain⟨o,e,d⟩:=T.obj _ _ au b q;exact(ah.pin (b,o) (U9 _ (U9 _ (fA q e)))).2.1
   cases ok with
   | false=>
    rw[if_neg TN]at q9 ⊢;exact fin I9 q9.1 q9.2
   | true=>
    rw[if_pos rfl]at q9 ⊢;refine bS (he _ _ _ _ _ s9 U H9 _ I9 q9) λy ac ⟨v,aa,ah,bf,a0,br⟩=>?_
    refine bS (p7 (X:=aX X N scope Y s3.heap.objs.size s3 G fp) _ ac U aa (.ref D) [v] (.ref D) [y] (λ_ ar=>ar D=some (.lst (F++[v]))/\∃m',m'<n/\W (i+1) m' U (F++[v]) ar) ah rfl (.cons bf .nil) ⟨D,F,v,rfl,rfl,a0,ba,aM,br⟩) λ_ cw ⟨z,ar,bp,_,a5,bd⟩=>?_
    exact fin bp a5 bd
 exact codeAny_compStart_list (ak _ rfl) (T.self X.A 0 _ _ _ (T.keep 0 _ _ bc λb q o e=>ao b o e) (ak _ rfl))
theorem GF{G tg B:Expr}{F:List Expr}{scope:Scope}{pos:Pos}{N:List Str}{M:List (Str×Addr)}{wi:TI}{g:TG}{tt:TT}{te:TE}
  (hc:X.calm=true) (U:Clo X N scope M) (hi:PI X tg B wi) (hg:∀C s H fp,PG (aX X N scope M C s H fp) tg g) (ht:∀C s H fp,BE (aX X N scope M C s H fp) F tt) (he:∀C s H fp,PE (aX X N scope M C s H fp) G te)
  (hs:∀x,V5 B X.env x=pure x:=by intro _;rfl) :
  PE X (.ListComp G [⟨tg,B,F,0⟩] scope pos) (ER wi g tt te (Start X N scope)):=by
 intro pins s σ H Q I h;obtain⟨ak,sS,hw⟩:=h;rw[eval_ListComp];refine wpAny_comprehension_free (use:=none) rfl hs U.clos U.kind U.names (bS (hi pins s σ H _ I hw) λv s1 h1=>bS h1 λaj s2 h2=>?_);obtain⟨it,fp,tn,J,H2,e,I2,T,W,f2,q2⟩:=h2;subst e;refine pT (wi:=wi) (Q:=Q) (RR:=λY C=>compPost (model X.prog X.w) X.A X.xe none (EP X pins σ Q) Y C) hc U hg ht he I2 T W f2 sS q2 ?_;intro s3 s5 H3 H5 ah D I3 f3 I5 q;obtain⟨m,hn,_⟩:=id I5.loc;exact⟨m,hn,λh' aa=>⟨.ref D,H5,comp_back I3 f3 I5 aa,rfl,q⟩⟩
end
end My
namespace My
open PySem PySem.W PyProof.Rows
structure Ord(n:Nat)(lt:Nat->Nat->Bool):Prop where
 irr:∀i,i<n->lt i i=false
 tr:∀i j k,i<n->j<n->k<n->lt i j=true->lt j k=true->lt i k=true
 tot:∀i j,i<n->j<n->i≠j->lt i j=true\/lt j i=true
noncomputable def eW(n:Nat)(lt:Nat->Nat->Bool):Nat->Nat->(Bool->SZ->Prop)->SZ->Prop:=λi j C s=>i<n/\j<n/\i≠j/\C (lt i j) s
def PermR(n:Nat)(p:Array Nat):Prop:=p.Perm (X4 (UZ n))
theorem PermR.size(h:PermR n p):p.size=n:=by
 have:=Array.Perm.size_eq h;simpa using this
theorem PermR.lt(h:PermR n p)(hi:i<n):p.getD i 0<n:=by
 have hs:=h.size;have q:i<p.size:=by lia
 have e:p.getD i 0=p[i]:=by simp[XA,q]
 rw[e];have B:p[i]∈p.toList:=by simp
 have:=(Array.perm_iff_toList_perm.mp h).mem_iff.mp B;simpa using this
theorem PermR.nodup(h:PermR n p):p.toList.Nodup:=by
 have:=Array.perm_iff_toList_perm.mp h;exact this.symm.nodup (by simpa using List.nodup_range)
theorem PermR.ne(h:PermR n p)(hi:i<n)(M:j<n)(q:i≠j):p.getD i 0≠p.getD j 0:=by
 have hs:=h.size;have J:i<p.toList.length:=by rw[UL];lia
 have G:j<p.toList.length:=by rw[UL];lia
 have F:p.getD i 0=p.toList[i]:=by simp[XA,show i<p.size by lia]
 have B:p.getD j 0=p.toList[j]:=by simp[XA,show j<p.size by lia]
 rw[F,B];intro z;exact q ((XS h.nodup).mp z)
def d9(lt:Nat->Nat->Bool)(p:Array Nat)(k:Nat):Prop:=∀i j,i<j->j<k->lt (p.getD i 0) (p.getD j 0)=true
section
variable {n:Nat}{lt:Nat->Nat->Bool}(O:Ord n lt)
include O
theorem iN(B:PermR n p)(F:r<=n)(h:∀i,i+1<r->lt (p.getD i 0) (p.getD (i+1) 0)=true):d9 lt p r:=by
 intro i j q G;obtain⟨d,rfl⟩:∃d,j=i+1+d:=⟨j-i-1,by lia⟩;clear q;induction d with
 | zero=>exact h i (by lia)
 | succ d ih=>exact O.tr _ _ _ (B.lt (by lia)) (B.lt (by lia)) (B.lt (by lia)) (ih (by lia)) (h (i+1+d) (by lia))
theorem M1(q:PermR n p)(hi:i<n)(F:j<n)(B:i≠j)(h:lt (p.getD i 0) (p.getD j 0)=false):lt (p.getD j 0) (p.getD i 0)=true:=by
 rcases O.tot _ _ (q.lt hi) (q.lt F) (q.ne hi F B)with z|z
 ·rw[h]at z;cases z
 ·exact z
theorem wI(q:PermR n p):∀(f m:Nat),1<=m->m+f<=n->(∀i,i+1<m->lt (p.getD i 0) (p.getD (i+1) 0)=true)->
  (∀r,m<=r->r<=m+f->(∀i,i+1<r->lt (p.getD i 0) (p.getD (i+1) 0)=true)->(r<m+f->lt (p.getD r 0) (p.getD (r-1) 0)=true)->G r s)->(kas_asc p f m).kasWp (eW n lt) G s
 | 0,m,h1,h2,ha,hG=>hG m (TF _) (TF _) ha λz=>absurd z (by lia)
 | f+1,m,h1,h2,ha,hG=>by
  show eW n lt _ _ _ s;refine⟨q.lt (by lia),q.lt (by lia),q.ne (by lia) (by lia) (by lia),?_⟩;cases hc:lt (p.getD m 0) (p.getD (m-1) 0)with
  | true=>
   show(KasT.ret m).kasWp (eW n lt) G s;exact hG m (TF _) (by lia) ha λ_=>hc
  | false=>
   show(kas_asc p f (m+1)).kasWp (eW n lt) G s;refine wI q f (m+1) (by lia) (by lia) (λi hi=>?_) (λr N M J B=>hG r (by lia) (by lia) J λz=>B (by lia));by_cases e:i+1<m
   ·exact ha i e
   ·have:i=m-1:=by lia
    subst this;have F:m-1+1=m:=by lia
    rw[F];exact M1 O q (by lia) (by lia) (by lia) hc
theorem xG(q:PermR n p):∀(f m:Nat),1<=m->m+f<=n->(∀i,i+1<m->lt (p.getD (i+1) 0) (p.getD i 0)=true)->
  (∀r,m<=r->r<=m+f->(∀i,i+1<r->lt (p.getD (i+1) 0) (p.getD i 0)=true)->G (p,r,0) s)->(kas_desc f p m 0).kasWp (eW n lt) G s
 | 0,m,h1,h2,ha,hG=>hG m (TF _) (TF _) ha
 | f+1,m,h1,h2,ha,hG=>by
  show eW n lt _ _ _ s;refine⟨q.lt (by lia),q.lt (by lia),q.ne (by lia) (by lia) (by lia),?_⟩;cases hc:lt (p.getD m 0) (p.getD (m-1) 0)with
  | true=>
   show(kas_desc f p (m+1) 0).kasWp (eW n lt) G s;refine xG q f (m+1) (by lia) (by lia) (λi hi=>?_) (λr M J F=>hG r (by lia) (by lia) F);by_cases e:i+1<m
   ·exact ha i e
   ·have:i=m-1:=by lia
    subst this;have B:m-1+1=m:=by lia
    rw[B];exact hc
  | false=>
   show eW n lt _ _ _ s;refine⟨q.lt (by lia),q.lt (by lia),q.ne (by lia) (by lia) (by lia),?_⟩;rw[M1 O q (by lia) (by lia) (by lia) hc];exact hG m (TF _) (by lia) ha
theorem DG(B:PermR n p)(F:r<=n)(k:Nat):(kas_rev p 0 r).getD k 0=if k<r then p.getD (r-1-k) 0 else p.getD k 0:=by
 have hs:=B.size;have e:=getElem?_mirror_all (xs:=p) (i:=0) (j:=r) (by lia) k;have g:∀(q:Array Nat) (k:Nat),q.getD k 0=(q[k]?).getD 0:=λq k=>by
  by_cases h:k<q.size <;> simp[XA,h]
 unfold kas_rev;rw[g,e];by_cases h:k<r
 ·rw[if_pos ⟨U6 _,h⟩,if_pos h,g]
  congr 2
  lia
 ·rw[if_neg (λz=>h z.2),if_neg h,g]
omit O in
theorem B1(q:PermR n p)(r:Nat):PermR n (kas_rev p 0 r):=(mirror_perm p 0 r _).trans q
theorem B9(q:PermR n p)(hn:1<=n)(N:∀m U,1<=m->m<=n->PermR n U->d9 lt U m->G (m,U) s):(kas_count n p).kasWp (eW n lt) G s:=by
 unfold kas_count;rw[KasT.kasWp_bind];refine wI O q (n-1) 1 (TF _) (by lia) (λi hi=>absurd hi (by lia)) λr h1 h2 Y h4=>?_
 by_cases e:r=n
 ·have:(r == n)=true:=by simp[e]
  rw[if_pos this];exact N r p h1 (by lia) q (iN O q (by lia) Y)
 ·have:¬ (r == n)=true:=by simp[e]
  rw[if_neg this];have hs:=iN O q (r:=r) (by lia) Y;by_cases h5:r>1
  ·rw[if_pos h5]
   show eW n lt _ _ _ s;refine⟨q.lt (by lia),q.lt (by lia),q.ne (by lia) (by lia) (by lia),?_⟩;rw[hs 0 (r-1) (by lia) (by lia)];exact N r p h1 (by lia) q hs
  ·rw[if_neg h5]
   have r1:r=1:=by lia
   subst r1;unfold kas_descPart;rw[KasT.kasWp_bind];have M:=h4 (by lia);refine xG O q (n-(1+1)) (1+1) (by lia) (by lia) (λi hi=>?_) λB h6 h7 h8=>?_
   ·have:i=0:=by lia
    subst this;exact M
   ·show(kas_tail3 B n p).kasWp (eW n lt) G s
    unfold kas_tail3;rw[KasT.kasWp_bind];have J:B<=n:=by lia
    have F:PermR n (kas_rev p 0 B):=B1 q B;refine wI O F (n-B) B (by lia) (by lia) (λi hi=>?_) λm h9 ab W _=>?_
    ·rw[DG O q J,DG O q J,if_pos (by lia),if_pos hi]
     have:=h8 (B-1-(i+1)) (by lia);have e2:B-1-(i+1)+1=B-1-i:=by lia
     rw[e2]at this;exact this
    ·exact N m _ (by lia) (by lia) F (iN O F (by lia) W)
theorem nM(q:PermR n p)(M:k<n)(hs:d9 lt p k):∀(f l r:Nat),l<=r->r<=k->r-l<=f->(∀i,i<l->lt (p.getD i 0) (p.getD k 0)=true)->(∀i,r<=i->i<k->lt (p.getD k 0) (p.getD i 0)=true)->
  (∀l,l<=k->(∀i,i<l->lt (p.getD i 0) (p.getD k 0)=true)->(∀i,l<=i->i<k->lt (p.getD k 0) (p.getD i 0)=true)->G l s)->(kas_place p k f l r).kasWp (eW n lt) G s
 | 0,l,r,h1,h2,h3,h4,h5,hG=>by
  have:l=r:=by lia
  subst this;exact hG l h2 h4 h5
 | f+1,l,r,h1,h2,h3,h4,h5,hG=>by
  unfold kas_place;by_cases e:l ≥ r
  ·rw[if_pos e]
   have:l=r:=by lia
   subst this;exact hG l h2 h4 h5
  ·rw[if_neg e]
   show eW n lt _ _ _ s;refine⟨q.lt (by lia),q.lt (by lia),q.ne (by lia) (by lia) (by lia),?_⟩;have U:(l+r)/2<k:=by lia
   have F:l<=(l+r)/2:=by lia
   have N:(l+r)/2<r:=by lia
   generalize (l+r)/2=mid at *;cases hc:lt (p.getD k 0) (p.getD mid 0)with
   | true=>
    show(kas_place p k f l mid).kasWp (eW n lt) G s;refine nM q M hs f l mid F (by lia) (by lia) h4 (λi hi J=>?_) hG;by_cases z:i=mid
    ·rw[z];exact hc
    ·exact O.tr _ _ _ (q.lt (by lia)) (q.lt (by lia)) (q.lt (by lia)) hc (hs mid i (by lia) J)
   | false=>
    show(kas_place p k f (mid+1) r).kasWp (eW n lt) G s;have B:=M1 O q (by lia) (by lia) (by lia) hc;refine nM q M hs f (mid+1) r (by lia) h2 (by lia) (λi hi=>?_) h5 hG;by_cases z:i=mid
    ·rw[z];exact B
    ·exact O.tr _ _ _ (q.lt (by lia)) (q.lt (by lia)) (q.lt (by lia)) (hs i mid (by lia) U) B
theorem EJ(F:PermR n p)(J:k<n)(G:l<=k)(j:Nat):(bubble p k (k-l)).getD j 0=if j=l then p.getD k 0 else if l<j/\j<=k then p.getD (j-1) 0 else p.getD j 0:=by
 have hs:=F.size;have e:=getElem?_bubble (xs:=p) (src:=k) (by lia) (k-l) (by lia) j;have g:∀(q:Array Nat) (k:Nat),q.getD k 0=(q[k]?).getD 0:=λq k=>by
  by_cases h:k<q.size <;> simp[XA,h]
 have B:k-(k-l)=l:=by lia
 rw[B]at e;rw[g,e];by_cases h:j=l
 ·rw[if_pos h,if_pos h,g]
 ·rw[if_neg h,if_neg h]
  by_cases h2:l<j/\j<=k
  ·rw[if_pos h2,if_pos h2,g]
  ·rw[if_neg h2,if_neg h2,g]
theorem EA(F:∀p,PermR n p->d9 lt p n->G p s):∀(f:Nat) (p:Array Nat) (k:Nat),k+f=n->PermR n p->d9 lt p k->(kas_bin f p k).kasWp (eW n lt) G s
 | 0,p,k,h1,hp,hs=>by
  have:k=n:=by lia
  subst this;exact F p hp hs
 | f+1,p,k,h1,hp,hs=>by
  unfold kas_bin;rw[KasT.kasWp_bind];have q:k<n:=by lia
  refine nM O hp q hs k 0 k (U6 _) (TF _) (by lia) (λi hi=>absurd hi (by lia)) (λi h2 h3=>absurd h3 (by lia)) λl W Y h5=>?_
  refine EA F f _ (k+1) (by lia) ((bubble_perm p k _).trans hp) λi j B hj=>?_
  rw[EJ O hp q W,EJ O hp q W];by_cases N:i=l
  ·rw[if_pos N,if_neg (by lia),if_pos (by lia)]
   exact h5 (j-1) (by lia) (by lia)
  ·rw[if_neg N]
   by_cases M:j=l
   ·rw[if_pos M,if_neg (by lia)]
    exact Y i (by lia)
   ·rw[if_neg M]
    by_cases J:l<i/\i<=k
    ·rw[if_pos J,if_pos (by lia)]
     exact hs (i-1) (j-1) (by lia) (by lia)
    ·rw[if_neg J]
     by_cases U:l<j/\j<=k
     ·rw[if_pos U]
      by_cases c:i=j-1
      ·lia
      ·exact hs i (j-1) (by lia) (by lia)
     ·rw[if_neg U]
      exact hs i j B (by lia)
theorem HN(J:1<=n)(B:∀p,PermR n p->d9 lt p n->G p s):(kas_sort n).kasWp (eW n lt) G s:=by
 unfold kas_sort;rw[KasT.kasWp_bind];refine B9 O (Array.Perm.refl _) J λm q h1 h2 F hs=>?_
 show(if m<n then kas_bin (n-max m 1) q (max m 1)else KasT.ret q).kasWp (eW n lt) G s;have e:max m 1=m:=by lia
 rw[e];by_cases h:m<n
 ·rw[if_pos h]
  exact EA O B (n-m) q m (by lia) F hs
 ·rw[if_neg h]
  have:m=n:=by lia
  subst this;exact B q F hs
end
theorem yE{q:Type}{n:Nat}{lt:Nat->Nat->Bool}{c:Nat->Nat->(Bool->SZ->Prop)->SZ->Prop}(B:∀i j C,i<n->j<n->i≠j->C (lt i j) s->c i j C s){Q:q->SZ->Prop}:∀(t:KasT q),t.kasWp (eW n lt) Q s->t.kasWp c Q s
 | .ret a,h=>h
 | .ask i j k,h=>by
  obtain⟨h1,h2,F,G⟩:=(show i<n/\j<n/\i≠j/\(k (lt i j)).kasWp (eW n lt) Q s from h);exact B i j _ h1 h2 F (yE B (k (lt i j)) G)
end My
namespace My
open PySem PySem.Spec PyProof.Rows PySem.W
section
variable {prog:S6}{w:World}{A:TH}{E:Value->SZ->Prop}{s:SZ}{it d:Addr}{i ep:Nat}{od:Obj}{es:Array VJ}
def RawD(h:Heap)(d:Addr)(es:Array VJ)(ep:Nat):Prop:=∃o,h.get? d=some o/\o.ExactDict/\o.data=.dict es ep
theorem RawD.at'(x:RawD h d es ep)(k:∀o,h.get? d=some o->h'.get? d=some o):RawD h' d es ep:=let ⟨o,a,b⟩:=x;⟨o,k o a,b⟩
theorem RawD.typ(x:RawD s.heap d es ep):s.TypeIs (.ref d) "dict" := let ⟨o,a,b,_⟩:=x;⟨o,a,b.1⟩
theorem t4(N:(d == UY)=false)(B:RawD s.heap d es ep)
  (M:Q (.ref s.heap.objs.size) {s with heap:=s.heap.push {cls:=.type "dict_keyiterator",data:=.fields #[.ref d,.int 0 0,.int es.size 0,.int ep 0]} }):wpAny (model prog w) A (pyIter (.ref d)) Q E s:=by
 have q:=B.typ;obtain⟨o,G,U,J⟩:=B;refine wpAny_pyIter_slot q PySem.F.slot_dict_iter (U1 PySem.F.slot_dict_iter q PySem.F.entry_dict_iter ?_ (PySem.F.args_dict_iter_1 _));unfold VV.«dict.__iter__»;refine SY ?_;unfold Builtin.Dict.dictSlotNone;refine SY (wpAny_notOrdered_dict q ?_);show wpAny _ _ (pure (S9 d)) _ _ s;refine S1 ?_;show wpAny _ _ (Y6 d >>= _) _ _ s;unfold Y6;rw[if_neg (by rw[N];exact TN)];refine SY (S1 (SY (XB G J (SY (XC G J ?_)))));refine SY (U2 (S1 ⟨_,rfl, "dict_keyiterator",_,⟨_,TV _ rfl,rfl⟩,PySem.F.slot_dict_keyiterator_next.lookup,?_⟩));simpa[UH]using M
theorem t7(B:s.heap.IsKeyIter it d i es.size ep)(N:RawD s.heap d es ep)(Y:i<es.size)
  (W:∀h',h'.IsKeyIter it d (i+1) es.size ep->UE it s.heap h'->Q (some es[i].key) {s with heap:=h'}):wpAny (model prog w) A (UN (.ref it)) Q E s:=by
 have q:=B.typeIs;obtain⟨o,G,U,F⟩:=id B;obtain⟨od,J,g2,M⟩:=N;unfold UN;refine SY (XD (VY (name:=U5 "__next__") q Y7 (U1 Y7 q zaz ?_ (zaA _))));refine SY (S1 (SY (SY ?_)))
 first|refine SY (Y8 q (S1 ?_))|refine SY (Y9 q (S1 ?_))
 refine SY (ZA G F ?_);simp only[show X5 "dict_keyiterator" = false by decide,WA,if_false];show wpAny _ _ (if(S9 d == T1)=true then _ else _) _ _ s;rw[if_neg (show ¬ ((S9 d == T1)=true)from TN)];refine SY (S1 (SY (XB J M ?_)));rw[if_neg (by simp)];refine SY (S1 (SY (XC J M ?_)));rw[if_neg (by simp)];refine S1 ?_;simp only[show ¬ ((i:Int)<0)from by lia,if_false,VM,zam Y];refine SY ?_;first|refine SY (Y8 q (S1 ?_))|refine SY (Y9 q (S1 ?_))
 refine SY (wpAny_isOneOf_keyiter q ?_);show wpAny _ _ (XE (.ref it) 1 (UH ((i:Int)+1)) >>= _) _ _ s;refine SY (X6 G F (by simp) ?_);have nx:(s.heap.update it (Obj.mapFields (·.setIfInBounds 1 (UH ((i:Int)+1))))).IsKeyIter it d (i+1) es.size ep:=⟨_,WI _ G (Obj.isFreed_of_fields (ZC F _)),(Obj.cls_mapFields ..).trans U,by rw[ZC F];simp[UH]⟩;refine SY (U8 (SY (wpAny_isOneOf_keyiter (s:={s with heap:=s.heap.update it (Obj.mapFields (·.setIfInBounds 1 (UH ((i:Int)+1))))}) nx.typeIs ?_)));show wpAny _ _ (pure es[i].key) _ _ _;exact S1 (S1 ⟨_,rfl,S1 (W _ nx (WX ..))⟩)
theorem xX(U:A.handled=none)(B:s.heap.IsKeyIter it d i es.size ep)(N:RawD s.heap d es ep)(Y:es.size<=i)
  (W:∀h',X7 it s.heap h'->Q none {s with heap:=h'}):wpAny (model prog w) A (UN (.ref it)) Q E s:=by
 have q:=B.typeIs;obtain⟨o,M,hc,F⟩:=id B;obtain⟨od,G,g2,J⟩:=N;unfold UN;refine SY (XD (VY (name:=U5 "__next__") q Y7 (U1 Y7 q zaz ?_ (zaA _))));refine SY (S1 (SY (SY ?_)))
 first|refine SY (Y8 q (S1 ?_))|refine SY (Y9 q (S1 ?_))
 refine SY (ZA M F ?_);simp only[show X5 "dict_keyiterator" = false by decide,WA,if_false];show wpAny _ _ (if(S9 d == T1)=true then _ else _) _ _ s;rw[if_neg (show ¬ ((S9 d == T1)=true)from TN)];refine SY (S1 (SY (XB G J ?_)));rw[if_neg (by simp)];refine SY (S1 (SY (XC G J ?_)));rw[if_neg (by simp)];refine S1 ?_;simp only[show ¬ ((i:Int)<0)from by lia,if_false,VM,Array.getElem?_eq_none Y];refine SY ?_;first|refine SY (Y8 q (S1 ?_))|refine SY (Y9 q (S1 ?_))
 show wpAny _ _ (XE (.ref it) 0 .none >>= _) _ _ s;refine SY (X6 M F (by simp) ?_);show wpAny _ _ (newExc (.type "StopIteration") [] >>= _) _ _ _;refine SY ?_;simp only[newExc,newTuple];refine SY (U2 ?_ (by size_fits));refine SY (m:=XF _ _) (ZD (a:=T1) (by first|rfl|(simp only[XF];rfl)) ?_)
 refine U2 ?_ (by size_fits);simp only[raiseNew];refine SY (wpAny_handled ?_);rw[show A.in1.handled=none from U];refine SY (S1 (wpAny_throw ?_));refine SY (zan (T := "StopIteration") (b:=true) ⟨_,TV _ rfl,rfl⟩ isSubtype_stop ?_);exact S1 (W _ (((WX ..).extBut.push _).push _))
theorem zG(M:A.handled=none)(I d:Addr)(F:d≠I)(es:Array VJ)(ep:Nat) :
  Walks prog w A I [I,d] [I] es.size (λi v=>∃e,es[i]?=some e/\e.key=v) (λi h=>h.IsKeyIter I d i es.size ep/\RawD h d es ep) where
 sub:=λb q=>by simp at q;simp[q]
 frame:=λ_ _ _ st J=>⟨st.1.at λo e=>J I (by simp) o e,st.2.at' λo e=>J d (by simp) o e⟩
 item:=λi s Q E hi st B=>t7 st.1 st.2 hi λh' a b=>B es[i].key h' s.toks ⟨es[i],by simp[hi],rfl⟩ ⟨a,st.2.at' λo e=>b.extBut d o F e⟩ λc o q e=>b.extBut c o (λh=>q (by simp[h])) e
 done:=λs Q E st B=>xX M st.1 st.2 (TF _) λh' G=>B h' s.toks λb o q e=>G b o (λh=>q (by simp[h])) e
 self:=λ_ _ _ _ st B=>wpAny_pyIter_keyiter st.1 B
theorem CA(lo:(d == UY)=false)(es:Array VJ)(ep:Nat):KdlSrc prog w "dict" d d es.size (λi v=>∃e,es[i]?=some e/\e.key=v) (λh=>RawD h d es ep) where
 type:=λs h=>h.typ
 there:=λh x=>by
  obtain⟨o,e,_⟩:=x;exact⟨S8 e,S8 e⟩
 keep:=λh h' x k=>x.at' λo e=>k d (.inl rfl) o e
 notList:=by decide
 notTuple:=by decide
 hint:=λA E s Q h q=>kdl_hint_dict h.typ q
 iter:=λA s F ok=>by
  have B:d<s.heap.objs.size:=by
   obtain⟨o,e,_⟩:=ok;exact S8 e
  exact⟨_,_,λE Q q=>t4 lo ok q,zG F _ d (TY B) es ep,⟨_,TV _ rfl,rfl,rfl⟩,ok.at' λo e=>TC _ e⟩
def zF(h:Heap)(it d:Addr)(i n ep:Nat)(q fl:Value)(ok B:Value):Prop:=
 h.get? it=some {cls:=.type "dict_itemiterator",dict:=none,data:=.fields #[q,fl,.ref d,.int i 0,.int n 0,.int ep 0,ok,B],slots:=#[]}
def ItSt(h:Heap)(it d S:Addr)(i n ep:Nat):Prop:=
 (i=0/\∃ok q,zF h it d i n ep .none (.bool false) ok q)\/∃ok q a f B,zF h it d i n ep (UH (a:Nat)) (.bool f) ok q/\h.get? a=some B/\a≠it/\a≠S
theorem pG(B:zF s.heap it d i es.size ep own fl ok ov)(U:RawD s.heap d es ep)(hx:i<es.size)
  (hQ:∀h1:Heap, zF h1 it d (i+1) es.size ep own fl ok ov -> UE it s.heap h1 ->
   wpAny (model prog w) A.in1 (ZE (.ref it) 6 es[i].key es[i].val) (λv s'=>Q (some v) s') (λ_ _=>False) {s with heap:=h1}):wpAny (model prog w) A (UN (.ref it)) Q E s:=by
 obtain⟨od,M,g2,N⟩:=U;have F:s.TypeIs (.ref it) "dict_itemiterator" := ⟨_,B,rfl⟩;unfold UN;refine SY (XD (VY (name:=U5 "__next__") F ZF (U1 ZF F zaB ?_ (zaC _))));refine SY (S1 (SY (SY ?_)))
 first|refine SY (ZG F (S1 ?_))|refine SY (ZH F (S1 ?_))
 refine SY (ZA B rfl ?_);simp only[show X5 "dict_itemiterator" = true by decide,if_true];show wpAny _ _ (if(S9 d == T1)=true then _ else _) _ _ s;rw[if_neg (show ¬ ((S9 d == T1)=true)from TN)];refine SY (S1 (SY (XB M N ?_)));rw[if_neg (by simp)];refine SY (S1 (SY (XC M N ?_)));rw[if_neg (by simp)];refine S1 ?_;simp only[show ¬ ((i:Int)<0)from by lia,if_false,VM,zam hx];refine SY ?_;first|refine SY (ZG F (S1 ?_))|refine SY (ZH F (S1 ?_))
 refine SY (zao F ?_);show wpAny _ _ (XE (.ref it) 3 (UH ((i:Int)+1)) >>= _) _ _ s;refine SY (VN B (by simp) λh1 W Y=>?_);have J:zF h1 it d (i+1) es.size ep own fl ok ov:=by
  have e:((i+1:Nat):Int)=(i:Int)+1:=by lia
  unfold zF;rw[e];simpa[UH]using W
 have G:Shared.TypeIs {s with heap:=h1} (.ref it) "dict_itemiterator" := ⟨_,J,rfl⟩;refine SY (U8 (SY (zao G ?_)));refine SY (zao G ?_);show wpAny _ _ (ZE (.ref it) 6 es[i].key es[i].val) _ _ {s with heap:=h1};exact US (hQ h1 J Y) (λv s' q=>S1 ⟨_,rfl,S1 q⟩) λ_ _ z=>z.elim
theorem AM(aa:ItSt s.heap it d S i es.size ep)(hS:S<s.heap.objs.size)(hm:RawD s.heap d es ep)(hx:i<es.size)
  (hQ:∀h', ItSt h' it d S (i+1) es.size ep -> h'.get? s.heap.objs.size = some {cls := .type "tuple", data := .seq #[es[i].key, es[i].val]} -> h'.objs.size = s.heap.objs.size+1 ->
   (∀b o,b≠it->s.heap.get? b=some o->h'.get? b=some o)->Q (some (.ref s.heap.objs.size)) {s with heap:=h'}):wpAny (model prog w) A (UN (.ref it)) Q E s:=by
 have M:it<s.heap.objs.size:=by
  rcases aa with⟨_,ok,U,B⟩|⟨ok,U,a,f,oa,B,_⟩ <;> exact S8 B
 rcases aa with⟨_,ok,U,B⟩|⟨ok,U,a,f,oa,B,ha,G,ao⟩
 ·refine pG B hm hx λh1 k1 k2=>?_
  have W:h1.objs.size=s.heap.objs.size:=k2.1;unfold ZE;refine SY (ZI ?_);have J:zF (h1.push {cls:=.type "tuple",data:=.seq #[es[i].key,es[i].val]}) it d (i+1) es.size ep .none (.bool false) ok U:=TC _ k1;have m2:(h1.push {cls:=.type "tuple",data:=.seq #[es[i].key,es[i].val]}).get? s.heap.objs.size=some {cls:=.type "tuple",data:=.seq #[es[i].key,es[i].val]}:=by rw[<- W];exact TV _ rfl
  have m3:(h1.push {cls:=.type "tuple",data:=.seq #[es[i].key,es[i].val]}).objs.size=s.heap.objs.size+1:=by rw[X8,W]
  have m4:∀b o,b≠it->s.heap.get? b=some o->(h1.push {cls:=.type "tuple",data:=.seq #[es[i].key,es[i].val]}).get? b=some o:=λb o q e=>TC _ (k2.extBut b o q e)
  show wpAny _ _ (ZJ (.ref it) >>= _) _ _ {s with heap:=h1.push {cls:=.type "tuple",data:=.seq #[es[i].key,es[i].val]} };dsimp only;rw[W];generalize h1.push {cls:=.type "tuple",data:=.seq #[es[i].key,es[i].val]}=h2 at *;refine SY ?_;unfold ZJ;refine SY (UP J rfl (x:=.none) rfl (S1 ?_));simp only[if_true];refine SY (UP J rfl (x:=ok) rfl (SY (UP J rfl (x:=U) rfl ?_)));refine SY (VN J (by simp) λF e3 N=>?_);have ai:zF F it d (i+1) es.size ep .none (.bool false) es[i].key U:=e3;refine SY (VN ai (by simp) λh4 e4 s4=>?_);have an:zF h4 it d (i+1) es.size ep .none (.bool false) es[i].key es[i].val:=e4;refine SY (VN an (by simp) λh5 e5 s5=>?_);have al:zF h5 it d (i+1) es.size ep (UH (s.heap.objs.size:Nat)) (.bool false) es[i].key es[i].val:=e5;refine SY (VN al (by simp) λY e6 s6=>?_);have am:zF Y it d (i+1) es.size ep (UH (s.heap.objs.size:Nat)) (.bool false) es[i].key es[i].val:=e6;have ex:∀b o,b≠it->h2.get? b=some o->Y.get? b=some o:=λb o q e=>(show UE it h5 Y from s6).extBut b o q ((show UE it h4 h5 from s5).extBut b o q ((show UE it F h4 from s4).extBut b o q ((show UE it h2 F from N).extBut b o q e)))
  have sz:Y.objs.size=s.heap.objs.size+1:=by
   rw[(show UE it h5 Y from s6).1,(show UE it h4 h5 from s5).1,(show UE it F h4 from s4).1,(show UE it h2 F from N).1,m3]
  exact SY (XG (S1 (hQ Y (.inr ⟨_,_,_,false,_,am,ex _ _ (UG M) m2,UG M,UG hS⟩) (ex _ _ (UG M) m2) sz λb o q e=>ex b o q (m4 b o q e))))
 ·refine pG B hm hx λh1 k1 k2=>?_
  have W:h1.objs.size=s.heap.objs.size:=k2.1;unfold ZE;refine SY (ZI ?_);have J:zF (h1.push {cls:=.type "tuple",data:=.seq #[es[i].key,es[i].val]}) it d (i+1) es.size ep (UH (a:Nat)) (.bool f) ok U:=TC _ k1;have m2:(h1.push {cls:=.type "tuple",data:=.seq #[es[i].key,es[i].val]}).get? s.heap.objs.size=some {cls:=.type "tuple",data:=.seq #[es[i].key,es[i].val]}:=by rw[<- W];exact TV _ rfl
  have m3:(h1.push {cls:=.type "tuple",data:=.seq #[es[i].key,es[i].val]}).objs.size=s.heap.objs.size+1:=by rw[X8,W]
  have m4:∀b o,b≠it->s.heap.get? b=some o->(h1.push {cls:=.type "tuple",data:=.seq #[es[i].key,es[i].val]}).get? b=some o:=λb o q e=>TC _ (k2.extBut b o q e)
  show wpAny _ _ (ZJ (.ref it) >>= _) _ _ {s with heap:=h1.push {cls:=.type "tuple",data:=.seq #[es[i].key,es[i].val]} };dsimp only;rw[W];generalize h1.push {cls:=.type "tuple",data:=.seq #[es[i].key,es[i].val]}=h2 at *;refine SY ?_;unfold ZJ;refine SY (UP J rfl (x:=UH (a:Nat)) rfl ?_);show wpAny _ _ (loadIfAlive ((a:Int).toNat) >>= _) _ _ _;rw[VM];refine SY (kdx_alive (m4 a oa G ha) ?_);simp only[Option.isNone_some,WA,if_false];refine SY (UP J rfl (x:=.bool f) rfl ?_);have fin:∀F:Heap,zF F it d (i+1) es.size ep (UH (a:Nat)) (.bool true) ok U->UE it h2 F->Q (some (.ref s.heap.objs.size)) {s with heap:=F}:=λF e3 N=>
   hQ F (.inr ⟨_,_,a,true,oa,e3,N.extBut a oa G (m4 a oa G ha),G,ao⟩) (N.extBut _ _ (UG M) m2) (by rw[N.1,m3]) λb o q e=>N.extBut b o q (m4 b o q e)
  cases f with
  | true=>
   rw[if_neg (show ¬ ((WD true != WD true)=true)from TN)];refine S1 ?_;simp only[WA,if_false];exact S1 (fin h2 J (Heap.SameBut.refl _ _))
  | false=>
   rw[if_pos (show(WD false != WD true)=true from rfl)];refine SY (VN J (by simp) λF e3 N=>?_);refine S1 ?_;simp only[WA,if_false];exact S1 (fin F e3 N)
theorem uD(M:A.handled=none)(q:zF s.heap it d i es.size ep own fl ok ov)(J:RawD s.heap d es ep)(U:es.size<=i)
  (N:∀h',X7 it s.heap h'->Q none {s with heap:=h'}):wpAny (model prog w) A (UN (.ref it)) Q E s:=by
 obtain⟨od,F,W,G⟩:=J;have B:s.TypeIs (.ref it) "dict_itemiterator" := ⟨_,q,rfl⟩;unfold UN;refine SY (XD (VY (name:=U5 "__next__") B ZF (U1 ZF B zaB ?_ (zaC _))));refine SY (S1 (SY (SY ?_)))
 first|refine SY (ZG B (S1 ?_))|refine SY (ZH B (S1 ?_))
 refine SY (ZA q rfl ?_);simp only[show X5 "dict_itemiterator" = true by decide,if_true];show wpAny _ _ (if(S9 d == T1)=true then _ else _) _ _ s;rw[if_neg (show ¬ ((S9 d == T1)=true)from TN)];refine SY (S1 (SY (XB F G ?_)));rw[if_neg (by simp)];refine SY (S1 (SY (XC F G ?_)));rw[if_neg (by simp)];refine S1 ?_;simp only[show ¬ ((i:Int)<0)from by lia,if_false,VM,Array.getElem?_eq_none U];refine SY ?_;first|refine SY (ZG B (S1 ?_))|refine SY (ZH B (S1 ?_))
 show wpAny _ _ (XE (.ref it) 2 .none >>= _) _ _ s;refine SY (X6 q rfl (by simp) ?_);show wpAny _ _ (newExc (.type "StopIteration") [] >>= _) _ _ _;refine SY ?_;simp only[newExc,newTuple];refine SY (U2 ?_ (by size_fits));refine SY (m:=XF _ _) (ZD (a:=T1) (by first|rfl|(simp only[XF];rfl)) ?_)
 refine U2 ?_ (by size_fits);simp only[raiseNew];refine SY (wpAny_handled ?_);rw[show A.in1.handled=none from M];refine SY (S1 (wpAny_throw ?_));refine SY (zan (T := "StopIteration") (b:=true) ⟨_,TV _ rfl,rfl⟩ isSubtype_stop ?_);exact S1 (N _ (((WX ..).extBut.push _).push _))
theorem ItSt.keep(x:ItSt h it d S i n ep)(F:∀b o,b≠S->h.get? b=some o->h'.get? b=some o)(M:it≠S):ItSt h' it d S i n ep:=by
 rcases x with⟨e,ok,G,q⟩|⟨ok,G,a,f,U,q,N,J,B⟩
 ·exact .inl ⟨e,ok,G,F _ _ M q⟩
 ·exact .inr ⟨ok,G,a,f,U,F _ _ M q,F _ _ B N,J,B⟩
structure Made(es:Array VJ)(lo:Addr)(h:Heap)(as:List Addr):Prop where
 above:∀a∈as,lo<a
 pair:∀(j:Nat) (a:Addr),as[j]?=some a->∃e,es[j]?=some e/\h.get? a=some {cls:=.type "tuple",data:=.seq #[e.key,e.val]}
end
section
variable {prog:S6}{w:World}{A:TH}{s:SZ}{R:Result->SZ->Prop}{es:Array VJ}{ep:Nat}
theorem AC{S I d:Addr}(hh:A.handled=none)(ah:S<I)(ap:d≠S)(au:d≠I)(hn:es.size<=S7)(res:Value){h0:Heap}
  (hR:∀h' tk q c as,(∀b o,b≠S->b≠I->h0.get? b=some o->h'.get? b=some o)->h'.get? S=some {cls:=.type "list",dict:=none,data:=.seq q c,slots:=#[]}->as.length=es.size->Made es I h' as->q.toList=as.map S9->R (.ok (.ret res)) {s with heap:=h',toks:=tk}) :
  ∀(k i:Nat) (h:Heap) (tk c:Nat) (q:Array Value) (as:List Addr),es.size-i=k->i<=es.size->ItSt h I d S i es.size ep->RawD h d es ep->(∀b o,b≠S->b≠I->h0.get? b=some o->h.get? b=some o)->
   h.get? S=some {cls:=.type "list",dict:=none,data:=.seq q c,slots:=#[]}->q.toList=as.map S9->as.length=i->Made es I h as->I<h.objs.size->
   VD (model prog w) A (.builtin "list.extend.loop" ⟨[.ref S,.ref I,res],[]⟩) R {s with heap:=h,toks:=tk}:=by
 have W:S≠I:=TY ah;intro k;induction k with
 | zero=>
  intro i h tk c q as hk hi aa hD B hS G ac Y ad;have aj:es.size<=i:=by lia
  refine XH PySem.F.entry_extend_loop ?_;rw[XI X9 _];show wpAny _ A.in1 (UN (.ref I) >>= _) _ _ _;have fin:∀h',X7 I h h'->R (.ok (.ret res)) {s with heap:=h',toks:=tk}:=λh' he=>by
   refine hR h' tk q c as (λb o h1 h2 e=>he b o h2 (B b o h1 h2 e)) (he S _ W hS) (by lia) ⟨Y.above,λj a J=>?_⟩ G;obtain⟨e,e1,e2⟩:=Y.pair j a J;exact⟨e,e1,he a _ (UG (Y.above a (UU J))) e2⟩
  rcases aa with⟨_,ok,ov,N⟩|⟨ok,ov,a,f,oa,N,_⟩
  ·exact SY (uD (s:={s with heap:=h,toks:=tk}) (A:=A.in1) hh N hD aj λh' he=>S1 (fin h' he))
  ·exact SY (uD (s:={s with heap:=h,toks:=tk}) (A:=A.in1) hh N hD aj λh' he=>S1 (fin h' he))
 | succ k ih=>
  intro i h tk c q as hk hi aa hD B hS G ac Y ad;have U:i<es.size:=by lia
  have hsz:q.size=i:=by rw[<- UL,G,S5,ac]
  refine XH PySem.F.entry_extend_loop ?_;rw[XI X9 _];show wpAny _ A.in1 (UN (.ref I) >>= _) _ _ _;refine SY (AM (s:={s with heap:=h,toks:=tk}) (S:=S) aa (S8 hS) hD U λh' ak ht hz M=>?_);dsimp only at ht hz M ⊢;have al:=M S _ W hS;have ag:S<h.objs.size:=S8 hS;have up:∀b o,b≠S->h'.get? b=some o->(h'.update S (UX (·.push (S9 h.objs.size)))).get? b=some o:=λb o hb e=>(VZ _ _ (T3 hb)).trans e
  show wpAny _ A.in1 (YA S (·.push (S9 h.objs.size)) >>= _) _ _ _;refine SY (XJ al rfl ?_ (by rw[hsz];lia) (by show(q.push (S9 h.objs.size)).size<=S7+1;rw[Array.size_push,hsz];lia));refine S1 ⟨WK X9 _,ih (i+1) _ tk _ (q.push (S9 h.objs.size)) (as++[h.objs.size]) (by lia) U (ak.keep up (T3 W)) (hD.at' λo e=>up d o ap (M d o au e)) (λb o h1 h2 e=>up b o h1 (M b o h2 (B b o h1 h2 e))) (WI _ al rfl) (by rw[Array.toList_push,G,U3];rfl) (by rw[T8,ac];rfl) ⟨λa ha=>?_,λj b J=>?_⟩ ?_⟩
  ·rcases List.mem_append.mp ha with ha|ha
   ·exact Y.above a ha
   ·rw[List.mem_singleton.mp ha];exact ad
  ·by_cases h1:j<as.length
   ·rw[YU h1]at J
    obtain⟨e,e1,e2⟩:=Y.pair j b J;have hb:=Y.above b (UU J);exact⟨e,e1,up b _ (UG (W7 ah hb)) (M b _ (UG hb) e2)⟩
   ·rw[YT (by lia)]at J
    have:j-as.length=0:=by
     by_cases z:j-as.length=0
     ·exact z
     ·rw[List.getElem?_eq_none (by simp only[Y2];lia)]at J;cases J
    rw[this]at J;cases J;have e:j=i:=by lia
    subst e;exact⟨es[j],by simp[U],up _ _ (UG ag) ht⟩
  ·have e:=up _ _ (UG ag) ht
   exact W7 ad (S8 e)
end
section
variable {prog:S6}{w:World}{A:TH}{E:Value->SZ->Prop}{s:SZ}{r d:Addr}{es:Array VJ}{ep:Nat}
theorem AQ(q:s.heap.IsItemsView r d)(M:RawD s.heap d es ep)
  (W:Q (.ref s.heap.objs.size) {s with heap:=s.heap.push {cls:=.type "dict_itemiterator",data:=.fields #[.none,.bool false,.ref d,.int 0 0,.int es.size 0,.int ep 0,.none,.none]} }):wpAny (model prog w) A (pyIter (.ref r)) Q E s:=by
 have J:=q.typeIs;obtain⟨Y,U,v2,N⟩:=id q;obtain⟨o,B,g2,G⟩:=M;refine wpAny_pyIter_slot J zaD (U1 zaD J PySem.F.entry_dict_items_iter ?_ (PySem.F.args_dict_items_iter_1 _));unfold VV.«dict_items.__iter__»;refine SY (S1 (SY ?_));unfold Builtin.Dict_items.dictOf;refine SY (UP U N (x:=.ref d) rfl (S1 ?_));refine SY ?_;unfold Builtin.Dict_items.newIterator;refine SY (XB B G (SY (XC B G ?_)));simp only[show X5 "dict_itemiterator" = true by decide,if_true];refine U2 (S1 ⟨_,rfl, "dict_itemiterator",_,⟨_,TV _ rfl,rfl⟩,PySem.F.slot_dict_itemiterator_next.lookup,?_⟩) (by simp only[sizeOk,zaE,TL,T8,UO,WH,WF];lia);simpa[UH,zaE]using W
theorem tQ{R:Result->SZ->Prop}(hh:A.handled=none)(hv:s.heap.IsItemsView r d)(Y:RawD s.heap d es ep)(S:Addr)(af:S≠r)(J:d≠S)(res:Value)(F:Nat)(hS:s.heap.get? S=some {cls:=.type "list",data:=.seq #[] F})
  (hR:∀h' tk B c as,(∀b o,b≠S->s.heap.get? b=some o->h'.get? b=some o)->h'.get? S=some {cls:=.type "list",dict:=none,data:=.seq B c,slots:=#[]}->as.length=es.size->Made es s.heap.objs.size h' as->B.toList=as.map S9->R (.ok (.ret res)) {s with heap:=h',toks:=tk}) (hn:es.size<=S7) :
  wpAny (model prog w) A.in1 (zap (.ref S) (.ref r) res)
   (λfin s'=>match fin with | .done f=>R (.ok f) s' | .again c'=>c'.quiet=true/\VD (model prog w) A c' R s') (λe s'=>R (.error e) s') s:=by
 have M:S<s.heap.objs.size:=S8 hS;have W:d<s.heap.objs.size:=by
  obtain⟨o,e,_⟩:=Y;exact S8 e
 have N:∀(h:Heap) (q tk:Nat),(∀b o,b≠S->(s.heap.push {cls:=.type "dict_itemiterator",data:=.fields #[.none,.bool false,.ref d,.int 0 0,.int es.size 0,.int ep 0,.none,.none]}).get? b=some o->h.get? b=some o)->
   h.get? S=some {cls:=.type "list",data:=.seq #[] q}->VD (model prog w) A (.builtin "list.extend.loop" ⟨[.ref S,.ref s.heap.objs.size,res],[]⟩) R {s with heap:=h,toks:=tk}:=by
  intro h q tk hk ab;have hI:=hk s.heap.objs.size _ (UG M) (TV _ rfl);exact AC (es:=es) (ep:=ep) (s:=s) (h0:=s.heap) hh M J (TY W) hn res (λh' ah B c as ag ae hl hG U=>hR h' ah B c as (λb o G e=>ag b o G (TY (S8 e)) e) ae hl hG U)
   es.size 0 h tk q #[] [] (Nat.sub_zero _) (U6 _) (.inl ⟨rfl,.none,.none,hI⟩) (Y.at' λo e=>hk d o J (TC _ e)) (λb o G _ e=>hk b o G (TC _ e)) ab rfl rfl ⟨(λ_ ha=>nomatch ha),(λj a hj=>by simp at hj)⟩ (S8 hI)
 unfold zap;refine SY (YX (T := "dict_items") hv.typeIs ?_);simp only[show Builtin.List.listSameRef (.ref S) (.ref r)=false by simp[Builtin.List.listSameRef,af],show(VP "dict_items" == VP "list")=false by decide,show(VP "dict_items" == VP "tuple")=false by decide,Bool.or_false,WA,if_false];refine SY (AQ hv Y ?_);have p1:=TC {cls:=.type "dict_itemiterator",data:=.fields #[.none,.bool false,.ref d,.int 0 0,.int es.size 0,.int ep 0,.none,.none]} hS;refine SY (U8 (kdx_hint (let ⟨o,ho,hc,_⟩:=hv;⟨o,TC _ ho,hc⟩) ?_));refine wpAny_ite_split (λ_=>?_) (λ_=>S1 ⟨WK X9 _,N _ F _ (λb o _ e=>e) p1⟩);refine SY (wpAny_rule (SY ?_));show wpAny _ _ (YA S (·.push .none) >>= λ_=>YA S (·.pop)) _ _ _;refine SY (XJ p1 rfl ?_);have p2:=WI (UX (·.push T1)) p1 rfl;refine XJ (hz:=by seq_fits) p2 rfl ?_;have p3:=WI (UX (·.pop)) p2 rfl;exact S1 ⟨WK X9 _,N _ _ _ (λb o G e=>(VZ _ _ (T3 G)).trans ((VZ _ _ (T3 G)).trans e)) p3⟩
theorem qS(hh:A.handled=none)(hv:s.heap.IsItemsView r d)(hm:RawD s.heap d es ep)(hn:es.size<=S7)
  (h:∀(h':Heap) (tk:Nat) (as:List Addr),(∀b o,s.heap.get? b=some o->h'.get? b=some o)->as.length=es.size->Made es s.heap.objs.size h' as->R (as.map S9) {s with heap:=h',toks:=tk}) :
  wpAny (model prog w) A (collect (.ref r)) R E s:=by
 have hr:r<s.heap.objs.size:=let ⟨_,ho,_⟩:=hv;S8 ho;have hd:d<s.heap.objs.size:=let ⟨_,ho,_⟩:=hm;S8 ho;unfold collect;refine SY (wpAny_runValue (XH entry_proto_collect' ?_));rw[XI PySem.F.plain_proto_collect _];show wpAny _ A.in1 (newList [] >>= λl=>again (.builtin "list.__iadd__" ⟨[l,.ref r],[]⟩)) _ _ s;refine SY (U2 ?_);refine S1 ⟨WK PySem.F.plain_list_iadd _,XH entry_list_iadd' ?_⟩;rw[XI PySem.F.plain_list_iadd _];have p1:(s.heap.push {cls:=.type "list",data:=.seq ([]:List Value).toArray}).get? s.heap.objs.size=some {cls:=.type "list",data:=.seq #[]}:=TV _ rfl;show wpAny _ A.in1 (zap (.ref s.heap.objs.size) (.ref r) (.ref s.heap.objs.size)) _ _ _;have Y:=tQ (prog:=prog) (w:=w) (A:=A) (s:={s with heap:=s.heap.push {cls:=.type "list",data:=.seq ([]:List Value).toArray} }) (es:=es) (ep:=ep)
  (R:=λ(q:Result) (s':SZ) => ∃(h':Heap) (tk:Nat) (B:Array Value) (W:Nat) (as:List Addr), q = .ok (.ret (.ref s.heap.objs.size)) /\ s' = {s with heap:=h', toks:=tk} /\
   (∀b o,s.heap.get? b=some o->h'.get? b=some o)/\h'.get? s.heap.objs.size=some {cls:=.type "list",dict:=none,data:=.seq B W,slots:=#[]}/\as.length=es.size/\Made es s.heap.objs.size h' as/\B.toList=as.map S9)
  hh (let ⟨o,ho,x⟩:=hv;⟨o,TC _ ho,x⟩) (hm.at' λo e=>TC _ e) s.heap.objs.size (UG hr) (TY hd) (.ref s.heap.objs.size) 0 p1
  (λh' tk B W as N J U M G=>⟨h',tk,B,W,as,rfl,rfl,λb o e=>N b o (TY (S8 e)) (TC _ e),J,U,⟨λa ha=>Y3 (by show s.heap.objs.size<=(s.heap.push _).objs.size;rw[X8];exact Nat.le_succ _) (M.above a ha),M.pair⟩,G⟩) hn
 refine US Y (λfin s' x=>?_) λe s' x=>?_
 ·cases fin with
  | done f=>
   obtain⟨h',tk,B,W,as,e,rfl,N,J,U,M,G⟩:=x;cases e;show wpAny _ A (load s.heap.objs.size >>= _) _ _ _;refine SY (wpAny_load J (S1 ?_));rw[G];exact h h' tk as N U M
  | again c₁=>
   refine⟨x.1,YS x.2 λq aa y=>?_⟩;obtain⟨h',tk,B,W,as,e,rfl,N,J,U,M,G⟩:=y;cases e;show wpAny _ A (load s.heap.objs.size >>= _) _ _ _;refine SY (wpAny_load J (S1 ?_));rw[G];exact h h' tk as N U M
 ·obtain⟨_,_,_,_,_,z,_⟩:=x
  cases z
end
section
variable {prog:S6}{w:World}{A:TH}{E:Value->SZ->Prop}{s:SZ}{a L:Addr}{vs:List Value}{m:Str->Option Value}
theorem B2(O:Ord vs.length lt)(M:s.heap.Ns L m)(Y:s.heap.get? a=some (T6 "list" vs.toArray n))(U:a≠L)(ad:vs.length<64)
  (aa:2 <= vs.length -> ∀h':Heap, (∀b o, b≠a -> b≠L -> s.heap.get? b = some o -> h'.get? b = some o) -> ∃κ, (∀Q':SortKind -> SZ -> Prop, Q' κ {s with heap:=h'} -> wpAny (model prog w) A (keyKind' vs.toArray) Q' (λ_ _ => False) {s with heap:=h'}) /\
   ∀i j C,i<vs.length->j<vs.length->i≠j->C (lt i j) {s with heap:=h'}->kas_ask prog w A κ vs i j C {s with heap:=h'})
  (hP:∀(p:Array Nat) (h':Heap) (c:Nat), PermR vs.length p -> d9 lt p vs.length -> h'.get? a = some (T6 "list" (X4 (p.toList.map λi => vs.getD i T1)) c) ->
   (∀b o,b≠a->b≠L->s.heap.get? b=some o->h'.get? b=some o)->h'.Ns L m->P (.done (.ret .none)) {s with heap:=h'}) :
  wpAny (model prog w) A (VV.«list.sort» ⟨[.ref a],[]⟩) P E s:=by
 by_cases h2:2<=vs.length
 ·have N:News (Att.rZ s.heap) L s.heap (Att.ledger s.heap L a):=λ⟨b,o⟩ B=>⟨(Att.cS.mp B).2.2,(Att.cS.mp B).1,Att.iR _ _⟩
  refine kat_list_sort (Att.LD M) N Y U (Att.iR _ _) (λ⟨b,o⟩ B=>(Att.cS.mp B).2.1) h2 ad λW h' F' N'=>?_
  have keep:∀b o,b≠a->b≠L->s.heap.get? b=some o->h'.get? b=some o:=λb o q hL e=>(N' (b,o) (TR _ (Att.cS.mpr ⟨hL,q,e⟩))).1
  obtain⟨κ,k1,k2⟩:=aa h2 h' keep;refine k1 _ (yE k2 _ (HN O (by lia) λp B hs=>?_));refine KasFin.intro F' N' (.head λ⟨b,o⟩ q=>(Att.cS.mp q).2.1) λaf c ab F=>?_
  exact hP p af c B hs (F _ (TK ..)).1 (λb o q hL e=>(F (b,o) (TR _ (Att.cS.mpr ⟨hL,q,e⟩))).1) ab.ns
 ·have G:vs.toArray.size<2:=by rw[TL];lia
  rw[list_sort_plain];obtain⟨W,J⟩:∃W,(s.heap.update a (UX λ_=>(#[]:Array Value))).get? a=some (T6 "list" #[] W):=⟨_,get?_update_seq Y λ_=>#[]⟩;refine SY (listItems_at Y rfl (SY (listUpdate_at Y rfl ?_ (by rw[TL,WF];lia) (U6 _))));refine SY (seqEpoch_at J rfl (SY (ZI ?_ (by show vs.length<=_;rw[WF];lia))));refine SY (ZK ?_ (U6 _));refine U8 ?_;show wpAny (model prog w) A _ P E {s with heap:=((s.heap.update a (UX λ_=>(#[]:Array Value))).push (T6 "tuple" vs.toArray 0)).push (T6 "list" #[] 0)};dsimp only;rw[if_pos G,if_pos G];have g1:(((s.heap.update a (UX λ_=>(#[]:Array Value))).push (T6 "tuple" vs.toArray 0)).push (T6 "list" #[] 0)).get? a=some (T6 "list" #[] W):=TC _ (TC _ J);refine SY (S1 ?_);rw[StateT.run_pure];refine SY (S1 ?_);dsimp only;refine SY (seqEpoch_at g1 rfl (SY (listUpdate_at g1 rfl ?_ (U6 _) ?_)))
  ·simp only[bne_self_eq_false,WA,if_false]
   have s1:=WX s.heap a (UX λ_=>(#[]:Array Value));have s2:=WX (((s.heap.update a (UX λ_=>(#[]:Array Value))).push (T6 "tuple" vs.toArray 0)).push (T6 "list" #[] 0)) a (UX λ_=>(arrOf (SortSt.mk' general' (vs.toArray.zip vs.toArray) #[] 7 none)).map (·.2));have keep:∀b o,b≠a->s.heap.get? b=some o->_:=λb o q e=>s2.extBut b o q (TC (T6 "list" #[] 0) (TC (T6 "tuple" vs.toArray 0) (s1.extBut b o q e)))
   have eo:(arrOf (SortSt.mk' general' (vs.toArray.zip vs.toArray) #[] 7 none)).map (·.2)=X4 ((X4 (UZ vs.length)).toList.map λi=>vs.getD i T1):=by
    show((vs.toArray.zip vs.toArray).map (·.2))=_;apply Array.toList_inj.mp;rw[Array.toList_map,Array.toList_zip];show(vs.zip vs).map (·.2)=(UZ vs.length).map λi=>vs.getD i T1
    apply Y4
    ·simp
    ·intro i h5 h6
     have:i<vs.length:=by simpa using h6
     simp[this]
   obtain⟨c,hc⟩:∃c,((((s.heap.update a (UX λ_=>(#[]:Array Value))).push (T6 "tuple" vs.toArray 0)).push (T6 "list" #[] 0)).update a (UX λ_=>(arrOf (SortSt.mk' general' (vs.toArray.zip vs.toArray) #[] 7 none)).map (·.2))).get? a=some (T6 "list" ((arrOf (SortSt.mk' general' (vs.toArray.zip vs.toArray) #[] 7 none)).map (·.2)) c):=⟨_,get?_update_seq g1 _⟩;exact S1 (hP (X4 (UZ vs.length)) _ c (Array.Perm.refl _) (λi j h1 h3=>absurd h3 (by lia)) (by rw[<- eo];exact hc) (λb o q _ e=>keep b o q e) (M.at' λo e=>keep L o (T3 U) e))
  ·rw[Array.size_map]
   show(vs.toArray.zip vs.toArray).size<=_;rw[WF];simp
   lia
end
end My
namespace My
open PySem PySem.Spec PyProof.Rows PySem.W PySem.SeqAt
theorem lU:∀ns:List Int,HT.lexLt ns ns=false
 | []=>rfl
 | x::xs=>by rw[HT.cU,if_pos rfl];exact lU xs
theorem sH:∀a b c:List Int,HT.lexLt a b=true->HT.lexLt b c=true->HT.lexLt a c=true
 | [],[],c,h,_=>by cases h
 | [],_::_,[],_,h=>by cases h
 | [],_::_,_::_,_,_=>rfl
 | _::_,[],_,h,_=>by cases h
 | _::_,_::_,[],_,h=>by cases h
 | x::xs,y::ys,z::zs,h1,h2=>by
  rw[HT.cU]at h1 h2 ⊢;by_cases F:x=y
  ·by_cases B:y=z
   ·rw[if_pos F]at h1;rw[if_pos B]at h2;rw[if_pos (F.trans B)];exact sH xs ys zs h1 h2
   ·rw[if_neg B]at h2;rw[if_neg (λq=>B (F.symm.trans q)),F];exact h2
  ·rw[if_neg F]at h1
   have h1:=of_decide_eq_true h1;by_cases B:y=z
   ·rw[if_neg (λq=>F (q.trans B.symm))];exact decide_eq_true (by lia)
   ·rw[if_neg B]at h2
    have h2:=of_decide_eq_true h2;rw[if_neg (by lia)];exact decide_eq_true (by lia)
theorem rJ:∀a b:List Int,a≠b->HT.lexLt a b=true\/HT.lexLt b a=true
 | [],[],h=>absurd rfl h
 | [],_::_,_=>.inl rfl
 | _::_,[],_=>.inr rfl
 | x::xs,y::ys,h=>by
  rw[HT.cU,HT.cU];by_cases e:x=y
  ·rw[if_pos e,if_pos e.symm]
   exact rJ xs ys λq=>h (by rw[e,q])
  ·rw[if_neg e,if_neg (λq=>e q.symm)]
   rcases Int.lt_or_gt_of_ne e with q|q
   ·exact .inl (decide_eq_true q)
   ·exact .inr (decide_eq_true q)
def JM(ks:List (List Int))(i j:Nat):Bool:=HT.lexLt (ks.getD i []) (ks.getD j [])
theorem BS(G:ks.Nodup):Ord ks.length (JM ks) where
 irr:=λi _=>lU _
 tr:=λi j k _ _ _ h1 h2=>sH _ _ _ h1 h2
 tot:=λi j hi J q=>rJ _ _ λe=>q (by
  have F:ks.getD i []=ks[i]:=by simp[hi]
  have B:ks.getD j []=ks[j]:=by simp[J]
  rw[F,B]at e;exact(XS G).mp e)
section
variable {prog:S6}{w:World}{A:TH}{E:Value->SZ->Prop}{s:SZ}
theorem F5(h:Q (decide (x<y)) s):wpAny (model prog w) A (oneLt' b (.int x t) (.int y u)) Q E s:=by
 cases b with
 | true=>exact oneLt_int h
 | false=>exact kat_one _ _ (PyProof.Rows.lt_int h)
theorem uB:∀ {us vs:List Value} {ns ms:List Int} (i:Nat),UJ us ns->UJ vs ms->fin=decide (ns.length<ms.length)->Q (HT.lexLt ns ms) s->KatLex prog w A b fin Q (us.zip vs) i s
 | _,_,_,_,i,.nil,.nil,hf,h=>by rw[Z7];show Q fin s;rw[hf];exact h
 | _,_,_,_,i,.nil,.cons _ _ _,hf,h=>by rw[Z7];show Q fin s;rw[hf];exact h
 | _,_,_,_,i,.cons _ _ _,.nil,hf,h=>by rw[List.zip_nil_right];show Q fin s;rw[hf];exact h
 | _,_,_,_,i,.cons x t r1,.cons y u r2,hf,h=>by
  rw[Z8];refine kat_cons (EqAt.int_int x t y u prog w _ _ ?_);rw[HT.cU]at h;by_cases e:x=y
  ·rw[if_pos e]at h
   rw[show(x == y)=true by simpa using e];refine kat_yes (uB (i+1) r1 r2 ?_ h);rw[hf];simp only[UO,Nat.add_lt_add_iff_right]
  ·rw[if_neg e]at h
   rw[show(x == y)=false by simpa using e];exact kat_no (F5 h)
def TupI(h:Heap)(a:Addr)(ns:List Int):Prop:=∃q:List Value,IsTup h a q.toArray/\UJ q ns
theorem TupI.at'(x:TupI h a ns)(k:∀o,h.get? a=some o->h'.get? a=some o):TupI h' a ns:=by
 obtain⟨q,⟨o,e,c⟩,i⟩:=x;exact⟨q,⟨o,k o e,c⟩,i⟩
theorem B5(Y:TupI s.heap x ns)(hy:TupI s.heap y ms)(h:Q (HT.lexLt ns ms) s):wpAny (model prog w) A (keyLt' (tuples' b) (.ref x) (.ref y)) Q E s:=by
 obtain⟨q,⟨ox,G,x2,n,U⟩,F⟩:=Y;obtain⟨vs,⟨oy,W,y2,m,N⟩,B⟩:=hy;refine kat_lt G U W N ?_;show KatLex prog w A b (decide (q.toArray.size<vs.toArray.size)) Q (q.zip vs) 0 s;refine uB 0 F B ?_ h;have M:q.length=ns.length:=F.length;have J:vs.length=ms.length:=B.length;rw[TL,TL,M,J]
theorem F7(hx:TupI s.heap x ns)(hy:TupI s.heap y ms)(B:ns≠ms)(hu:A.units<cLine):EqAt A s (.ref x) (.ref y) false:=by
 obtain⟨q,tx,M⟩:=hx;obtain⟨vs,ty,N⟩:=hy;have ne:x≠y:=λe=>by
  subst e;obtain⟨o,J,c1,n,d1⟩:=tx;obtain⟨o',F,c2,n',d2⟩:=ty;rw[J]at F;cases F;rw[d1]at d2;injection d2 with d3 _
  have:q=vs:=by simpa using congrArg Array.toList d3
  subst this;have:∀ {q:List Value} {a b:List Int},UJ q a->UJ q b->a=b:=by
   intro q a b h1;induction h1 generalizing b with
   | nil=>intro h2;cases h2;rfl
   | cons n t _ ih=>intro h2;cases h2 with|cons _ _ r=>rw[ih r]
  exact B (this M N)
 have he:∀j (h1:j<q.toArray.size) (h2:j<vs.toArray.size),EqAt A.in1 s q.toArray[j] vs.toArray[j] (decide (ns.getD j 0=ms.getD j 0)):=by
  intro j h1 h2;have g:∀ {q:List Value} {ns:List Int} {j:Nat} (_:UJ q ns) (h:j<q.length),∃t,q[j]=.int (ns.getD j 0) t:=by
   intro q ns j r;induction r generalizing j with
   | nil=>intro h;cases h
   | cons n t r ih=>
    intro h;cases j with
    | zero=>exact⟨t,rfl⟩
    | succ j=>
     obtain⟨t',e⟩:=ih (j:=j) (by simpa using h);exact⟨t',by simpa using e⟩
  obtain⟨t,J⟩:=g M (j:=j) (by simpa using h1);obtain⟨t',F⟩:=g N (j:=j) (by simpa using h2);have U:q.toArray[j]=q[j]'(by simpa using h1):=by simp
  have G:vs.toArray[j]=vs[j]'(by simpa using h2):=by simp
  rw[U,G,J,F];exact EqAt.to (EqAt.int_int _ _ _ _) (by simp[zaj])
 refine EqAt.to (EqAt.of_refs ne (RcAt.tuples tx ty hu he)) ?_;have U:q.toArray.size=ns.length:=by rw[TL];exact M.length
 have G:vs.toArray.size=ms.length:=by rw[TL];exact N.length
 rw[U,G,Bool.eq_false_iff];intro z;rw[UF]at z;obtain⟨W,Y⟩:=z;have hl:ns.length=ms.length:=by simpa using Y
 rw[X3]at W;refine B (Y4 hl λj h1 h2=>?_);have:=of_decide_eq_true (W j (List.mem_range.mpr (by lia)));simpa[h1,h2]using this
def y8(h:Heap)(p a:Addr)(v:Value)(ns:List Int):Prop:=IsTup h p #[.ref a,v]/\TupI h a ns
theorem AY(hx:y8 s.heap p a u ns)(hy:y8 s.heap q b v ms)(B:ns≠ms)(F:A.units<cLine)(h:Q (HT.lexLt ns ms) s) :
  wpAny (model prog w) A (keyLt' (tuples' false) (.ref p) (.ref q)) Q E s:=by
 obtain⟨⟨ox,G,x2,n,U⟩,tx⟩:=hx;obtain⟨⟨oy,Y,y2,m,W⟩,ty⟩:=hy;refine kat_lt G U Y W ?_;refine kat_cons (F7 tx ty B F prog w _ _ (kat_no ?_));obtain⟨us,J,N⟩:=tx;obtain⟨ws,M,i2⟩:=ty;exact kat_one _ _ (HT.mV J M N i2 F h)
end
end My
namespace My
open PySem PySem.Spec PyProof.Rows L2 PySem.SeqAt
theorem obj_some(x:ObjOk P w H h a o):∃q,h.get? a=some q:=by
 cases o with
 | lst xs=>obtain⟨_,_,_,_,e⟩:=x;exact⟨_,e⟩
 | tup xs=>obtain⟨_,_,_,q,e,_⟩:=x;exact⟨q,e⟩
 | dK kvs=>obtain⟨_,_,_,_,q,_,_,e,_⟩:=x;exact⟨q,e⟩
 | dT kvs=>obtain⟨_,_,_,_,q,_,_,e,_⟩:=x;exact⟨q,e⟩
 | set S n=>obtain⟨q,_,_,_,e,_⟩:=x;exact⟨q,e⟩
 | ins C dx fs=>obtain⟨_,_,_,e,_⟩:=x;exact⟨_,e⟩
 | own y=>exact x
 | xd fs=>obtain⟨_,⟨q,_,_,e,_⟩,_⟩:=x;exact⟨q,e⟩
 | rng lo hi=>obtain⟨_,_,_,e⟩:=x;exact⟨_,e⟩
 | frz q u=>obtain⟨e,_⟩:=x;exact⟨_,e⟩
 | tbl ps=>exact⟨_,(show h.get? a=some _ from x)⟩
 | met f y=>exact⟨_,(show h.get? a=some _ from x)⟩
 | ext φ=>exact x.2.1
theorem CP(I:Inv X pins σ H s)(keep:∀b o,b≠X.env.locals->s.heap.get? b=some o->h'.get? b=some o)(ns:∀m,s.heap.Ns X.env.locals m->h'.Ns X.env.locals m)
  (same:∀b o,s.heap.get? b=some o->H' b=H b) (new:∀b o,H b=none->H' b=some o->ObjOk X.prog X.w H' h' b o):Inv X pins σ H' {s with heap:=h',toks:=t'}:=by
 have nl:∀b o,H b=some o->b≠X.env.locals:=λb o e z=>by rw[z,I.free]at e;cases e
 have B:∀b o,H b=some o->H' b=some o:=λb o e=>by
  obtain⟨U,q⟩:=obj_some (I.hok b o e);rw[same b U q];exact e
 refine I.step (g':=s.gens) (d':=s.drawn) (ch:=[]) (λ_ z=>nomatch z) (λb o F _ _ e _=>keep b o F e) (λb o F _ _ e _=>⟨o.slots,keep b o F e⟩) (λb o _ e n=>by rw[same b o e];exact n) (λb o _ e=>?_)
  (λb xs e=>B b _ e) (λb o u e=>B b _ e) (λb ps e=>⟨#[],by rw[B b _ e];simp⟩) ns (λb u e=>?_) I.bare
 ·by_cases G:b=X.env.locals
  ·obtain⟨m,M,_⟩:=I.loc
   obtain⟨o',_,_,J,_⟩:=ns m M;exact⟨o',by rw[G];exact J⟩
  ·exact⟨o,keep b o G e⟩
 ·cases e0:H b with
  | some v=>
   have:v=u:=by
    have:=B b v e0;rw[e]at this;exact(T5 this).symm
   subst this;refine(I.hok b v e0).stay (λc v N q=>keep c v ?_ q) (λc q=>B c _ q) λc xs q=>B c _ q
   rcases N with z|z
   ·rw[z];exact nl b _ e0
   ·exact nl c _ z
  | none=>exact new b u e0 e
def kI(p:List Int×V):List Key×V:=(p.1.map TQ,p.2)
theorem HF(ns:List Int):(ns.map (TQ:Int->Key)).map kV=ns.map V.int:=by
 rw[T7];rfl
def sF(q:List (List Int×V)):Prop:=q.Pairwise λa b=>HT.lexLt a.1 b.1=true
theorem tJ:∀ {ns:List Int} {us:List Value},Vals (ns.map V.int) us->UJ us ns:=λr=>L2.intsAre_of r
theorem sA{X:Cx}{pins:List (Addr×Obj)}{σ:L2.St}{H:Hp}{s:SZ}{d:Addr}{ps:List (List Int×V)}(I:Inv X pins σ H s)(Y:Rd H d (.dT (ps.map kI))) :
  ps.length<=S7/\(d == UY)=false/\(ps.map (·.1)).Nodup/\∃es ep,RawD s.heap d es ep/\es.size=ps.length/\∀(j:Nat) (p:List Int×V),ps[j]?=some p->∃(e:VJ) (b:Addr),es[j]?=some e/\e.key=.ref b/\H b=some (.tup (p.1.map V.int))/\RelV p.2 e.val:=by
 obtain⟨z,y,xs,r,o,es,ep,h1,h2,W,J,G⟩:=(show ObjOk X.prog X.w H s.heap d (.dT (ps.map kI))from Y.ok I.hok);have hl:xs.length=ps.length:=by rw[<- WE r,S5]
 have F:es.size=ps.length:=by
  have:=congrArg V8 J;rw[UL,S5]at this
  lia
 have get:∀ {ps:List (List Int×V)} {xs:List (List Key×Addr×Value)},UB (λ(p:List Key×V) (q:List Key×Addr×Value)=>p.1=q.1/\H q.2.1=some (.tup (p.1.map kV))/\RelV p.2 q.2.2) (ps.map kI) xs->
   ∀(j:Nat) (p:List Int×V),ps[j]?=some p->∃q,xs[j]?=some q/\(kI p).1=q.1/\H q.2.1=some (.tup ((kI p).1.map kV))/\RelV p.2 q.2.2:=by
  intro ps;induction ps with
  | nil=>intro xs r j p e;simp at e
  | cons p0 ps ih=>
   intro xs r j p e;rw[TB]at r;cases r with
   | cons h t=>
    cases j with
    | zero=>simp at e;subst e;exact⟨_,rfl,h⟩
    | succ j=>exact ih t j p (by simpa using e)
 have B:∀ {ps:List (List Int×V)} {xs:List (List Key×Addr×Value)},UB (λ(p:List Key×V) (q:List Key×Addr×Value)=>p.1=q.1/\H q.2.1=some (.tup (p.1.map kV))/\RelV p.2 q.2.2) (ps.map kI) xs->
   xs.map (·.1)=ps.map λp=>p.1.map TQ:=by
  intro ps;induction ps with
  | nil=>intro xs r;rw[W4]at r;cases r;rfl
  | cons p0 ps ih=>
   intro xs r;rw[TB]at r;cases r with
   | cons h t=>rw[TB,TB,ih t,<- h.1];rfl
 refine⟨by rw[S5]at z;exact z,y,?_,es,ep,⟨o,h1,h2,W⟩,F,λj p e=>?_⟩
 ·rw[B r]at G
  have:(ps.map λp=>p.1.map (TQ:Int->Key))=(ps.map (·.1)).map λns=>ns.map TQ:=by rw[T7];rfl
  rw[this]at G;exact List.Pairwise.of_map _ (λa b h e=>h (by rw[e])) G
 ·obtain⟨q,M,e2,N,U⟩:=get r j p e
  have e5:es[j]?=some (entryOfKey (VQ (bK X.prog X.w)) q):=by
   rw[<- XM,J,TX,M];rfl
  exact⟨_,q.2.1,e5,rfl,by rw[N];show some (HO.tup (((p.1.map TQ):List Key).map kV))=_;rw[HF],U⟩
theorem xE(I:Inv X pins σ H s)(h:H b=some (.tup (ns.map V.int))):TupI s.heap b ns:=by
 obtain⟨q,r,t,_⟩:=I.tuple (SqT.of h);exact⟨q,t,tJ r⟩
theorem tP(J:PermR ps.length p)(hs:d9 (JM (ps.map (·.1))) p ps.length) :
  (p.toList.map λi=>ps.getD i ([],.non)).Perm ps/\sF (p.toList.map λi=>ps.getD i ([],.non)):=by
 have M:(UZ ps.length).map (λi=>ps.getD i ([],.non))=ps:=by
  apply Y4
  ·simp
  ·intro i h1 h2
   simp[h2]
 constructor
 ·have:=(Array.perm_iff_toList_perm.mp J).map λi=>ps.getD i (([],.non):List Int×V)
  rw[M]at this;exact this
 ·unfold sF
  rw[List.pairwise_map];rw[List.pairwise_iff_getElem];intro i j hi G B;have hsz:=J.size;rw[UL]at hi G;have h1:=hs i j B (by lia);have g:∀k (q:k<p.size),p.getD k 0=p.toList[k]'(by rw[UL];exact q):=λk q=>by simp[XA,q]
  rw[g i hi,g j G]at h1;have F:∀k,(ps.map (·.1)).getD k []=(ps.getD k ([],.non)).1:=λk=>by
   by_cases h:k<ps.length
   ·simp[h]
   ·simp[Nat.le_of_not_lt h]
  unfold JM at h1;rw[F,F]at h1;exact h1
end My
namespace My
open PySem PySem.Spec PyProof.Rows L2 PySem.SeqAt PySem.W
theorem fD{q B F:Type}{R:B->F->Prop}{f:q->B}{g:q->F}:∀(l:List q),(∀i∈l,R (f i) (g i))->UB R (l.map f) (l.map g)
 | [],_=>.nil
 | i::l,h=>.cons (h i (TK ..)) (fD l λj G=>h j (TR _ G))
theorem gF{B F:Type}{f:F->Value}{R:F->B->Prop}:∀(ps:List B) (vs:List Value),vs.length=ps.length->(∀(j:Nat) (p:B),ps[j]?=some p->∃b,vs[j]?=some (f b)/\R b p)->∃bs:List F,vs=bs.map f/\UB R bs ps
 | [],[],_,_=>⟨[],rfl,.nil⟩
 | [],_::_,h,_=>by cases h
 | _::_,[],h,_=>by cases h
 | p::ps,v::vs,hl,h=>by
  obtain⟨b,e,r⟩:=h 0 p rfl;obtain⟨bs,G,M⟩:=gF ps vs (by simpa using hl) λj q J=>h (j+1) q (by simpa using J)
  have:v=f b:=by simpa using e
  exact⟨b::bs,by rw[TB,<- G,this],.cons r M⟩
theorem e9{B q:Type}{R:B->q->Prop}:∀ {as:List B} {bs:List q},UB R as bs->∀(j:Nat) (b:q),bs[j]?=some b->∃a,as[j]?=some a/\R a b
 | _,_,.nil,j,b,e=>by simp at e
 | _,_,.cons h t,0,b,e=>by simp at e;subst e;exact⟨_,rfl,h⟩
 | _,_,.cons h t,j+1,b,e=>e9 t j b (by simpa using e)
section
variable {X:Cx}
def rR(el:Hp->V->List Int×V->Prop)(H:Hp)(ps:List (List Int×V))(Q:VK):Prop:=
 ∀(l:Addr) (us:List V) (qs:List (List Int×V)) (H2:Hp),Same H H2->H l=none->H2 l=some (.lst us)->UB (el H2) us qs->qs.Perm ps->sF qs->Q (.ref l) H2
def R1:Hp->V->List Int×V->Prop:=λH u q=>∃b,u=.ref b/\H b=some (.tup (q.1.map V.int))
def R3:Hp->V->List Int×V->Prop:=λH u q=>∃a b,u=.ref a/\H a=some (.tup [.ref b,q.2])/\H b=some (.tup (q.1.map V.int))
theorem pH{pins:List (Addr×Obj)}{σ:L2.St}{H H1:Hp}{s:SZ}{h1:Heap}{tk:Nat}{A:TH}{E:Value->SZ->Prop}{Q:VK}{ps:List (List Int×V)}{as:List Addr}{el:Hp->V->List Int×V->Prop}{P:PySem.Fin->SZ->Prop}
  (I:Inv X pins σ H s) (B:∀b o,s.heap.get? b=some o->h1.get? b=some o) (am:ps.length<64) (hn:(ps.map (·.1)).Nodup) (hl:as.length=ps.length)
  (J:∀b o,s.heap.get? b=some o->H1 b=H b) (M:∀b o,H1 b=some o->b<h1.objs.size)
  (aa:∀(b:Addr) (o:HO),H b=none->H1 b=some o->∀(h':Heap) (H':Hp),(∀c u,c≠h1.objs.size->c≠X.env.locals->h1.get? c=some u->h'.get? c=some u)->ObjOk X.prog X.w H' h' b o)
  (ao:∀(j:Nat) (p:List Int×V) (a:Addr),ps[j]?=some p->as[j]?=some a->∀H',Same H1 H'->el H' (.ref a) p)
  (ag:2 <= ps.length -> ∀h':Heap, (∀b o, b≠h1.objs.size -> b≠X.env.locals -> h1.get? b = some o -> h'.get? b = some o) -> ∃κ, (∀Q':SortKind -> SZ -> Prop, Q' κ {s with heap:=h', toks:=tk} -> wpAny (model X.prog X.w) A (keyKind' (as.map S9).toArray) Q' (λ_ _ => False) {s with heap:=h', toks:=tk}) /\
   ∀i j C,i<ps.length->j<ps.length->i≠j->C (JM (ps.map (·.1)) i j) {s with heap:=h',toks:=tk}->kas_ask X.prog X.w A κ (as.map S9) i j C {s with heap:=h',toks:=tk})
  (q:rR el H ps Q) (hP:∀s',EP X pins σ Q (.ref h1.objs.size) s'->P (.done (.ret .none)) s') :
  wpAny (model X.prog X.w) A (VV.«list.sort» ⟨[.ref h1.objs.size],[]⟩) P E {s with heap:=h1.push (T6 "list" (as.map S9).toArray 0),toks:=tk}:=by
 obtain⟨m,U,_⟩:=id I.loc;have F:(as.map S9).length=ps.length:=by rw[S5,hl]
 have aj:X.env.locals<h1.objs.size:=by
  obtain⟨o,_,_,e,_⟩:=id U;exact S8 (B _ o e)
 have aq:(h1.push (T6 "list" (as.map S9).toArray 0)).Ns X.env.locals m:=U.at' λo e=>TC _ (B _ o e)
 have O:Ord (as.map S9).length (JM (ps.map (·.1))):=by
  rw[F,<- S5 (f:=(·.1)) (as:=ps)];exact BS hn
 have Y:H h1.objs.size=none:=by
  cases e:H h1.objs.size with
  | none=>rfl
  | some o=>
   obtain⟨ob,z⟩:=obj_some (I.hok _ o e);exact absurd (S8 (B _ ob z)) (U7 _)
 have W:H1 h1.objs.size=none:=by
  cases e:H1 h1.objs.size with
  | none=>rfl
  | some o=>exact absurd (M _ o e) (U7 _)
 refine B2 (lt:=JM (ps.map (·.1))) (n:=0) (L:=X.env.locals) (m:=m) (s:={s with heap:=h1.push (T6 "list" (as.map S9).toArray 0),toks:=tk}) O aq (TV _ rfl) (UG aj) (by rw[F];exact am) (λh2 h' k=>?_) λp h' c hp hs ai N ae=>?_
 ·rw[F]at h2
  obtain⟨κ,k1,k2⟩:=ag h2 h' λb o hb hL e=>k b o hb hL (TC _ e)
  exact⟨κ,k1,λi j C hi hj=>k2 i j C (by rw[F]at hi;exact hi) (by rw[F]at hj;exact hj)⟩
 ·rw[F]at hp hs
  obtain⟨g1,g2⟩:=tP hp hs;have G:∀c u,c≠h1.objs.size->c≠X.env.locals->h1.get? c=some u->h'.get? c=some u:=λc u an ad e=>N c u an ad (TC _ e)
  have lt:∀i∈p.toList,i<ps.length:=λi hi=>by
   have:=(Array.perm_iff_toList_perm.mp hp).mem_iff.mp hi;simpa using this
  have ga:∀i,i<ps.length->as[i]?=some (as.getD i 0)/\ps[i]?=some (ps.getD i ([],.non))/\(as.map S9).getD i T1=.ref (as.getD i 0):=λi hi=>by
   have h1:i<as.length:=by lia
   refine⟨by simp[h1],by simp[hi],by simp[h1]⟩
  have ap:Same H (upd H1 h1.objs.size (.lst (p.toList.map λi=>V.ref (as.getD i 0)))):=λb o e=>by
   obtain⟨ob,z⟩:=obj_some (I.hok b o e);rw[aJ (bI e Y),J b ob z];exact e
  have al:Same H1 (upd H1 h1.objs.size (.lst (p.toList.map λi=>V.ref (as.getD i 0)))):=t5 W;have I2:Inv X pins σ (upd H1 h1.objs.size (.lst (p.toList.map λi=>V.ref (as.getD i 0)))) {s with heap:=h',toks:=tk}:=by
   refine CP I (λb o hL e=>G b o (λz=>absurd (S8 (B b o e)) (by rw[z];exact U7 _)) hL (B b o e)) (λm' af=>?_) (λb o e=>?_) (λb o n e=>?_)
   ·obtain⟨o1,a0,a3,e1,d1,r1⟩:=U
    obtain⟨o2,bj,bc,e2,d2,r2⟩:=af;rw[e1]at e2;cases e2;rw[d1]at d2;injection d2 with d3 d4
    subst d3 d4;have:m=m':=funext λx=>by rw[<- r1.2 x,<- r2.2 x]
    rw[<- this];exact ae
   ·rw[aJ (λz=>absurd (S8 (B b o e)) (by rw[z];exact U7 _))]
    exact J b o e
   ·by_cases hb:b=h1.objs.size
    ·subst hb
     rw[aM]at e;cases e;refine⟨?_,_,c,?_,ai⟩
     ·rw[S5,UL,hp.size,WF]
      lia
     ·show Vals _ (p.toList.map λi=>(as.map S9).getD i T1)
      exact fD p.toList λi hi=>by
       show(as.map S9).getD i T1=S9 (as.getD i 0);exact(ga i (lt i hi)).2.2
    ·rw[aJ hb]at e
     exact aa b o n e h' _ G
  refine hP _ ⟨.ref h1.objs.size,_,I2,rfl,q _ _ _ _ ap Y aM (fD p.toList λi hi=>?_) g1 g2⟩;obtain⟨a1,a2,_⟩:=ga i (lt i hi);exact ao i _ _ a2 a1 _ al
theorem D9{A:TH}{κ:SortKind}{as:List Addr}{i j:Nat}{C:Bool->SZ->Prop}{s:SZ}(hi:i<as.length)(F:j<as.length)(h:wpAny (model X.prog X.w) A (keyLt' κ (.ref (as.getD i 0)) (.ref (as.getD j 0))) C (λ_ _=>False) s):kas_ask X.prog X.w A κ (as.map S9) i j C s:=by
 unfold kas_ask;have B:(as.map S9).getD i T1=.ref (as.getD i 0):=by simp[hi]
 have q:(as.map S9).getD j T1=.ref (as.getD j 0):=by simp[F]
 rw[B,q];exact h
theorem iL:∀ {as:List Addr} {fs:List Value},UB (λa f=>∃q:List Value,IsTup h a q.toArray/\q[0]?=some f) as fs->KatTups h (as.map S9) fs
 | _,_,.nil=>.nil
 | _,_,.cons ⟨q,⟨o,e,c,n,d⟩,z⟩ t=>KatTups.cons e c d (by simpa using z) (iL t)
theorem qW(hc:X.calm=true):CallR X (.builtin "sorted") (λxs H Q=>∃d ps,xs=[.ref d]/\Rd H d (.dT (ps.map kI))/\ps.length<64/\(∀p∈ps,p.1≠[])/\rR R1 H ps Q):=by
 intro pins s σ H xs us Q I r h;obtain⟨d,ps,rfl,hd,an,J,q⟩:=h;obtain⟨u,rfl,ru⟩:=vals1 r;cases ru;obtain⟨hz,am,aj,es,ep,ao,aa,ac⟩:=sA I hd;refine Calls.call_function_entry kind_sorted plain_sorted entry_sorted (args_sorted1 _) ?_;unfold VV.«sorted»;refine SY (m:=checkCount "sorted" 1 1 _) (S1 (SY (kdu_collect (CA am es ep) (I.ok.hd hc) ao (by rw[aa];exact hz) λh1 tk F B items=>?_)));obtain⟨aq,ig⟩:=items;have ai:F.toList.length=ps.length:=by rw[UL,aq,aa]
 obtain⟨bs,as,W⟩:=gF (f:=S9) (R:=λb (p:List Int×V)=>H b=some (.tup (p.1.map V.int))) ps F.toList ai λj p Y=>by
  obtain⟨e,b,M,U,e3,_⟩:=ac j p Y;have hj:j<F.size:=by
   have:=(List.getElem?_eq_some_iff.mp Y).1
   lia
  obtain⟨e',e4,e5⟩:=ig j F[j] (by simp[hj]);rw[M]at e4;cases e4;exact⟨b,by rw[XM];simp[hj,<- e5,U],e3⟩
 have G:bs.length=ps.length:=WE W;rw[as];refine SY (ZK ?_ (by rw[S5,G];exact hz));have ah:(h1.push (T6 "list" (bs.map S9).toArray 0)).get? h1.objs.size=some (T6 "list" (bs.map S9).toArray 0):=TV _ rfl;show wpAny _ _ _ _ _ {s with heap:=h1.push (T6 "list" (bs.map S9).toArray 0),toks:=tk};refine SY (U8 (U1 slot_list_sort ⟨_,ah,rfl⟩ entry_list_sort ?body (args_list_sort _)))
 case body=>
  refine pH (H1:=H) (el:=R1) (Q:=Q) I B an aj G (λ_ _ _=>rfl) (λb o e=>?_) (λb o n e=>absurd (n.symm.trans e) (by simp)) (λj p a Y ha H' sm=>?_) (λh2 h' k=>?_) q λs' hE=>⟨_,rfl,S1 ⟨_,rfl,hE⟩⟩
  ·obtain⟨ob,z⟩:=obj_some (I.hok b o e)
   exact S8 (B b ob z)
  ·obtain⟨a',M,U⟩:=e9 W j p Y
   rw[ha]at M;cases M;exact⟨a,rfl,sm _ _ U⟩
  ·have tI:∀(j:Nat) (p:List Int×V),ps[j]?=some p->∃b,bs[j]?=some b/\TupI h' b p.1:=λj p Y=>by
    obtain⟨b,M,U⟩:=e9 W j p Y;refine⟨b,M,(xE I U).at' λo e=>k b o ?_ ?_ (B b o e)⟩
    ·exact λz=>absurd (S8 (B b o e)) (by rw[z];exact U7 _)
    ·exact λz=>by rw[z,I.free]at U;cases U
   refine⟨tuples' (VP "int" != VP "tuple"),λQ' q'=>?_,λi j C hi hj bd hC=>?_⟩
   ·have first:∀ {bs:List Addr} {ps:List (List Int×V)},bs.length=ps.length->(∀(j:Nat) (p:List Int×V),ps[j]?=some p->∃b,bs[j]?=some b/\TupI h' b p.1)->(∀p∈ps,p.1≠[])->∃fs:List Value,UB (λa f=>∃N:List Value,IsTup h' a N.toArray/\N[0]?=some f) bs fs/\∀v∈fs,∃i t,v=.int i t:=by
     intro bs;induction bs with
     | nil=>intro ps hl _ _;exact⟨[],.nil,λ_ h=>nomatch h⟩
     | cons b bs ih=>
      intro ps hl ht hn;cases ps with
      | nil=>cases hl
      | cons p ps=>
       obtain⟨fs,f1,f2⟩:=ih (ps:=ps) (by simpa using hl) (λj q hq=>ht (j+1) q (by simpa using hq)) λq hq=>hn q (TR _ hq)
       obtain⟨b',M,N,t1,i1⟩:=ht 0 p rfl;have:b'=b:=by simpa using M.symm
       subst this;have J:=hn p (TK ..);obtain⟨ns,pv⟩:=p;dsimp only at i1 J;cases i1 with
       | nil=>exact absurd rfl J
       | cons n t r=>exact⟨.int n t::fs,.cons ⟨_,t1,rfl⟩ f1,λv hv=>(List.mem_cons.mp hv).elim (λz=>⟨n,t,z⟩) (f2 v)⟩
    obtain⟨fs,f1,f2⟩:=first G tI J
    refine kat_kind (s:={s with heap:=h',toks:=tk}) (iL f1) (by rw[<- WE f1,G];lia) (λv hv=>?_) (by decide) q';obtain⟨i,t,rfl⟩:=f2 v hv;exact Looks.of_pure rfl
   ·have ag:i<bs.length:=by lia
    have af:j<bs.length:=by lia
    refine D9 ag af ?_;obtain⟨x,x1,x2⟩:=tI i _ (UK hi);obtain⟨y,y1,y2⟩:=tI j _ (UK hj);have ex:bs.getD i 0=x:=by simp[WJ,x1]
    have ey:bs.getD j 0=y:=by simp[WJ,y1]
    rw[ex,ey];refine B5 (s:={s with heap:=h',toks:=tk}) x2 y2 ?_;unfold JM at hC;have k1:(ps.map (·.1)).getD i []=ps[i].1:=by simp[hi]
    have k2:(ps.map (·.1)).getD j []=ps[j].1:=by simp[hj]
    rw[k1,k2]at hC;exact hC
def DS:V->List V->Hp->VK->Prop:=λx vs H Q=>∃d kvs,x=.ref d/\vs=[]/\Rd H d (.dT kvs)/\∀r,H r=none->Q (.ref r) (upd H r (.ext λh=>h.IsItemsView r d))
theorem CB:NH X "dict.items" DS:=by
 intro pins s σ H x vs v us Q I N Y h;obtain⟨d,kvs,rfl,rfl,W,q⟩:=h;cases N;have B:=Y.zero;subst B;obtain⟨z,y,xs,r,o,es,ep,h1,h2,h3,_⟩:=(show ObjOk X.prog X.w H s.heap d (.dT kvs)from W.ok I.hok);have G:s.TypeIs (.ref d) "dict" := ⟨o,h1,h2.1⟩;refine U1 PySem.F.slot_dict_items G PySem.F.entry_dict_items ?_ (PySem.F.args_dict_items_1 _);unfold VV.«dict.items»;refine SY ?_;unfold Builtin.Dict.noArgs;refine SY (wpAny_notOrdered_dict G ?_);show wpAny _ _ (pure d) _ _ s;refine S1 ?_;show wpAny _ _ (Y6 d >>= _) _ _ s;unfold Y6;rw[if_neg (by rw[y];exact TN)];refine SY (S1 (SY (U2 (S1 ⟨_,rfl,?_⟩))));have U:H s.heap.objs.size=none:=I.fresh;refine⟨.ref s.heap.objs.size,_,I.laid (t':=s.toks) (o:=.ext λh=>h.IsItemsView s.heap.objs.size d) (λ_ _ q=>TC _ q) (TF _) ⟨⟨_,TV _ rfl,rfl,rfl⟩,⟨_,TV _ rfl⟩,λa b ⟨o,M,J⟩ k=>⟨o,k o M,J⟩⟩,rfl,q _ U⟩
def BA(H:Hp)(as:List Addr)(ds:List (List V)):Hp:=λb=>match as.findIdx? (λa=>decide (a=b))with
 | some j=>some (.tup (ds.getD j []))
 | none=>H b
theorem jD(h:¬ b∈as):BA H as ds b=H b:=by
 unfold BA;have:as.findIdx? (λa=>decide (a=b))=none:=by
  rw[List.findIdx?_eq_none_iff];intro a q;exact decide_eq_false λe=>h (e ▸ q)
 rw[this]
theorem xJ(h:b∈as):∃j,as[j]?=some b/\BA H as ds b=some (.tup (ds.getD j [])):=by
 unfold BA;cases e:as.findIdx? (λa=>decide (a=b))with
 | none=>
  rw[List.findIdx?_eq_none_iff]at e;have:=e b h;simp at this
 | some j=>
  rw[zaF]at e;obtain⟨h1,h2,_⟩:=e;exact⟨j,by rw[UK h1,of_decide_eq_true h2],rfl⟩
theorem qX(hc:X.calm=true)(hu:X.A.units+64<cLine):CallR X (.builtin "sorted") (λxs H Q=>∃r d ps,xs=[.ref r]/\H r=some (.ext λh=>h.IsItemsView r d)/\Rd H d (.dT (ps.map kI))/\ps.length<64/\rR R3 H ps Q):=by
 intro pins s σ H xs us Q I rr h;obtain⟨r,d,ps,rfl,hr,hd,bg,q⟩:=h;obtain⟨u,rfl,ru⟩:=vals1 rr;cases ru;obtain⟨hz,cg,an,es,ep,bh,al,ak⟩:=sA I hd;have hv:s.heap.IsItemsView r d:=(I.hok r _ hr).1;have nL:∀ {b:Addr} {o:HO},H b=some o->b≠X.env.locals:=λe z=>by rw[z,I.free]at e;cases e
 refine Calls.call_function_entry kind_sorted plain_sorted entry_sorted (args_sorted1 _) ?_;unfold VV.«sorted»;refine SY (m:=checkCount "sorted" 1 1 _) (S1 (SY (qS (I.ok.hd hc) hv bh (by rw[al];exact hz) λh1 tk as G a4 ac=>?_)));have B:as.length=ps.length:=by rw[a4,al]
 obtain⟨bs,a5,aq⟩:=gF (f:=S9) (R:=λb (p:List Int×V)=>H b=some (.tup (p.1.map V.int))) ps (es.toList.map (·.key)) (by rw[S5,UL,al]) λj p hp=>by
  obtain⟨e,b,Y,N,e3,_⟩:=ak j p hp;exact⟨b,by rw[TX,XM,Y];exact congrArg some N,e3⟩
 have am:bs.length=ps.length:=WE aq
 -- the j-th pair
 have F:∀(j:Nat) (p:List Int×V),ps[j]?=some p->∃a b v,as[j]?=some a/\bs[j]?=some b/\H b=some (.tup (p.1.map V.int))/\RelV p.2 v/\s.heap.objs.size<a/\h1.get? a=some {cls:=.type "tuple",data:=.seq #[.ref b,v]}:=λj p hp=>by
  obtain⟨e,b,Y,N,e3,e4⟩:=ak j p hp;have J:j<ps.length:=(List.getElem?_eq_some_iff.mp hp).1;obtain⟨b',f1,f2⟩:=e9 aq j p hp;have ap:as[j]?=some (as[j]'(by lia)):=UK (by lia);obtain⟨e',g1,g2⟩:=ac.pair j _ ap;rw[Y]at g1;cases g1;have hb:b=b':=by
   have z:(es.toList.map (·.key))[j]?=some (.ref b):=by rw[TX,XM,Y];exact congrArg some N
   rw[a5,TX,f1]at z;have:=T5 z;injection this with this
   exact this.symm
  subst hb;exact⟨_,b,e.val,ap,f1,e3,e4,ac.above _ (zaq _),by rw[g2,N]⟩
 have ab:∀(i j:Nat) (a:Addr),as[i]?=some a->as[j]?=some a->i=j:=λi j a hi J=>by
  have li:i<ps.length:=by rw[<- B];exact(List.getElem?_eq_some_iff.mp hi).1
  have lj:j<ps.length:=by rw[<- B];exact(List.getElem?_eq_some_iff.mp J).1
  obtain⟨a1,b1,v1,M,_,x2,_,_,x3⟩:=F i _ (UK li);obtain⟨a2,b2,v2,y1,_,W,_,_,y3⟩:=F j _ (UK lj);rw[hi]at M;cases M;rw[J]at y1;cases y1;rw[x3]at y3;injection y3 with y3
  injection y3 with _ _ y3 _
  injection y3 with y3 _
  have hb:b1=b2:=by
   have:=congrArg (λz:Array Value=>z[0]?) y3;simpa using this
  subst hb;rw[x2]at W;injection W with W
  injection W with W
  have:ps[i].1=ps[j].1:=by
   have inj:∀ {a b:List Int},a.map V.int=b.map V.int->a=b:=by
    intro a;induction a with
    | nil=>intro b h;cases b with
     | nil=>rfl
     | cons _ _=>cases h
    | cons x xs ih=>intro b h;cases b with
     | nil=>cases h
     | cons y ys=>
      rw[TB,TB]at h;injection h with h1 h2
      injection h1 with h1
      rw[h1,ih h2]
   exact inj W
  have Y:(ps.map (·.1))[i]'(by rw[S5];exact li)=(ps.map (·.1))[j]'(by rw[S5];exact lj):=by simpa using this
  exact(XS an).mp Y
 have aw:∀(j:Nat) (p:List Int×V) (b:Addr),ps[j]?=some p->bs[j]?=some b->((bs.zip ps).map λx=>[V.ref x.1,x.2.2]).getD j []=[V.ref b,p.2]:=λj p b h1 h2=>by
  have:((bs.zip ps).map λx=>[V.ref x.1,x.2.2])[j]?=some [V.ref b,p.2]:=by
   rw[TX,(List.getElem?_zip_eq_some (z:=(b,p))).mpr ⟨h2,h1⟩];rfl
  simp[WJ,this]
 have aj:∀b o,s.heap.get? b=some o->¬ b∈as:=λb o e hb=>absurd (S8 e) (Nat.not_lt.mpr (YK (ac.above b hb)))
 have ar:Same H (BA H as ((bs.zip ps).map λx=>[V.ref x.1,x.2.2])):=λb o e=>by
  obtain⟨ob,z⟩:=obj_some (I.hok b o e);rw[jD (aj b ob z)];exact e
 refine SY (ZK ?_ (by rw[S5,B];exact hz));have bc:(h1.push (T6 "list" (as.map S9).toArray 0)).get? h1.objs.size=some (T6 "list" (as.map S9).toArray 0):=TV _ rfl;show wpAny _ _ _ _ _ {s with heap:=h1.push (T6 "list" (as.map S9).toArray 0),toks:=tk};refine SY (U8 (U1 slot_list_sort ⟨_,bc,rfl⟩ entry_list_sort ?body (args_list_sort _)))
 case body=>
  refine pH (H1:=BA H as ((bs.zip ps).map λx=>[V.ref x.1,x.2.2])) (el:=R3) (Q:=Q) I G bg an B (λb o e=>jD (aj b o e)) (λb o e=>?_) (λb o n e h' H' k=>?_) (λj p a hp ha H' sm=>?_) (λh2 h' k=>?_) q λs' hE=>⟨_,rfl,S1 ⟨_,rfl,hE⟩⟩
  ·by_cases hb:b∈as
   ·obtain⟨j,J⟩:=List.mem_iff_getElem?.mp hb
    have lj:j<ps.length:=by rw[<- B];exact(List.getElem?_eq_some_iff.mp J).1
    obtain⟨a,b',v,M,_,_,_,_,x3⟩:=F j _ (UK lj);rw[J]at M;cases M;exact S8 x3
   ·rw[jD hb]at e
    obtain⟨ob,z⟩:=obj_some (I.hok b o e);exact S8 (G b ob z)
  ·have hb:b∈as:=Classical.byContradiction λz=>by rw[jD z,n]at e;cases e
   obtain⟨j,J,N⟩:=xJ (H:=H) (ds:=(bs.zip ps).map λx=>[V.ref x.1,x.2.2]) hb;rw[N]at e;cases e;have lj:j<ps.length:=by rw[<- B];exact(List.getElem?_eq_some_iff.mp J).1
   obtain⟨a,b',v,M,x2,_,x4,x5,x3⟩:=F j _ (UK lj);rw[J]at M;cases M;rw[aw j _ b' (UK lj) x2];have au:b≠X.env.locals:=UG (W7 I.lt x5);exact⟨by show 2<=S7;decide,[.ref b',v],.cons rfl (.cons x4 .nil),_,k b _ (TY (S8 x3)) au x3,rfl,0,rfl,rfl⟩
  ·obtain⟨a',b,v,M,x2,x3,x4,_,_⟩:=F j p hp
   rw[ha]at M;cases M;obtain⟨j',bb,N⟩:=xJ (H:=H) (as:=as) (ds:=(bs.zip ps).map λx=>[V.ref x.1,x.2.2]) (UU ha);have:=ab j' j a bb ha;subst this;rw[aw j' p b hp x2]at N;exact⟨a,b,rfl,sm _ _ N,sm _ _ (ar _ _ x3)⟩
  ·have pI:∀(j:Nat) (p:List Int×V),ps[j]?=some p->∃a b v,as[j]?=some a/\bs[j]?=some b/\y8 h' a b v p.1:=λj p hp=>by
    obtain⟨a,b,v,M,x2,x3,x4,x5,x6⟩:=F j p hp;refine⟨a,b,v,M,x2,⟨_,k a _ (TY (S8 x6)) (UG (W7 I.lt x5)) x6,rfl,0,rfl⟩,(xE I x3).at' λo e=>k b o ?_ (nL x3) (G b o e)⟩;exact λz=>absurd (S8 (G b o e)) (by rw[z];exact U7 _)
   refine⟨tuples' (VP "tuple" != VP "tuple"),λQ' q'=>?_,λi j C hi J bf hC=>?_⟩
   ·have pr:UB (λa (f:Value)=>∃U:List Value,IsTup h' a U.toArray/\U[0]?=some f) as (bs.map S9):=by
     have:∀ {as bs:List Addr} {ps:List (List Int×V)},as.length=ps.length->bs.length=ps.length->(∀(j:Nat) (p:List Int×V),ps[j]?=some p->∃a b v,as[j]?=some a/\bs[j]?=some b/\y8 h' a b v p.1)->UB (λa (f:Value)=>∃U:List Value,IsTup h' a U.toArray/\U[0]?=some f) as (bs.map S9):=by
      intro as;induction as with
      | nil=>intro bs ps h1 h2 _;cases ps with
       | nil=>cases bs with
        | nil=>exact .nil
        | cons _ _=>cases h2
       | cons _ _=>cases h1
      | cons a as ih=>intro bs ps h1 h2 h3;cases ps with
       | nil=>cases h1
       | cons p ps=>cases bs with
        | nil=>cases h2
        | cons b bs=>
         obtain⟨a',b',v,y1,W,y3,_⟩:=h3 0 p rfl;have Y:a'=a:=by simpa using y1.symm
         have N:b'=b:=by simpa using W.symm
         subst Y N;exact .cons ⟨[.ref b',v],y3,rfl⟩ (ih (by simpa using h1) (by simpa using h2) λj q hq=>h3 (j+1) q (by simpa using hq))
     exact this B am pI
    refine kat_kind (s:={s with heap:=h',toks:=tk}) (iL pr) (by rw[S5,am];lia) (λv hv=>?_) (by decide) q';obtain⟨b,hb,rfl⟩:=List.mem_map.mp hv;obtain⟨j,J⟩:=List.mem_iff_getElem?.mp hb;have lj:j<ps.length:=by rw[<- am];exact(List.getElem?_eq_some_iff.mp J).1
    obtain⟨a,b',v,_,W,_,U,⟨o,Y,N,_⟩,_⟩:=pI j _ (UK lj);rw[J]at W;cases W;rw[<- N];exact(show Looks _ h' (typeOf (.ref b)) o.cls from(Looks.ld Y).andThen .now)
   ·refine D9 (by lia) (by lia) ?_
    obtain⟨x,b1,v1,M,_,x2⟩:=pI i _ (UK hi);obtain⟨y,b2,v2,y1,_,W⟩:=pI j _ (UK J);have ex:as.getD i 0=x:=by simp[WJ,M]
    have ey:as.getD j 0=y:=by simp[WJ,y1]
    rw[ex,ey];have be:ps[i].1≠ps[j].1:=λz=>bf (by
     have Y:(ps.map (·.1))[i]'(by rw[S5];exact hi)=(ps.map (·.1))[j]'(by rw[S5];exact J):=by simpa using z
     exact(XS an).mp Y)
    refine AY (s:={s with heap:=h',toks:=tk}) x2 W be (by show X.A.units+1+1<cLine;lia) ?_;unfold JM at hC;have k1:(ps.map (·.1)).getD i []=ps[i].1:=by simp[hi]
    have k2:(ps.map (·.1)).getD j []=ps[j].1:=by simp[J]
    rw[k1,k2]at hC;exact hC
end
theorem AR{prog:S6}{w:World}{A:TH}{E:Value->SZ->Prop}{s:SZ}{t B:Addr}{items:Array Value}{M N:Value}{lo hi:Option Int}{Q:Value->SZ->Prop}(q:IsTup s.heap t items)(hs:s.heap.IsSliceOf B M N .none)(U:VW M lo)(Y:VW N hi)
  (hw:HT.sIx items.size 0 lo=0/\HT.sIx items.size items.size hi=items.size) (h:Q (.ref t) s):wpAny (model prog w) A (VX (.ref t) (.ref B)) Q E s:=by
 obtain⟨os,G,F,W⟩:=id hs;have tt:s.TypeIs (.ref B) "slice" := ⟨os,G,F⟩;unfold VX;try with_reducible refine U8 ?_
 first|refine SY (S1 ?_)|skip
 refine SY (wpAny_sequenceKey q.typeIs (by decide) ?_);refine SY (VY (name:=U5 "__getitem__") q.typeIs YW (U1 YW q.typeIs entry_tuple_getitem ?_ (args_tuple_getitem _ _)));show wpAny _ _ (Builtin.Tuple.tupleItemsOf (.ref t) >>= _) _ _ s;refine SY (tupleItemsOf_ q (SY (YX tt ?_)));rw[if_pos (by decide)];refine SY (HT.eP hs U Y ?_);have J:(((HT.sIx items.size 0 lo:Nat):Int) == 0 && (1:Int) == 1 && (HT.sIx items.size items.size hi-HT.sIx items.size 0 lo) == items.size)=true:=by
  rw[hw.1,hw.2];simp
 show wpAny _ _ (if(((HT.sIx items.size 0 lo:Nat):Int) == 0 && (1:Int) == 1 && (HT.sIx items.size items.size hi-HT.sIx items.size 0 lo) == items.size)=true then _ else _) _ _ s;rw[if_pos J];refine SY (m:=Builtin.Tuple.tupleIsExact _) ?_;unfold Builtin.Tuple.tupleIsExact;refine SY (YX q.typeIs (S1 ?_));rw[if_pos (by decide)];exact SY (wpAny_rule (S1 ⟨_,rfl,S1 h⟩))
section
variable {X:Cx}
def PX(K:S2):V->Option Int->Option Int->Hp->VK->Prop:=λx lo hi H Q=>∃a xs,x=.ref a/\SqT K H a xs/\(HT.sIx xs.length 0 lo=0/\HT.sIx xs.length xs.length hi=xs.length)/\Q (.ref a) H
theorem F4:SlR X (PX X.K):=by
 intro pins s σ H x v Y vu lo hi W Q I M hs J N h;obtain⟨a,xs,rfl,U,hw,q⟩:=h;cases M;obtain⟨F,r,G,hz⟩:=I.tuple U;have B:F.toArray.size=xs.length:=by rw[TL];exact r.length.symm
 exact⟨"tuple",_,PyProof.Rows.slot_tuple_getitem.lookup,G.typeIs,AR G hs J N (by rw[B];exact hw) ⟨.ref a,H,I,rfl,q⟩⟩
theorem F1:SlR X (λx lo hi H Q=>O6 X.K x lo hi H Q\/PX X.K x lo hi H Q):=J5.or F4
end
theorem n9(x:ObjOk P w H h d (.dT kvs)):(d == UY)=false/\kvs.length<=S7/\∃es ep,RawD h d es ep/\es.size=kvs.length /\
  ∀(j:Nat) (p:List Key×V),kvs[j]?=some p->∃(e:VJ) (b:Addr),es[j]?=some e/\e.key=.ref b/\H b=some (.tup (p.1.map kV))/\RelV p.2 e.val/\e.hash=(VQ (bK P w)).hash p.1:=by
 obtain⟨z,y,xs,r,o,es,ep,h1,h2,U,F,Y⟩:=x;have hl:xs.length=kvs.length:=(WE r).symm;have B:es.size=kvs.length:=by
  have:=congrArg V8 F;rw[UL,S5]at this
  lia
 have get:∀ {kvs:List (List Key×V)} {xs:List (List Key×Addr×Value)},UB (λ(p:List Key×V) (q:List Key×Addr×Value)=>p.1=q.1/\H q.2.1=some (.tup (p.1.map kV))/\RelV p.2 q.2.2) kvs xs->
   ∀(j:Nat) (p:List Key×V),kvs[j]?=some p->∃q,xs[j]?=some q/\p.1=q.1/\H q.2.1=some (.tup (p.1.map kV))/\RelV p.2 q.2.2:=by
  intro kvs xs r;induction r with
  | nil=>intro j p e;simp at e
  | cons h t ih=>
   intro j p e;cases j with
   | zero=>simp at e;subst e;exact⟨_,rfl,h⟩
   | succ j=>exact ih j p (by simpa using e)
 refine⟨y,z,es,ep,⟨o,h1,h2,U⟩,B,λj p e=>?_⟩;obtain⟨q,J,G,M,N⟩:=get r j p e;have W:es[j]?=some (entryOfKey (VQ (bK P w)) q):=by
  rw[<- XM,F,TX,J];rfl
 exact⟨_,q.2.1,W,rfl,M,N,by show(VQ (bK P w)).hash q.1=_;rw[G]⟩
def P2(d:Addr)(o:Obj)(kvs:List (List Key×V)):It:=
 ⟨λi H=>H d=some (.frz o (.dT kvs))/\i<kvs.length,λi H x H'=>H'=H/\∃k v b,kvs[i]?=some (k,v)/\x=.ref b/\H b=some (.tup (k.map kV)),λi H=>H d=some (.frz o (.dT kvs))/\kvs.length<=i⟩
theorem z9{P:S6}{w:World}{K:S2}{tg:Expr}(d it:Addr)(o:Obj)(kvs:List (List Key×V))(es:Array VJ)(ep:Nat)(hd:o.data=.dict es ep)(ax:es.size=kvs.length):Turn P w K tg (P2 d o kvs) [it] it (λi h=>h.IsKeyIter it d i es.size ep) where
 mem:=by simp
 obj:=λi h st b B=>by
  have e:b=it:=by simpa using B
  subst e;obtain⟨o,N,e2,e3⟩:=st;exact⟨o,N,λv z=>by rw[e3]at z;cases z⟩
 keep:=λi h h' st k=>st.at λo e=>k it (by simp) o e
 item:=by
  intro X hP hw hK hc i pins s σ H E I U st hg;subst hP hw hK;obtain⟨h1,h2⟩:=hg;obtain⟨J,g2⟩:=(show ObjOk X.prog X.w H s.heap d (.frz o (.dT kvs))from I.hok d _ h1);obtain⟨_,_,W,al,⟨o',G,r2,Y⟩,M,q⟩:=n9 g2;rw[J]at G;cases G;rw[hd]at Y;injection Y with r4 r5
  subst r4 r5;obtain⟨f0,f1,f2,f3,f4,f5⟩:=U it (by simp);have hi:i<es.size:=by lia
  refine t7 st ⟨o,J,r2,hd⟩ hi λh' F sb=>?_
  have I1:Inv X pins σ H {s with heap:=h'}:=I.turned (t':=s.toks) (λb o B e=>(sb.2 b B).trans e) f0 f1 f3 f4 f5;obtain⟨e,b,N,e2,e3,_⟩:=q i _ (UK h2);have ee:es[i]=e:=by
   rw[zam hi]at N;exact T5 N
  obtain⟨o2,q1,q2,q3⟩:=id F;refine⟨_,rfl,oK (s:={s with heap:=h'}) (n := "dict_keyiterator") q1 q2 q3 (by decide) ⟨.ref b,H,I1,?_,⟨rfl,kvs[i].1,kvs[i].2,b,UK h2,rfl,e3⟩,F,λc B=>(U c B).1⟩⟩;rw[ee,e2];rfl
 done:=by
  intro X hP hw hK hc i pins s σ H E I U st hg;subst hP hw hK;obtain⟨h1,h2⟩:=hg;obtain⟨J,g2⟩:=(show ObjOk X.prog X.w H s.heap d (.frz o (.dT kvs))from I.hok d _ h1);obtain⟨_,_,W,al,⟨o',G,r2,Y⟩,M,q⟩:=n9 g2;rw[J]at G;cases G;obtain⟨f0,f1,f2,f3,f4,f5⟩:=U it (by simp);exact xX (I.ok.hd hc) st ⟨o,J,r2,hd⟩ (by lia) λh' eb=>⟨rfl,I.turned (t':=s.toks) (λb o B e=>eb b o B e) f0 f1 f3 f4 f5⟩
 self:=λ_ _ _ _ _ st h=>wpAny_pyIter_keyiter st h
theorem vS(I:Inv X pins σ H s)(B:H d=some (.dT kvs))(G:s.heap.get? d=some o):Inv X pins σ (upd H d (.frz o (.dT kvs))) s:=by
 have ne:∀b u,H b=some u->(∀z,u≠.dT z)->b≠d:=λb u e n z=>by
  subst z;rw[B]at e;exact n kvs (T5 e).symm
 have J:=I.un (h':=s.heap) (t':=s.toks) (H':=upd H d (.frz o (.dT kvs))) ⟨λb u q _ _ _=>q,λb u q _ _ _=>⟨u.slots,q⟩,λb u q n _=>by rw[aJ (λz=>by rw[z,B]at n;cases n)];exact n,λb u q _=>⟨u,q⟩,
  λb xs q=>by rw[aJ (ne b _ q (λz h=>by cases h))];exact q,λb u xs q=>by rw[aJ (ne b _ q (λz h=>by cases h))];exact q,λb ps q=>⟨#[],by rw[aJ (ne b _ q (λz h=>by cases h)),q];simp⟩⟩ (λb u e=>?_)
 ·exact J
 ·have st:∀ {b:Addr} {u:HO},ObjOk X.prog X.w H s.heap b u->ObjOk X.prog X.w (upd H d (.frz o (.dT kvs))) s.heap b u:=λx=>x.stay (λ_ _ _ q=>q) (λc q=>by rw[aJ (ne c _ q (λz h=>by cases h))];exact q) λc xs q=>by rw[aJ (ne c _ q (λz h=>by cases h))];exact q
  by_cases F:b=d
  ·subst F
   rw[aM]at e;cases e;exact⟨G,st (I.hok b _ B)⟩
  ·rw[aJ F]at e
   exact st (I.hok b u e)
section
variable {X:Cx}{tg:Expr}
end
section
variable {X:Cx}
end
end My
namespace My
open PySem PySem.Spec PyProof.Rows L2 PySem.SeqAt
abbrev Tm:=List Int×Int
def look(cs:List Tm)(k:List Int):Option Int:=(cs.find? λt=>decide (t.1=k)).map (·.2)
def put(cs:List Tm)(k:List Int)(c:Int):List Tm:=if(cs.any λt=>decide (t.1=k))=true then cs.map (λt=>if t.1=k then(t.1,c)else t)else cs++[(k,c)]
theorem jK{a b:List Int}:(a.map (TQ:Int->Key)=b.map TQ)↔a=b:=by
 constructor
 ·intro h
  induction a generalizing b with
  | nil=>cases b with
   | nil=>rfl
   | cons _ _=>cases h
  | cons x xs ih=>cases b with
   | nil=>cases h
   | cons y ys=>
    rw[TB,TB]at h;injection h with h1 h2
    injection h1 with h1
    rw[h1,ih h2]
 ·intro h;rw[h]
theorem rO(cs:List Tm)(k:List Int)(c:Int):(put cs k c).length<=cs.length+1:=by
 unfold put;split
 ·rw[S5];lia
 ·rw[T8];simp
theorem BU:∀t∈put cs k c,t.1=k\/∃u∈cs,u.1=t.1:=by
 intro t q;unfold put at q;split at q
 ·obtain⟨u,B,e⟩:=List.mem_map.mp q
  split at e
  ·rename_i z;subst e;exact .inl z
  ·subst e;exact .inr ⟨u,B,rfl⟩
 ·rcases List.mem_append.mp q with h|h
  ·exact .inr ⟨t,h,rfl⟩
  ·rw[List.mem_singleton.mp h];exact .inl rfl
theorem z4(h:(cs.map (·.1)).Nodup):((put cs k c).map (·.1)).Nodup:=by
 unfold put;split
 ·rw[T7]
  have:((·.1) ∘ λt:Tm=>if t.1=k then(t.1,c)else t)=(·.1):=by
   funext t;show(if t.1=k then(t.1,c)else t).1=t.1;split <;> rfl
  rw[this];exact h
 ·rename_i z
  rw[U3];refine L2.xW h λq=>z ?_
  obtain⟨t,B,e⟩:=List.mem_map.mp q;exact List.any_eq_true.mpr ⟨t,B,decide_eq_true e⟩
theorem DD(h:(cs.map (·.1)).Nodup)(q:t∈cs):look cs t.1=some t.2:=by
 induction cs with
 | nil=>cases q
 | cons u cs ih=>
  rw[TB,List.nodup_cons]at h;rcases List.mem_cons.mp q with e|e
  ·subst e;simp[look]
  ·have ne:¬ u.1=t.1:=λz=>h.1 (List.mem_map.mpr ⟨t,e,z.symm⟩)
   have:=ih h.2 e;unfold look at this ⊢;rw[UV,decide_eq_false ne];exact this
def iX(cs:List Tm)(t:Tm):List Tm:=put cs t.1 ((look cs t.1).getD 0+t.2)
def aR(ts:List Tm):List Tm:=ts.foldl iX []
theorem pX(ts:List Tm)(t:Tm):aR (ts++[t])=iX (aR ts) t:=by
 unfold aR;rw[List.foldl_append];rfl
theorem cR:∀(ts:List Tm),(aR ts).length<=ts.length/\((aR ts).map (·.1)).Nodup/\∀t∈aR ts,∃u∈ts,u.1=t.1:=by
 intro ts;have F:∀(ts:List Tm) (cs:List Tm),(cs.map (·.1)).Nodup->(ts.foldl iX cs).length<=cs.length+ts.length/\((ts.foldl iX cs).map (·.1)).Nodup/\∀t∈ts.foldl iX cs,(∃u∈ts,u.1=t.1)\/∃u∈cs,u.1=t.1:=by
  intro ts;induction ts with
  | nil=>intro cs h;exact⟨by simp,h,λt B=>.inr ⟨t,B,rfl⟩⟩
  | cons x ts ih=>
   intro cs h;obtain⟨a,b,c⟩:=ih (iX cs x) (z4 h);refine⟨?_,b,λt B=>?_⟩
   ·have:=rO cs x.1 ((look cs x.1).getD 0+x.2)
    rw[ZL,UO];unfold iX at *
    lia
   ·rcases c t B with⟨u,q,e⟩|⟨u,q,e⟩
    ·exact .inl ⟨u,TR _ q,e⟩
    ·rcases BU u q with z|⟨v,G,z⟩
     ·exact .inl ⟨x,TK ..,z.symm.trans e⟩
     ·exact .inr ⟨v,G,z.trans e⟩
 obtain⟨a,b,c⟩:=F ts [] List.nodup_nil;refine⟨by have:=a;simpa[aR]using this,b,λt B=>?_⟩;rcases c t B with h|⟨u,q,_⟩
 ·exact h
 ·cases q
def eA(M:Int)(q:List Tm):List Tm:=(q.filter λt=>decide (t.2%M≠0)).map λt=>(t.1,t.2%M)
def TS(H H':Hp):Prop:=∀b xs,H b=some (.tup xs)->H' b=some (.tup xs)
theorem Same.ts(e:Same H H'):TS H H':=λb xs h=>e b _ h
theorem TS.trans(a:TS H H1)(b:TS H1 H2):TS H H2:=λc xs h=>b c xs (a c xs h)
theorem TS.put(h:H l=some u)(n:∀xs,u≠.tup xs):TS H (upd H l o):=λb xs q=>by
 rw[aJ (λz=>by subst z;rw[h]at q;exact n xs (T5 q))];exact q
noncomputable def hT(ns:List Int):Int:=reduceHash (Builtin.Tuple.tupleHashOf (ns.map hashInt))
end My
namespace My
open PySem PySem.Spec PyProof.Rows L2
noncomputable def R8(t:Bool):String:=if t=true then "tuple_iterator" else "list_iterator"
noncomputable def R5(t:Bool):String:=if t=true then "tuple" else "list"
def SIt(t:Bool)(h:Heap)(i l:Addr)(k:Nat):Prop:=∃o,h.get? i=some o/\o.cls=.type (R8 t)/\o.data=.fields #[.ref l,.int k 0]
def SSq(t:Bool)(h:Heap)(l:Addr)(xs:Array Value):Prop:=∃o,h.get? l=some o/\o.cls=.type (R5 t)/\∃n,o.data=.seq xs n
theorem SIt.to(x:SIt t h i l k)(e:∀o,h.get? i=some o->h'.get? i=some o):SIt t h' i l k:=let ⟨o,ho,r⟩:=x;⟨o,e o ho,r⟩
theorem SSq.to(x:SSq t h l xs)(e:∀o,h.get? l=some o->h'.get? l=some o):SSq t h' l xs:=let ⟨o,ho,r⟩:=x;⟨o,e o ho,r⟩
section
variable {prog:S6}{w:World}{A:TH}{E:Value->SZ->Prop}{s:SZ}
theorem next_item(B:SIt t s.heap it l i)(W:SSq t s.heap l xs)(U:xs[i]?=some x)
  (N:∀h',SIt t h' it l (i+1)->UE it s.heap h'->Q x {s with heap:=h'}):wpAny (model prog w) A (ZM (.ref it)) Q E s:=by
 cases t with
 | false=>exact wpAny_nextOf_list_item (it:=it) (l:=l) (items:=xs) B W U N
 | true=>
  have q:s.heap.IsTupleIter it l i:=B;obtain⟨o,G,Y,F⟩:=B;obtain⟨ol,M,_,nl,J⟩:=W;unfold ZM;refine SY (VY (name:=U5 "__next__") q.typeIs ZN (U1 ZN q.typeIs zaG ?_ (zaH _)));show wpAny _ _ (field (.ref it) 0 >>= _) _ _ _;refine SY (UP G F (x:=.ref l) rfl ?_);show wpAny _ _ (if(S9 l == T1)=true then _ else _) _ _ _;rw[if_neg (show ¬ ((S9 l == T1)=true)from TN)];show wpAny _ _ (field (.ref it) 1 >>= _) _ _ _;refine SY (UP G F (x:=.int i 0) rfl ?_);show wpAny _ _ (seqItems? (.ref l) >>= _) _ _ _;refine SY (ZO M J ?_);simp only[VM,U];refine SY (X6 G F (by simp) (S1 ⟨x,rfl,S1 (N _ ⟨_,WI _ G (Obj.isFreed_of_fields (ZC F _)),(Obj.cls_mapFields ..).trans Y,by rw[ZC F];simp[UH]⟩ (WX ..))⟩))
theorem next_end(G:A.handled=none)(B:SIt t s.heap it l i)(Y:SSq t s.heap l xs)(W:xs[i]?=none)
  (U:∀h' e,X7 it s.heap h'->(∃o,h'.get? e=some o/\o.cls=.type "StopIteration")->E (.ref e) {s with heap:=h'}):wpAny (model prog w) A (ZM (.ref it)) Q E s:=by
 cases t with
 | false=>exact wpAny_nextOf_list_end (it:=it) (l:=l) (items:=xs) G B Y W U
 | true=>
  have q:s.heap.IsTupleIter it l i:=B;obtain⟨o,F,hc,M⟩:=B;obtain⟨ol,N,_,nl,J⟩:=Y;unfold ZM;refine SY (VY (name:=U5 "__next__") q.typeIs ZN (U1 ZN q.typeIs zaG ?_ (zaH _)));show wpAny _ _ (field (.ref it) 0 >>= _) _ _ _;refine SY (UP F M (x:=.ref l) rfl ?_);show wpAny _ _ (if(S9 l == T1)=true then _ else _) _ _ _;rw[if_neg (show ¬ ((S9 l == T1)=true)from TN)];show wpAny _ _ (field (.ref it) 1 >>= _) _ _ _;refine SY (UP F M (x:=.int i 0) rfl ?_);show wpAny _ _ (seqItems? (.ref l) >>= _) _ _ _;refine SY (ZO N J ?_);simp only[VM,W];refine SY (wpAny_rule (SY (X6 F M (by simp) ?_)));show wpAny _ _ (newExc (.type "StopIteration") [] >>= _) _ _ _;refine SY ?_;simp only[newExc,newTuple];refine SY (U2 ?_ (by size_fits));refine SY (m:=XF _ _) (ZD (a:=T1) (by first|rfl|(simp only[XF];rfl)) ?_);refine U2 ?_ (by size_fits);simp only[raiseNew]
  refine SY (wpAny_handled ?_);first|rw[show A.in1.handled=none from G]|rw[G]
  refine SY (S1 (wpAny_throw ?_));exact U _ _ (((WX ..).extBut.push _).push _) ⟨_,TV _ rfl,rfl⟩
abbrev RV(t:Bool)(l:Addr):Obj:={cls:=.type (R8 t),data:=.fields #[.ref l,.int 0 0]}
end
def IM(K:S2)(t:Bool)(H:Hp)(a:Addr)(xs:List V):Prop:=if t=true then SqT K H a xs else SqL K H a xs
theorem wQ(I:Inv X pins σ H s)(h:IM X.K t H a xs):∃q:List Value,Vals xs q/\SSq t s.heap a q.toArray:=by
 cases t with
 | true=>
  obtain⟨q,r,p,_⟩:=I.tuple (show SqT X.K H a xs from h);exact⟨q,r,p⟩
 | false=>
  obtain⟨q,r,p,_⟩:=I.list (show SqL X.K H a xs from h);exact⟨q,r,PlainL.isList p⟩
theorem FQ(I:Inv X pins σ H s)(h:IM X.K t H a xs)(h':IM X.K t H a ys):xs=ys:=by
 cases t with
 | true=>exact I.tuple_inj (show SqT X.K H a xs from h) h'
 | false=>exact I.list_inj (show SqL X.K H a xs from h) h'
theorem mT{pins:List (Addr×Obj)}{t':Nat}{fp:List Addr}(I:Inv X pins σ H s)(G:∀b∈fp,g5 X pins H b)(k:∀b o,b∉fp->s.heap.get? b=some o->h'.get? b=some o):Inv X pins σ H {s with heap:=h',toks:=t'}:=by
 have B:∀b u,H b=some u->b∉fp:=λb u e z=>by rw[(G b z).1]at e;cases e
 refine I.call' (s':={s with heap:=h',toks:=t'}) (ch:=fp) rfl ⟨λb o e _ _ F=>k b o F e,λb o e _ _ F=>⟨o.slots,k b o F e⟩,λ_ _ _ n _=>n,λb o e F=>⟨o,k b o F e⟩,λ_ _ q=>q,λ_ _ _ q=>q,λb ps q=>⟨#[],by rw[q];simp⟩⟩ (λb u e=>?_) I.bare λb Y=>?_
 ·refine(I.hok b u e).stay (λc v N q=>k c v ?_ q) (λ_ q=>q) λ_ _ q=>q
  rcases N with z|z
  ·rw[z];exact B b u e
  ·exact B c _ z
 ·obtain⟨_,M,_,J,U,W⟩:=G b Y
  exact⟨J,M,U,W⟩
end My
namespace P
open PySem PySem.Spec PyProof.Rows L2
inductive D where
 | non|bl (b:Bool)|int (i:Int)|str (x:Str)|tup (l:List D)|lst (l:List D)
 | dK (l:List (Key×D))|dT (l:List (List Key×D))
abbrev Av:=Addr->Prop
section
variable (A:Av)(H:Hp)
mutual
/-- a heap bears a value that stays (the things that may still be written are in A) -/
inductive Rep:D->V->Prop where
 | non:Rep .non .non
 | bl (b:Bool):Rep (.bl b) (.bl b)
 | int (i:Int):Rep (.int i) (.int i)
 | str (x:Str):Rep (.str x) (.str x)
 | tup {l:List D} {a:Addr} {xs:List V} (h:H a=some (.tup xs)) (r:RepL l xs):Rep (.tup l) (.ref a)
 | lst {l:List D} {a:Addr} {xs:List V} (n:¬ A a) (h:Rd H a (.lst xs)) (r:RepL l xs):Rep (.lst l) (.ref a)
 | dK {l:List (Key×D)} {a:Addr} {xs:List (Key×V)} (n:¬ A a) (h:Rd H a (.dK xs)) (e:xs.map (·.1)=l.map (·.1)) (r:RepL (l.map (·.2)) (xs.map (·.2))):Rep (.dK l) (.ref a)
 | dT {l:List (List Key×D)} {a:Addr} {xs:List (List Key×V)} (n:¬ A a) (h:Rd H a (.dT xs)) (e:xs.map (·.1)=l.map (·.1)) (r:RepL (l.map (·.2)) (xs.map (·.2))):Rep (.dT l) (.ref a)
inductive RepL:List D->List V->Prop where
 | nil:RepL [] []
 | cons {d:D} {v:V} {ds:List D} {vs:List V} (h:Rep d v) (t:RepL ds vs):RepL (d::ds) (v::vs)
end
inductive RepB:D->V->Prop where
 | of {d:D} {v:V} (h:Rep A H d v):RepB d v
 | lst {l:List D} {a:Addr} {xs:List V} (h:Rd H a (.lst xs)) (r:RepL A H l xs):RepB (.lst l) (.ref a)
 | dK {l:List (Key×D)} {a:Addr} {xs:List (Key×V)} (h:Rd H a (.dK xs)) (e:xs.map (·.1)=l.map (·.1)) (r:RepL A H (l.map (·.2)) (xs.map (·.2))):RepB (.dK l) (.ref a)
 | dT {l:List (List Key×D)} {a:Addr} {xs:List (List Key×V)} (h:Rd H a (.dT xs)) (e:xs.map (·.1)=l.map (·.1)) (r:RepL A H (l.map (·.2)) (xs.map (·.2))):RepB (.dT l) (.ref a)
inductive Own:D->Addr->Prop where
 | lst {l:List D} {a:Addr} {xs:List V} (h:H a=some (.lst xs)) (r:RepL A H l xs):Own (.lst l) a
 | dK {l:List (Key×D)} {a:Addr} {xs:List (Key×V)} (h:H a=some (.dK xs)) (e:xs.map (·.1)=l.map (·.1)) (r:RepL A H (l.map (·.2)) (xs.map (·.2))):Own (.dK l) a
 | dT {l:List (List Key×D)} {a:Addr} {xs:List (List Key×V)} (h:H a=some (.dT xs)) (e:xs.map (·.1)=l.map (·.1)) (r:RepL A H (l.map (·.2)) (xs.map (·.2))):Own (.dT l) a
end
noncomputable def Kp:HO->Prop
 | .tup _=>True | .lst _=>True|_=>False
structure Ext(A:Av)(H H':Hp):Prop where
 rd:∀b u,Rd H b u->Rd H' b u
 kp:∀b u,Kp u->H b=some u->H' b=some u
 ow:∀b u,A b->H b=some u->H' b=some u
 fz:∀b o u,H b=some (.frz o u)->H' b=some (.frz o u)
theorem Ext.refl(A:Av)(H:Hp):Ext A H H:=⟨λ_ _ h=>h,λ_ _ _ h=>h,λ_ _ _ h=>h,λ_ _ _ h=>h⟩
theorem Ext.trans(a:Ext A H H1)(b:Ext A H1 H2):Ext A H H2:=
 ⟨λc u h=>b.rd c u (a.rd c u h),λc u k h=>b.kp c u k (a.kp c u k h),λc u n h=>b.ow c u n (a.ow c u n h),λc o u h=>b.fz c o u (a.fz c o u h)⟩
theorem Ext.mono(h:Ext A H H')(s:∀a,A' a->A a):Ext A' H H':=⟨h.rd,h.kp,λb u n e=>h.ow b u (s b n) e,h.fz⟩
theorem Ext.same(h:Same H H'):Ext A H H':=
 ⟨λb u r=>by rcases r with r|⟨o,r⟩;exact .inl (h _ _ r);exact .inr ⟨o,h _ _ r⟩,λb u _ r=>h _ _ r,λb u _ r=>h _ _ r,λb o u r=>h _ _ r⟩
theorem Ext.tp(x:Ext A H H')(b:Addr)(xs:List V)(h:H b=some (.tup xs)):H' b=some (.tup xs):=x.kp b _ trivial h
theorem Ext.new(h:H p=none):Ext A H (upd H p o):=Ext.same (My.t5 h)
mutual
theorem Rep.ext(x:Ext A H H'):Rep A H d v->Rep A H' d v
 | .non=>.non
 | .bl b=>.bl b
 | .int i=>.int i
 | .str s=>.str s
 | .tup h r=>.tup (x.tp _ _ h) (RepL.ext x r)
 | .lst n h r=>.lst n (x.rd _ _ h) (RepL.ext x r)
 | .dK n h e r=>.dK n (x.rd _ _ h) e (RepL.ext x r)
 | .dT n h e r=>.dT n (x.rd _ _ h) e (RepL.ext x r)
theorem RepL.ext(x:Ext A H H'):RepL A H ds vs->RepL A H' ds vs
 | .nil=>.nil
 | .cons h t=>.cons (Rep.ext x h) (RepL.ext x t)
end
theorem RepB.ext(x:Ext A H H'):RepB A H d v->RepB A H' d v
 | .of h=>.of (h.ext x)
 | .lst h r=>.lst (x.rd _ _ h) (r.ext x)
 | .dK h e r=>.dK (x.rd _ _ h) e (r.ext x)
 | .dT h e r=>.dT (x.rd _ _ h) e (r.ext x)
theorem Own.ext(x:Ext A H H')(q:A a):Own A H d a->Own A H' d a
 | .lst h r=>.lst (x.ow _ _ q h) (r.ext x)
 | .dK h e r=>.dK (x.ow _ _ q h) e (r.ext x)
 | .dT h e r=>.dT (x.ow _ _ q h) e (r.ext x)
theorem Own.b:Own A H d a->RepB A H d (.ref a)
 | .lst h r=>.lst (.inl h) r
 | .dK h e r=>.dK (.inl h) e r
 | .dT h e r=>.dT (.inl h) e r
mutual
/-- avoid other things: those that were not there, or fewer -/
theorem Rep.av(x:∀a,A' a->A a\/H a=none):Rep A H d v->Rep A' H d v
 | .non=>.non
 | .bl b=>.bl b
 | .int i=>.int i
 | .str s=>.str s
 | .tup h r=>.tup h (RepL.av x r)
 | .lst n h r=>.lst (λz=>(x _ z).elim n λz=>by rcases h with h|⟨o,h⟩ <;> (rw[z]at h;cases h)) h (RepL.av x r)
 | .dK n h e r=>.dK (λz=>(x _ z).elim n λz=>by rcases h with h|⟨o,h⟩ <;> (rw[z]at h;cases h)) h e (RepL.av x r)
 | .dT n h e r=>.dT (λz=>(x _ z).elim n λz=>by rcases h with h|⟨o,h⟩ <;> (rw[z]at h;cases h)) h e (RepL.av x r)
theorem RepL.av(x:∀a,A' a->A a\/H a=none):RepL A H ds vs->RepL A' H ds vs
 | .nil=>.nil
 | .cons h t=>.cons (Rep.av x h) (RepL.av x t)
end
noncomputable def NI:HO->Prop
 | .lst _=>True | .dK _=>True | .dT _=>True|_=>False
theorem gK(n:b≠a)(h:Rd H b u):Rd (upd H a o) b u:=by
 rcases h with h|⟨x,h⟩
 ·exact .inl (by rw[aJ n];exact h)
 ·exact .inr ⟨x,by rw[aJ n];exact h⟩
mutual
theorem Rep.put(q:A a)(B:H a=some u)(F:NI u):Rep A H d v->Rep A (upd H a o) d v
 | .non=>.non
 | .bl b=>.bl b
 | .int i=>.int i
 | .str s=>.str s
 | .tup (a:=b) h r=>.tup (by rw[aJ (λz=>by subst z;rw[B]at h;cases h;exact F)];exact h) (RepL.put q B F r)
 | .lst (a:=b) n h r=>.lst n (gK (λz=>n (by rw[z];exact q)) h) (RepL.put q B F r)
 | .dK (a:=b) n h e r=>.dK n (gK (λz=>n (by rw[z];exact q)) h) e (RepL.put q B F r)
 | .dT (a:=b) n h e r=>.dT n (gK (λz=>n (by rw[z];exact q)) h) e (RepL.put q B F r)
theorem RepL.put(B:A a)(q:H a=some u)(F:NI u):RepL A H ds vs->RepL A (upd H a o) ds vs
 | .nil=>.nil
 | .cons h t=>.cons (Rep.put B q F h) (RepL.put B q F t)
end
theorem Own.put{A:Av}{H:Hp}{a b:Addr}{o u:HO}(B:A a)(q:H a=some u)(F:NI u)(G:b≠a){d:D}:Own A H d b->Own A (upd H a o) d b
 | .lst h r=>.lst (by rw[aJ G];exact h) (r.put B q F)
 | .dK h e r=>.dK (by rw[aJ G];exact h) e (r.put B q F)
 | .dT h e r=>.dT (by rw[aJ G];exact h) e (r.put B q F)
theorem Own.av(x:∀a,A' a->A a\/H a=none):Own A H d a->Own A' H d a
 | .lst h r=>.lst h (r.av x)
 | .dK h e r=>.dK h e (r.av x)
 | .dT h e r=>.dT h e (r.av x)
theorem Own.rep(n:¬ A a):Own A H d a->Rep A H d (.ref a)
 | .lst h r=>.lst n (.inl h) r
 | .dK h e r=>.dK n (.inl h) e r
 | .dT h e r=>.dT n (.inl h) e r
section
variable {A:Av}{H:Hp}
theorem RepL.length:∀ {ds:List D} {vs:List V},RepL A H ds vs->vs.length=ds.length
 | _,_,.nil=>rfl
 | _,_,.cons _ t=>by rw[UO,UO,RepL.length t]
theorem RepL.get:∀ {ds:List D} {vs:List V} {i:Nat} {v:V},RepL A H ds vs->vs[i]?=some v->∃d,ds[i]?=some d/\Rep A H d v
 | _,_,i,v,.nil,e=>by simp at e
 | _,_,0,v,.cons h t,e=>by simp at e;subst e;exact⟨_,rfl,h⟩
 | _,_,i+1,v,.cons h t,e=>RepL.get (i:=i) t (by simpa using e)
theorem RepL.get':∀ {ds:List D} {vs:List V} {i:Nat} {d:D},RepL A H ds vs->ds[i]?=some d->∃v,vs[i]?=some v/\Rep A H d v
 | _,_,i,v,.nil,e=>by simp at e
 | _,_,0,v,.cons h t,e=>by simp at e;subst e;exact⟨_,rfl,h⟩
 | _,_,i+1,v,.cons h t,e=>RepL.get' (i:=i) t (by simpa using e)
theorem RepL.append:∀ {ds es:List D} {vs us:List V},RepL A H ds vs->RepL A H es us->RepL A H (ds++es) (vs++us)
 | _,_,_,_,.nil,s=>s
 | _,_,_,_,.cons h t,s=>.cons h (RepL.append t s)
theorem RepL.take:∀ {ds:List D} {vs:List V} (n:Nat),RepL A H ds vs->RepL A H (ds.take n) (vs.take n)
 | _,_,0,_=>by simp;exact .nil
 | _,_,n+1,.nil=>.nil
 | _,_,n+1,.cons h t=>.cons h (RepL.take n t)
theorem RepL.drop:∀ {ds:List D} {vs:List V} (n:Nat),RepL A H ds vs->RepL A H (ds.drop n) (vs.drop n)
 | _,_,0,r=>r
 | _,_,n+1,.nil=>.nil
 | _,_,n+1,.cons h t=>RepL.drop n t
theorem RepL.set:∀ {ds:List D} {vs:List V} {d:D} {v:V} (n:Nat),Rep A H d v->RepL A H ds vs->RepL A H (ds.set n d) (vs.set n v)
 | _,_,_,_,_,_,.nil=>.nil
 | _,_,_,_,0,r,.cons h t=>.cons r t
 | _,_,_,_,n+1,r,.cons h t=>.cons h (RepL.set n r t)
theorem Rep.b(h:Rep A H d v):RepB A H d v:=.of h
theorem RepB.int_inv(h:RepB A H (.int i) v):v=.int i:=by cases h with|of h=>cases h;rfl
theorem RepB.bl_inv(h:RepB A H (.bl i) v):v=.bl i:=by cases h with|of h=>cases h;rfl
theorem RepB.str_inv(h:RepB A H (.str i) v):v=.str i:=by cases h with|of h=>cases h;rfl
theorem RepB.non_inv(h:RepB A H .non v):v=.non:=by cases h with|of h=>cases h;rfl
theorem RepB.tup_inv(h:RepB A H (.tup l) v):∃a xs,v=.ref a/\H a=some (.tup xs)/\RepL A H l xs:=by
 cases h with|of h=>cases h with|tup h r=>exact⟨_,_,rfl,h,r⟩
theorem RepB.lst_inv(h:RepB A H (.lst l) v):∃a xs,v=.ref a/\Rd H a (.lst xs)/\RepL A H l xs:=by
 cases h with
 | of h=>cases h with|lst n h r=>exact⟨_,_,rfl,h,r⟩
 | lst h r=>exact⟨_,_,rfl,h,r⟩
theorem RepB.dK_inv(h:RepB A H (.dK l) v):∃a xs,v=.ref a/\Rd H a (.dK xs)/\xs.map (·.1)=l.map (·.1)/\RepL A H (l.map (·.2)) (xs.map (·.2)):=by
 cases h with
 | of h=>cases h with|dK n h e r=>exact⟨_,_,rfl,h,e,r⟩
 | dK h e r=>exact⟨_,_,rfl,h,e,r⟩
theorem RepB.dT_inv(h:RepB A H (.dT l) v):∃a xs,v=.ref a/\Rd H a (.dT xs)/\xs.map (·.1)=l.map (·.1)/\RepL A H (l.map (·.2)) (xs.map (·.2)):=by
 cases h with
 | of h=>cases h with|dT n h e r=>exact⟨_,_,rfl,h,e,r⟩
 | dT h e r=>exact⟨_,_,rfl,h,e,r⟩
end
abbrev cC:=List (Option D)
inductive Fact where
 | rep (d:D) (v:V)|fz (a:Addr) (o:Obj) (u:HO)
def Fact.Holds(A:Av)(H:Hp):Fact->Prop
 | .rep d v=>Rep A H d v
 | .fz a o u=>H a=some (.frz o u)
theorem Fact.ext(x:Ext A H H'):∀ {p:Fact},p.Holds A H->p.Holds A H'
 | .rep _ _,h=>Rep.ext x h
 | .fz _ _ _,h=>x.fz _ _ _ h
theorem Fact.av(x:∀a,A' a->A a\/H a=none):∀ {p:Fact},p.Holds A H->p.Holds A' H
 | .rep _ _,h=>Rep.av x h
 | .fz _ _ _,h=>h
theorem Fact.put(G:A a)(B:H a=some u)(F:NI u):∀ {p:Fact},p.Holds A H->p.Holds A (upd H a o)
 | .rep _ _,h=>Rep.put G B F h
 | .fz b q w,h=>by
  have h:H b=some (.frz q w):=h;show upd H a o b=some (.frz q w);rw[aJ (λz=>by subst z;rw[B]at h;cases h;exact F)];exact h
structure ST(H0:Hp)(A0 A:Av)(E:List Fact)(O:List Nat)(σ:L2.St)(H:Hp)(ρ:cC):Prop where
 ex:Ext A0 H0 H
 sub:∀a,A0 a->A a
 l0:∀a,A0 a->H0 a≠none
 live:∀a,A a->H a≠none
 len:σ.length=ρ.length
 val:∀i d,ρ[i]?=some (some d)->i∉O->∃v,σ[i]?=some (some v)/\Rep A H d v
 own:∀i d,ρ[i]?=some (some d)->i∈O->∃a,σ[i]?=some (some (.ref a))/\A a/\H0 a=none/\Own A H d a
 inj:∀i j d d' a,i∈O->j∈O->ρ[i]?=some (some d)->ρ[j]?=some (some d')->σ[i]?=some (some (.ref a))->σ[j]?=some (some (.ref a))->i=j
 ext:∀p∈E,p.Holds A H
section
variable {H0:Hp}{A0 A:Av}{E:List Fact}{O:List Nat}{σ:L2.St}{H H':Hp}{ρ:cC}
theorem ST.mono(s:ST H0 A0 A E O σ H ρ)(x:Ext A H H'):ST H0 A0 A E O σ H' ρ where
 ex:=s.ex.trans (x.mono s.sub)
 sub:=s.sub
 l0:=s.l0
 live:=λa q=>by
  have:=s.live a q;cases e:H a with
  | none=>exact absurd e this
  | some u=>rw[x.ow a u q e];exact λz=>nomatch z
 len:=s.len
 val:=λi d h n=>by obtain⟨v,h1,h2⟩:=s.val i d h n;exact⟨v,h1,h2.ext x⟩
 own:=λi d h n=>by obtain⟨a,h1,h2,B,F⟩:=s.own i d h n;exact⟨a,h1,h2,B,F.ext x h2⟩
 inj:=s.inj
 ext:=λp G=>Fact.ext x (s.ext p G)
theorem ST.more(s:ST H0 A0 A E O σ H ρ)(h:Rep A H d v):ST H0 A0 A (.rep d v::E) O σ H ρ:=
 {s with ext:=λp q=>by rcases List.mem_cons.mp q with e|e;rw[e];exact h;exact s.ext p e}
theorem ST.less(s:ST H0 A0 A E O σ H ρ)(h:∀p∈E',p∈E):ST H0 A0 A E' O σ H ρ:=
 {s with ext:=λp q=>s.ext p (h p q)}
theorem cZ(h:(ρ.set i o)[j]?=some (some d)):(j=i/\o=some d/\i<ρ.length)\/(j≠i/\ρ[j]?=some (some d)):=by
 rw[List.getElem?_set]at h;by_cases e:i=j
 ·rw[if_pos e]at h
  by_cases l:i<ρ.length
  ·rw[if_pos l]at h
   exact .inl ⟨e.symm,T5 h,l⟩
  ·rw[if_neg l]at h;cases h
 ·rw[if_neg e]at h
  exact .inr ⟨λz=>e z.symm,h⟩
theorem sig_set(h:i<σ.length):(σ.set i (some v))[i]?=some (some v):=by simp[h]
theorem fG(h:j≠i):(σ.set i (some v))[j]?=σ[j]?:=by rw[WZ (T3 h)]
theorem ST.put(s:ST H0 A0 A E O σ H ρ)(h:Rep A H d v)(n:i∉O):ST H0 A0 A E O (σ.set i (some v)) H (ρ.set i (some d)) where
 ex:=s.ex
 sub:=s.sub
 l0:=s.l0
 live:=s.live
 len:=by simp[s.len]
 val:=λj d' h' B=>by
  rcases cZ h' with⟨e,q,l⟩|⟨e,q⟩
  ·subst e;cases q;exact⟨v,sig_set (by rw[s.len];exact l),h⟩
  ·obtain⟨w,h1,h2⟩:=s.val j d' q B;exact⟨w,by rw[fG e];exact h1,h2⟩
 own:=λj d' h' B=>by
  rcases cZ h' with⟨e,q,l⟩|⟨e,q⟩
  ·subst e;exact absurd B n
  ·obtain⟨w,h1,h2⟩:=s.own j d' q B;exact⟨w,by rw[fG e];exact h1,h2⟩
 inj:=λj k W d2 a U F h1 h2 M G=>by
  have N:j≠i:=λz=>n (z ▸ U)
  have J:k≠i:=λz=>n (z ▸ F)
  rcases cZ h1 with⟨e,_⟩|⟨_,h1⟩
  ·exact absurd e N
  rcases cZ h2 with⟨e,_⟩|⟨_,h2⟩
  ·exact absurd e J
  exact s.inj j k W d2 a U F h1 h2 (by rw[fG N]at M;exact M) (by rw[fG J]at G;exact G)
 ext:=s.ext
theorem ST.shut(s:ST H0 A0 A E O σ H ρ)(h:∀i,i∈O'->i∈O):∃A',ST H0 A0 A' E O' σ H ρ:=by
 let F:Av:=λa=>∃i d,i∈O/\i∉O'/\ρ[i]?=some (some d)/\σ[i]?=some (some (.ref a))
 have cut:∀a,(A a/\¬ F a)->A a\/H a=none:=λa z=>.inl z.1
 refine⟨λa=>A a/\¬ F a,s.ex,λa G=>⟨s.sub a G,?_⟩,s.l0,λa G=>s.live a G.1,s.len,λi d hi n=>?_,λi d hi n=>?_,λi j d d' a hi hj=>s.inj i j d d' a (h i hi) (h j hj),λp Y=>Fact.av cut (s.ext p Y)⟩
 ·rintro⟨i,d,h1,h2,W,U⟩
  obtain⟨b,q,B,J,M⟩:=s.own i d W h1;rw[U]at q;cases q;exact s.l0 a G J
 ·by_cases N:i∈O
  ·obtain⟨a,q,B,J,M⟩:=s.own i d hi N
   exact⟨.ref a,q,(M.av cut).rep λz=>z.2 ⟨i,d,N,n,hi,q⟩⟩
  ·obtain⟨v,q,B⟩:=s.val i d hi N
   exact⟨v,q,B.av cut⟩
 ·obtain⟨a,q,B,J,M⟩:=s.own i d hi (h i n)
  refine⟨a,q,⟨B,?_⟩,J,M.av cut⟩;rintro⟨j,d',h1,h2,W,U⟩;have:=s.inj i j d d' a (h i n) h1 hi W q U;subst this;exact h2 n
end
abbrev Ev:=cC->Option D
abbrev Bv:=cC->Option Bool
abbrev Lv:=cC->Option (List D)
abbrev RR:=Av->Hp->D->V->Prop
inductive tD(R:RR)(O:List Nat)(f:Ev)(σ:L2.St)(H:Hp)(Q:VK):Prop
 | mk (H0:Hp) (A0 A:Av) (E:List Fact) (ρ:cC) (d:D) (st:ST H0 A0 A E O σ H ρ) (e:f ρ=some d) (q:∀v H',Ext A H H'->R A H' d v->Q v H'):tD R O f σ H Q
inductive tDT(O:List Nat)(g:Bv)(σ:L2.St)(H:Hp)(Q:Bool->Hp->Prop):Prop
 | mk (H0:Hp) (A0 A:Av) (E:List Fact) (ρ:cC) (b:Bool) (st:ST H0 A0 A E O σ H ρ) (e:g ρ=some b) (q:∀H',Ext A H H'->Q b H'):tDT O g σ H Q
def PD(X:Cx)(O:List Nat)(e:Expr)(f:Ev):Prop:=PE X e (tD Rep O f)
def PB(X:Cx)(O:List Nat)(e:Expr)(f:Ev):Prop:=PE X e (tD RepB O f)
def oP(X:Cx)(O:List Nat)(e:Expr)(g:Bv):Prop:=PT X e (tDT O g)
def PDW(X:Cx)(O:List Nat)(e:Expr)(g:Bv):Prop:=PW X e (tDT O g)
theorem PDW.pt(h:PDW X O e g):oP X O e g:=PW.pt h
inductive RL(R:RR)(A:Av)(H:Hp):List D->List V->Prop where
 | nil:RL R A H [] []
 | cons {d v ds vs} (h:R A H d v) (t:RL R A H ds vs):RL R A H (d::ds) (v::vs)
inductive tDA(R:RR)(O:List Nat)(f:Lv)(σ:L2.St)(H:Hp)(Q:List V->Hp->Prop):Prop
 | mk (H0:Hp) (A0 A:Av) (E:List Fact) (ρ:cC) (ds:List D) (st:ST H0 A0 A E O σ H ρ) (e:f ρ=some ds) (q:∀vs H',Ext A H H'->RL R A H' ds vs->Q vs H'):tDA R O f σ H Q
def vC(X:Cx)(O:List Nat)(es:List Expr)(f:Lv):Prop:=PA X es (tDA Rep O f)
def lM(X:Cx)(O:List Nat)(es:List Expr)(f:Lv):Prop:=PA X es (tDA RepB O f)
section
variable {X:Cx}{O:List Nat}
theorem PE.mono(h:PE X e t)(x:∀σ H Q,t' σ H Q->t σ H Q):PE X e t':=λpins s σ H Q I w=>h pins s σ H Q I (x σ H Q w)
theorem PT.mono(h:PT X e t)(x:∀σ H Q,t' σ H Q->t σ H Q):PT X e t':=λpins s σ H Q I w=>h pins s σ H Q I (x σ H Q w)
theorem PW.mono(h:PW X e t)(x:∀σ H Q,t' σ H Q->t σ H Q):PW X e t':=λq pins s σ H Q I w=>h q pins s σ H Q I (x σ H Q w)
theorem PA.mono(h:PA X es t)(x:∀σ H Q,t' σ H Q->t σ H Q):PA X es t':=λpos pins s σ H Q I w=>h pos pins s σ H Q I (x σ H Q w)
theorem PD.b{e:Expr}{f:Ev}(h:PD X O e f):PB X O e f:=PE.mono h λσ H Q ⟨H0,A0,A,E,ρ,d,st,e,q⟩=>⟨H0,A0,A,E,ρ,d,st,e,λv H' x r=>q v H' x (.of r)⟩
theorem RL.toL:∀ {ds:List D} {vs:List V},RL Rep A H ds vs->RepL A H ds vs
 | _,_,.nil=>.nil
 | _,_,.cons h t=>.cons h (RL.toL t)
def aC(i:Nat):Ev:=λρ=>(ρ[i]?).join
def eC(d:D):Ev:=λ_=>some d
theorem bM{ρ:cC}{i:Nat}{d:D}(h:(ρ[i]?).join=some d):ρ[i]?=some (some d):=by
 cases e:ρ[i]? with
 | none=>rw[e]at h;cases h
 | some o=>rw[e]at h;cases o with
  | none=>cases h
  | some x=>cases h;rfl
theorem cF{e:Expr}(i:Nat)(h:PE X e (kE i))(n:i∉O):PD X O e (aC i):=PE.mono h <| by
 rintro σ H Q ⟨H0,A0,A,E,ρ,d,st,e,q⟩;obtain⟨v,B,r⟩:=st.val i d (bM e) n;exact⟨v,B,q v H (Ext.refl _ _) r⟩
theorem dP{e:Expr}(i:Nat)(h:PE X e (kE i)):PB X O e (aC i):=PE.mono h <| by
 rintro σ H Q ⟨H0,A0,A,E,ρ,d,st,e,q⟩;by_cases n:i∈O
 ·obtain⟨a,B,_,_,r⟩:=st.own i d (bM e) n
  exact⟨_,B,q _ H (Ext.refl _ _) r.b⟩
 ·obtain⟨v,B,r⟩:=st.val i d (bM e) n
  exact⟨v,B,q v H (Ext.refl _ _) (.of r)⟩
theorem cL{i j pos}:PD X O (.Constant (.int i) j pos) (eC (.int i)):=PE.mono LL λσ H Q ⟨H0,A0,A,E,ρ,d,st,e,q⟩=>by cases e;exact q _ H (Ext.refl _ _) (.int _)
theorem N4{i j pos}:PD X O (.Constant (.bool i) j pos) (eC (.bl i)):=PE.mono N7 λσ H Q ⟨H0,A0,A,E,ρ,d,st,e,q⟩=>by cases e;exact q _ H (Ext.refl _ _) (.bl _)
theorem MM{i j pos}:PD X O (.Constant (.str i) j pos) (eC (.str i)):=PE.mono LY λσ H Q ⟨H0,A0,A,E,ρ,d,st,e,q⟩=>by cases e;exact q _ H (Ext.refl _ _) (.str _)
theorem KH{j pos}:PD X O (.Constant .none j pos) (eC .non):=PE.mono KF λσ H Q ⟨H0,A0,A,E,ρ,d,st,e,q⟩=>by cases e;exact q _ H (Ext.refl _ _) .non
def Live(A:Av)(H:Hp):Prop:=∀a,A a->H a≠none
theorem Live.ext(l:Live A H)(x:Ext A H H'):Live A H':=λa q=>by
 cases e:H a with
 | none=>exact absurd e (l a q)
 | some u=>rw[x.ow a u q e];exact λz=>nomatch z
inductive rD(g:D->D->Option D)(x y:V)(H:Hp)(Q:VK):Prop
 | mk (A:Av) (dx dy d:D) (lv:Live A H) (rx:RepB A H dx x) (ry:RepB A H dy y) (e:g dx dy=some d) (q:∀v H',Ext A H H'->Rep A H' d v->Q v H'):rD g x y H Q
def fR(X:Cx)(f:Value->Value->Sem Value)(g:D->D->Option D):Prop:=OpR X f (rD g)
theorem OpR.mono(h:OpR X f r)(x:∀a b H Q,r' a b H Q->r a b H Q):OpR X f r':=λpins s σ H a b v u Q I B q w=>h pins s σ H a b v u Q I B q (x a b H Q w)
def aT(g:D->D->Option D)(q B:Ev):Ev:=λρ=>(q ρ).bind λx=>(B ρ).bind λy=>g x y
theorem bind_some{B q:Type}{o:Option B}{f:B->Option q}{b:q}(h:o.bind f=some b):∃a,o=some a/\f a=some b:=by
 cases o with
 | none=>cases h
 | some a=>exact⟨a,rfl,h⟩
theorem rV{g:D->D->Option D}{G J:Ev}{σ:L2.St}{H:Hp}{Q:VK}(h:tD Rep O (aT g G J) σ H Q):NF (rD g) (tD RepB O G) (tD RepB O J) σ H Q:=by
 obtain⟨H0,A0,A,E,ρ,d,st,e,q⟩:=h;obtain⟨x,ex,e⟩:=bind_some e;obtain⟨y,N,e⟩:=bind_some e;exact⟨H0,A0,A,E,ρ,x,st,ex,λv H1 F W=>⟨H0,A0,A,E,ρ,y,st.mono F,N,λw H2 B M=>⟨A,x,y,d,(st.mono (F.trans B)).live,W.ext B,M,e,λz U Y r3=>q z U ((F.trans B).trans Y) r3⟩⟩⟩
theorem aQ(B:fR X (UI op) g)(q:PB X O a fa)(F:PB X O b fb):PD X O (.BinOp a op b pos) (aT g fa fb):=
 PE.mono (IV B q F) λσ H Q h=>rV h
theorem EC(F:fR X (TJ op) g)(B:PB X O a fa)(G:PB X O b fb)(q:VT op b=false):PD X O (.Compare a [op] [b] pos) (aT g fa fb):=
 PE.mono (FH F B G q) λσ H Q h=>rV h
noncomputable def xD:D->Option Bool
 | .bl b=>some b
 | _=>none
theorem eQ(h:xD d=some b):d=.bl b:=by
 cases d <;> cases h;rfl
def eN(f:Ev):Bv:=λρ=>(f ρ).bind xD
theorem gH{f:Ev}{σ:L2.St}{H:Hp}{Q:Bool->Hp->Prop}(h:tDT O (eN f) σ H Q):tD Rep O f σ H λx H'=>∃k,x=.bl k/\Q k H':=by
 obtain⟨H0,A0,A,E,ρ,b,st,e,q⟩:=h;obtain⟨x,ex,e⟩:=bind_some e;rw[eQ e]at ex;exact⟨H0,A0,A,E,ρ,_,st,ex,λv H1 B F=>⟨b,RepB.bl_inv (.of F),q H1 B⟩⟩
theorem lY(F:fR X (TJ op) g)(B:PB X O a fa)(G:PB X O b fb)(q:VT op b=false):oP X O (.Compare a [op] [b] pos) (eN (aT g fa fb)):=
 PT.mono (xV F B G q) λσ H Q h=>rV (gH h)
theorem yF(h:PD X O e f)(B:∀q,isTrue e X.env q=(do let v <- q;standAt e.pos;holding [v] (truthy v)):=by intro _;rfl):oP X O e (eN f):=
 PT.mono (MG h B) λσ H Q h=>gH h
def E8(g:Bv):Bv:=λρ=>(g ρ).map (!·)
def oY(g h:Bv):Bv:=λρ=>(g ρ).bind λb=>if b=true then h ρ else some false
def QA(g h:Bv):Bv:=λρ=>(g ρ).bind λb=>if b=true then some true else h ρ
theorem yU(h:oP X O a g):oP X O (.UnaryOp .Not a pos) (E8 g):=PT.mono (LC h) <| by
 rintro σ H Q ⟨H0,A0,A,E,ρ,b,st,e,q⟩;unfold E8 at e;cases z:g ρ with
 | none=>rw[z]at e;cases e
 | some c=>rw[z]at e;cases e;exact⟨H0,A0,A,E,ρ,c,st,z,q⟩
theorem CC(h:oP X O a g):PDW X O (.BoolOp .And [a] pos) g:=GY h
theorem xO(h:oP X O a g):PDW X O (.BoolOp .Or [a] pos) g:=LZ h
theorem GC{a b:Expr}{rest:List Expr}{pos:Pos}{g k:Bv}(F:oP X O a g)(J:PDW X O (.BoolOp .And (b::rest) pos) k):PDW X O (.BoolOp .And (a::b::rest) pos) (oY g k):=
 PW.mono (K1 F J) <| by
  rintro σ H Q ⟨H0,A0,A,E,ρ,b,st,e,q⟩;obtain⟨x,ex,e⟩:=bind_some e;refine⟨H0,A0,A,E,ρ,x,st,ex,λH1 B=>?_⟩;cases x with
  | false=>rw[if_neg TN]at e ⊢;cases e;exact q H1 B
  | true=>rw[if_pos rfl]at e ⊢;exact⟨H0,A0,A,E,ρ,b,st.mono B,e,λH2 G=>q H2 (B.trans G)⟩
theorem wU{a b:Expr}{rest:List Expr}{pos:Pos}{g k:Bv}(F:oP X O a g)(J:PDW X O (.BoolOp .Or (b::rest) pos) k):PDW X O (.BoolOp .Or (a::b::rest) pos) (QA g k):=
 PW.mono (NK F J) <| by
  rintro σ H Q ⟨H0,A0,A,E,ρ,b,st,e,q⟩;obtain⟨x,ex,e⟩:=bind_some e;refine⟨H0,A0,A,E,ρ,x,st,ex,λH1 B=>?_⟩;cases x with
  | true=>rw[if_pos rfl]at e ⊢;cases e;exact q H1 B
  | false=>rw[if_neg TN]at e ⊢;exact⟨H0,A0,A,E,ρ,b,st.mono B,e,λH2 G=>q H2 (B.trans G)⟩
def PU(f g:Ev):Ev:=λρ=>(f ρ).bind λx=>(xD x).bind λb=>if b=true then g ρ else some (.bl false)
def O9(f:Ev):Ev:=λρ=>(f ρ).bind λx=>(xD x).map λb=>.bl (!b)
theorem ML{op}(h:PD X O a f):PD X O (.BoolOp op [a] pos) f:=L0 h
theorem L9{a b:Expr}{rest:List Expr}{pos:Pos}{f g:Ev}(F:PD X O a f)(N:PD X O (.BoolOp .And (b::rest) pos) g):PD X O (.BoolOp .And (a::b::rest) pos) (PU f g):=
 PE.mono (J9 F N) <| by
  rintro σ H Q ⟨H0,A0,A,E,ρ,d,st,e,q⟩;obtain⟨x,ex,e⟩:=bind_some e;obtain⟨b,J,e⟩:=bind_some e;rw[eQ J]at ex;refine⟨H0,A0,A,E,ρ,_,st,ex,λv H1 B G=>⟨b,RepB.bl_inv (.of G),?_⟩⟩;cases b with
  | false=>rw[if_neg TN]at e ⊢;cases e;exact q _ H1 B (.bl _)
  | true=>rw[if_pos rfl]at e ⊢;exact⟨H0,A0,A,E,ρ,d,st.mono B,e,λw H2 M=>q w H2 (B.trans M)⟩
theorem KS{a:Expr}{pos:Pos}{f:Ev}(B:PD X O a f):PD X O (.UnaryOp .Not a pos) (O9 f):=
 PE.mono (K4 B) <| by
  rintro σ H Q ⟨H0,A0,A,E,ρ,d,st,e,q⟩;obtain⟨x,ex,e⟩:=bind_some e;cases z:xD x with
  | none=>rw[z]at e;cases e
  | some b=>
   rw[z]at e;cases e;rw[eQ z]at ex;exact⟨H0,A0,A,E,ρ,_,st,ex,λv H1 F G=>⟨b,RepB.bl_inv (.of G),q _ H1 F (.bl _)⟩⟩
def fH(g g':D->D->Option D)(B F q:Ev):Ev:=λρ=>(B ρ).bind λx=>(F ρ).bind λy=>(g x y).bind λz=>(xD z).bind λb=>if b=true then(q ρ).bind λw=>g' y w else some (.bl false)
end
section
variable {X:Cx}{O:List Nat}
theorem p5(h:tD Rep O (fH g g' fa fb fc) σ H Q):wB (rD g) (rD g') (tD RepB O fa) (tD RepB O fb) (tD RepB O fc) σ H Q:=by
 obtain⟨H0,A0,A,E,ρ,d,st,e,q⟩:=h;obtain⟨x,ex,e⟩:=bind_some e;obtain⟨y,ey,e⟩:=bind_some e;obtain⟨z,U,e⟩:=bind_some e;obtain⟨b,eb,e⟩:=bind_some e;rw[eQ eb]at U;refine⟨H0,A0,A,E,ρ,x,st,ex,λv H1 F r1=>⟨H0,A0,A,E,ρ,y,st.mono F,ey,λw H2 J M=>⟨A,x,y,_,(st.mono (F.trans J)).live,r1.ext J,M,U,λz H3 N Y=>⟨b,RepB.bl_inv (.of Y),?_⟩⟩⟩⟩;have B:=(F.trans J).trans N;cases b with
 | false=>rw[if_neg TN]at e ⊢;cases e;exact q _ H3 B (.bl _)
 | true=>
  rw[if_pos rfl]at e ⊢;obtain⟨u,eu,e⟩:=bind_some e;exact⟨H0,A0,A,E,ρ,u,st.mono B,eu,λz' H4 G r4=>⟨A,y,u,d,(st.mono (B.trans G)).live,M.ext (N.trans G),r4,e,λW H5 x5 r5=>q W H5 ((B.trans G).trans x5) r5⟩⟩
theorem CV(J:fR X (TJ op) g)(q:fR X (TJ op') g')(B:PB X O a fa)(M:PB X O b fb)(F:PB X O c fc)
  (G:W0 [op,op'] [b,c]=false:=by with_unfolding_all rfl):PD X O (.Compare a [op,op'] [b,c] pos) (fH g g' fa fb fc):=PE.mono (B8 J q B M F G) λσ H Q h=>p5 h
theorem AX(J:fR X (TJ op) g)(q:fR X (TJ op') g')(B:PB X O a fa)(M:PB X O b fb)(F:PB X O c fc)
  (G:W0 [op,op'] [b,c]=false:=by with_unfolding_all rfl):oP X O (.Compare a [op,op'] [b,c] pos) (eN (fH g g' fa fb fc)):=PT.mono (C6 J q B M F G) λσ H Q h=>p5 (gH h)
def a6:Lv:=λ_=>some []
def aE(f:Ev)(g:Lv):Lv:=λρ=>(f ρ).bind λx=>(g ρ).bind λxs=>some (x::xs)
theorem gX:vC X O [] a6:=PA.mono dQ λσ H Q ⟨H0,A0,A,E,ρ,d,st,e,q⟩=>by cases e;exact q [] H (Ext.refl _ _) .nil
theorem rG:lM X O [] a6:=PA.mono dQ λσ H Q ⟨H0,A0,A,E,ρ,d,st,e,q⟩=>by cases e;exact q [] H (Ext.refl _ _) .nil
theorem uR(J:∀A H H' d v,Ext A H H'->R A H d v->R A H' d v)(h:tDA R O (aE f g) σ H Q):y6 (tD R O f) (tDA R O g) σ H Q:=by
 obtain⟨H0,A0,A,E,ρ,d,st,e,q⟩:=h;obtain⟨x,ex,e⟩:=bind_some e;obtain⟨xs,B,e⟩:=bind_some e;cases e;exact⟨H0,A0,A,E,ρ,x,st,ex,λv H1 G M=>⟨H0,A0,A,E,ρ,xs,st.mono G,B,λvs H2 F N=>q (v::vs) H2 (G.trans F) (.cons (J _ _ _ _ _ F M) N)⟩⟩
theorem CM(q:PD X O e f)(B:vC X O es g)(hs:S0 (e::es) X.env=(false,eval e X.env)::S0 es X.env:=by rfl):vC X O (e::es) (aE f g):=
 PA.mono (bJ q B hs) λσ H Q h=>uR (λ_ _ _ _ _ x r=>r.ext x) h
theorem nX(q:PB X O e f)(B:lM X O es g)(hs:S0 (e::es) X.env=(false,eval e X.env)::S0 es X.env:=by rfl):lM X O (e::es) (aE f g):=
 PA.mono (bJ q B hs) λσ H Q h=>uR (λ_ _ _ _ _ x r=>r.ext x) h
inductive tF(O:List Nat)(f:Ev)(σ:L2.St)(H:Hp)(Q:VK):Prop
 | mk (H0:Hp) (A0 A:Av) (E:List Fact) (ρ:cC) (d:D) (st:ST H0 A0 A E O σ H ρ) (e:f ρ=some d) (q:∀a H',Ext A H H'->H a=none->¬ A a->Own (λb=>A b\/b=a) H' d a->Q (.ref a) H'):tF O f σ H Q
def PF(X:Cx)(O:List Nat)(e:Expr)(f:Ev):Prop:=PE X e (tF O f)
theorem PF.d(h:PF X O e f):PD X O e f:=PE.mono h λσ H Q ⟨H0,A0,A,E,ρ,d,st,e,q⟩=>
 ⟨H0,A0,A,E,ρ,d,st,e,λa H' x n B o=>q _ H' x ((o.av (A':=A) λb F=>.inl (.inl F)).rep B)⟩
theorem RepL.fresh(n:H p=none)(r:RepL A H ds vs):RepL (λb=>A b\/b=p) (upd H p o) ds vs:=by
 have B:RepL (λb=>A b\/b=p) H ds vs:=r.av λb q=>by
  rcases q with q|q
  ·exact .inl q
  ·exact .inr (q ▸ n)
 exact B.ext (Ext.new n)
theorem Ext.free(x:Ext A H H')(n:H' p=none):H p=none:=by
 cases e:H p with
 | none=>rfl
 | some u=>rcases x.rd p u (.inl e)with h|⟨o,h⟩ <;> (rw[n]at h;cases h)
def iV(g:Lv):Ev:=λρ=>(g ρ).map .tup
def sR(g:Lv):Ev:=λρ=>(g ρ).map .lst
theorem RL.length:∀ {ds:List D} {vs:List V},RL R A H ds vs->vs.length=ds.length
 | _,_,.nil=>rfl
 | _,_,.cons _ t=>by rw[UO,UO,RL.length t]
noncomputable def bA(n:Nat):Bool:=decide (n<=1000000)
theorem dD(h:bA n=true):n<=S7:=UD (of_decide_eq_true h) (by decide)
theorem rB(h:bA n=true):n<S7:=Y3 (of_decide_eq_true h) (by decide)
theorem map_some{B q:Type}{o:Option B}{f:B->q}{b:q}(h:o.map f=some b):∃a,o=some a/\f a=b:=by
 cases o with
 | none=>cases h
 | some a=>exact⟨a,rfl,T5 h⟩
def Len(g:Lv)(n:Nat):Prop:=∀ρ ds,g ρ=some ds->ds.length=n
theorem HC:Len a6 0:=λρ ds h=>by cases h;rfl
theorem B6(h:Len g n):Len (aE f g) (n+1):=λρ ds e=>by
 obtain⟨x,ex,e⟩:=bind_some e;obtain⟨xs,q,e⟩:=bind_some e;cases e;rw[UO,h ρ xs q]
theorem sD{es:List Expr}{B}{pos:Pos}{g:Lv}(h:vC X O es g)(M:∀ρ ds,g ρ=some ds->ds.length<=100):PD X O (.Tuple es B pos) (iV g):=PE.mono (L1 h) <| by
 rintro σ H Q ⟨H0,A0,A,E,ρ,d,st,e,q⟩;obtain⟨ds,F,rfl⟩:=map_some e;refine⟨H0,A0,A,E,ρ,ds,st,F,λvs H1 B J=>⟨by rw[J.length];exact UD (M ρ ds F) (by decide),λp G=>?_⟩⟩;exact q _ _ (B.trans (Ext.new G)) (.tup aM (J.toL.ext (Ext.new G)))
theorem JX{es:List Expr}{pos:Pos}{g:Lv}(h:vC X O es g)(M:∀ρ ds,g ρ=some ds->ds.length<=100):PF X O (.List es pos) (sR g):=PE.mono (LA h) <| by
 rintro σ H Q ⟨H0,A0,A,E,ρ,d,st,e,q⟩;obtain⟨ds,G,rfl⟩:=map_some e;refine⟨H0,A0,A,E,ρ,ds,st,G,λvs H1 F J=>⟨by rw[J.length];exact UD (M ρ ds G) (by decide),λp B=>?_⟩⟩;exact q p _ (F.trans (Ext.new B)) (F.free B) (λz=>(st.mono F).live p z B) (.lst aM (J.toL.fresh B))
theorem nV:PF X O (.Dict [] [] pos) (eC (.dT [])):=PE.mono CQ <| by
 rintro σ H Q ⟨H0,A0,A,E,ρ,d,st,e,q⟩ p B;cases e;exact q p _ (Ext.new B) B (λz=>st.live p z B) (.dT aM rfl .nil)
inductive rC(g:List D->Option D)(xs:List V)(H:Hp)(Q:VK):Prop
 | mk (A:Av) (ds:List D) (d:D) (lv:Live A H) (r:RL RepB A H ds xs) (e:g ds=some d) (q:∀v H',Ext A H H'->Rep A H' d v->Q v H'):rC g xs H Q
inductive rCF(g:List D->Option D)(xs:List V)(H:Hp)(Q:VK):Prop
 | mk (A:Av) (ds:List D) (d:D) (lv:Live A H) (r:RL RepB A H ds xs) (e:g ds=some d) (q:∀a H',Ext A H H'->H a=none->¬ A a->Own (λb=>A b\/b=a) H' d a->Q (.ref a) H'):rCF g xs H Q
def eV(X:Cx)(f:Value)(g:List D->Option D):Prop:=CallR X f (rC g)
def qI(X:Cx)(f:Value)(g:List D->Option D):Prop:=CallR X f (rCF g)
theorem CallR.mono(h:CallR X f r)(x:∀a H Q,r' a H Q->r a H Q):CallR X f r':=λpins s σ H a v Q I q w=>h pins s σ H a v Q I q (x a H Q w)
def aP(g:List D->Option D)(f:Lv):Ev:=λρ=>(f ρ).bind g
theorem qC(h:tD Rep O (aP g f) σ H Q):P5 (rC g) (tDA RepB O f) σ H Q:=by
 obtain⟨H0,A0,A,E,ρ,d,st,e,q⟩:=h;obtain⟨ds,F,e⟩:=bind_some e;exact⟨H0,A0,A,E,ρ,ds,st,F,λvs H1 B G=>⟨A,ds,d,(st.mono B).live,G,e,λv H2 M J=>q v H2 (B.trans M) J⟩⟩
theorem p6(h:tF O (aP g f) σ H Q):P5 (rCF g) (tDA RepB O f) σ H Q:=by
 obtain⟨H0,A0,A,E,ρ,d,st,e,q⟩:=h;obtain⟨ds,F,e⟩:=bind_some e;exact⟨H0,A0,A,E,ρ,ds,st,F,λvs H1 B G=>⟨A,ds,d,(st.mono B).live,G,e,λa H2 M n J o=>q a H2 (B.trans M) (B.free n) J o⟩⟩
section
variable {x:Str}{id T:String}{g:List D->Option D}{e:Expr}{es:List Expr}{f:Lv}{p pos:Pos}
theorem DA(N:eV X (.builtin id) g)(F:Gl X x)(W:X.mg x=none)(M:TZ x=some (.builtin id))(G:lM X O (e::es) f)(U:x ≠ "__name__" := by decide)(q:(x == ("__debug__" : Str))=false:=by decide)
  (J:S0 (e::es) X.env=(false,eval e X.env)::S0 es X.env:=by rfl) (B:(TU pos (S0 es X.env)).any (·.1)=false:=by rfl) :
  PD X O (.Call (.Name x p) (e::es) [] pos) (aP g f):=PE.mono (jC N F W M G U q J B) λσ H Q h=>qC h
theorem CG(N:qI X (.builtin id) g)(F:Gl X x)(W:X.mg x=none)(M:TZ x=some (.builtin id))(G:lM X O (e::es) f)(U:x ≠ "__name__" := by decide)(q:(x == ("__debug__" : Str))=false:=by decide)
  (J:S0 (e::es) X.env=(false,eval e X.env)::S0 es X.env:=by rfl) (B:(TU pos (S0 es X.env)).any (·.1)=false:=by rfl) :
  PF X O (.Call (.Name x p) (e::es) [] pos) (aP g f):=PE.mono (jC N F W M G U q J B) λσ H Q h=>p6 h
theorem zV(N:eV X (.type T) g)(F:Gl X x)(W:X.mg x=none)(M:TZ x=some (.type T))(G:lM X O (e::es) f)(U:x ≠ "__name__" := by decide)(q:(x == ("__debug__" : Str))=false:=by decide)
  (J:S0 (e::es) X.env=(false,eval e X.env)::S0 es X.env:=by rfl) (B:(TU pos (S0 es X.env)).any (·.1)=false:=by rfl) :
  PD X O (.Call (.Name x p) (e::es) [] pos) (aP g f):=PE.mono (oZ N F W M G U q J B) λσ H Q h=>qC h
theorem zO(N:qI X (.type T) g)(F:Gl X x)(W:X.mg x=none)(M:TZ x=some (.type T))(G:lM X O (e::es) f)(U:x ≠ "__name__" := by decide)(q:(x == ("__debug__" : Str))=false:=by decide)
  (J:S0 (e::es) X.env=(false,eval e X.env)::S0 es X.env:=by rfl) (B:(TU pos (S0 es X.env)).any (·.1)=false:=by rfl) :
  PF X O (.Call (.Name x p) (e::es) [] pos) (aP g f):=PE.mono (oZ N F W M G U q J B) λσ H Q h=>p6 h
end
def SC(n:Nat)(F:List D->Option D):Sp:=λvs H Q _=>∃A ds d,Live A H/\RepL A H ds vs/\vs.length=n/\F ds=some d/\∀v H',Ext A H H'->Rep A H' d v->Q v H'
def Fn(P:S6)(w:World)(K:S2)(mg:Str->Option Value)(base:Heap)(x:Str)(k:Nat)(ps:List Str)(F:List D->Option D):Prop:=My.Ok P w K mg base x k ps (SC ps.length F)
theorem Fn.mono{P:S6}{w:World}{K:S2}{mg:Str->Option Value}{base:Heap}{x:Str}{j k:Nat}{ps:List Str}{F:List D->Option D}(h:Fn P w K mg base x j ps F)(l:j<=k):Fn P w K mg base x k ps F:=My.Ok.mono h l
theorem HR(O':Fn X.prog X.w X.K X.mg X.base x k ps F)(Y:Room k X.A)(U:Gl X x)(ha:vC X O (e::es) f)(hl:∀ρ ds,f ρ=some ds->ds.length=ps.length)(B:(x == ("__debug__" : Str))=false:=by decide)
  (W:S0 (e::es) X.env=(false,eval e X.env)::S0 es X.env:=by rfl) (G:(TU pos (S0 es X.env)).any (·.1)=false:=by rfl) :
  PD X O (.Call (.Name x p) (e::es) [] pos) (aP F f):=PE.mono (My.jF O' Y U ha B W G) λσ H Q ⟨H0,A0,A,E,ρ,d,st,e,q⟩=>by
 obtain⟨ds,J,e⟩:=bind_some e;exact⟨H0,A0,A,E,ρ,ds,st,J,λvs H1 N M=>⟨A,ds,d,(st.mono N).live,M.toL,by rw[M.length];exact hl ρ ds J,e,λv H2 x2 r2=>q v H2 (N.trans x2) r2⟩⟩
theorem IxR.mono(h:IxR X r)(x:∀a b H Q,r' a b H Q->r a b H Q):IxR X r':=λq F pins s σ H a b v u Q I G B w=>h q F pins s σ H a b v u Q I G B (x a b H Q w)
def QC:D->D->Option D
 | .lst l,.int i=>kH l i
 | .tup l,.int i=>kH l i
 | .str z,.int i=>if bA z.length then(kH z.cps.toList i).map λc=>.str ⟨#[c]⟩else none
 | _,_=>none
theorem RepL.at(r:RepL A H ds vs)(h:kH ds i=some d):∃v,kH vs i=some v/\Rep A H d v:=by
 obtain⟨j,F,q⟩:=bind_some h;obtain⟨v,G,B⟩:=r.get' q;refine⟨v,?_,B⟩;unfold kH;rw[r.length,F];exact G
theorem RP:IxR X (rD QC):=IxR.mono LW <| by
 rintro x y H Q ⟨A,dx,M,d,N,G,J,e,q⟩;cases M with
 | int i=>
  have:=J.int_inv;subst this;cases dx with
  | lst l=>
   obtain⟨a,xs,rfl,h,r⟩:=G.lst_inv;obtain⟨v,B,F⟩:=r.at e;exact .inl ⟨a,xs,i,v,rfl,rfl,.inl h,B,q v H (Ext.refl _ _) F⟩
  | tup l=>
   obtain⟨a,xs,rfl,h,r⟩:=G.tup_inv;obtain⟨v,B,F⟩:=r.at e;exact .inr (.inl ⟨a,xs,i,v,rfl,rfl,.inl (.inl h),B,q v H (Ext.refl _ _) F⟩)
  | str z=>
   have:=G.str_inv;subst this;simp only[QC]at e;by_cases hz:bA z.length=true
   ·rw[if_pos hz]at e
    obtain⟨c,B,rfl⟩:=map_some e;exact .inr (.inr ⟨z,i,c,rfl,rfl,dD hz,B,q _ H (Ext.refl _ _) (.str _)⟩)
   ·rw[if_neg hz]at e;cases e
  | _=>cases e
 | _=>cases dx <;> cases e
abbrev Ov:=cC->Option (Option Int)
inductive tDO(O:List Nat)(g:Ov)(σ:L2.St)(H:Hp)(Q:Option Int->Hp->Prop):Prop
 | mk (H0:Hp) (A0 A:Av) (E:List Fact) (ρ:cC) (o:Option Int) (st:ST H0 A0 A E O σ H ρ) (e:g ρ=some o) (q:∀H',Ext A H H'->Q o H'):tDO O g σ H Q
def JL(X:Cx)(O:List Nat)(e:Option Expr)(g:Ov):Prop:=PO X e (tDO O g)
theorem PO.mono(h:PO X e t)(x:∀σ H Q,t' σ H Q->t σ H Q):PO X e t':=λpins s σ H Q I w=>h pins s σ H Q I (x σ H Q w)
def oM:Ov:=λ_=>some none
noncomputable def NC:D->Option Int
 | .int i=>some i
 | _=>none
theorem uV(h:NC d=some i):d=.int i:=by cases d <;> cases h;rfl
def jT(f:Ev):Ov:=λρ=>(f ρ).bind λd=>(NC d).map some
theorem uN:JL X O none oM:=PO.mono FN λσ H Q ⟨H0,A0,A,E,ρ,d,st,e,q⟩=>by cases e;exact q H (Ext.refl _ _)
theorem uP{e:Expr}{f:Ev}(h:PD X O e f):JL X O (some e) (jT f):=PO.mono (FZ h) <| by
 rintro σ H Q ⟨H0,A0,A,E,ρ,d,st,e,q⟩;obtain⟨x,ex,e⟩:=bind_some e;obtain⟨i,B,rfl⟩:=map_some e;rw[uV B]at ex;exact⟨H0,A0,A,E,ρ,_,st,ex,λv H1 F G=>⟨i,RepB.int_inv (.of G),q H1 F⟩⟩
def cutD(xs:List D)(lo hi:Option Int):List D:=(xs.drop (HT.sIx xs.length 0 lo)).take (HT.sIx xs.length xs.length hi-HT.sIx xs.length 0 lo)
theorem RepL.cut{ds:List D}{vs:List V}{lo hi:Option Int}(r:RepL A H ds vs):RepL A H (cutD ds lo hi) (oX vs lo hi):=by
 unfold cutD oX;rw[r.length];exact(r.drop _).take _
def FC(g:D->Option Int->Option Int->Option D)(f:Ev)(a b:Ov):Ev:=λρ=>(f ρ).bind λx=>(a ρ).bind λlo=>(b ρ).bind λhi=>g x lo hi
inductive rS(g:D->Option Int->Option Int->Option D)(x:V)(lo hi:Option Int)(H:Hp)(Q:VK):Prop
 | mk (A:Av) (dx d:D) (lv:Live A H) (r:RepB A H dx x) (e:g dx lo hi=some d) (q:∀v H',Ext A H H'->Rep A H' d v->Q v H'):rS g x lo hi H Q
inductive rSF(g:D->Option Int->Option Int->Option D)(x:V)(lo hi:Option Int)(H:Hp)(Q:VK):Prop
 | mk (A:Av) (dx d:D) (lv:Live A H) (r:RepB A H dx x) (e:g dx lo hi=some d) (q:∀a H',Ext A H H'->H a=none->¬ A a->Own (λb=>A b\/b=a) H' d a->Q (.ref a) H'):rSF g x lo hi H Q
theorem SlR.mono(h:SlR X r)(x:∀a b c H Q,r' a b c H Q->r a b c H Q):SlR X r':=λpins s σ H a v G J lo hi q Q I M hs B F w=>h pins s σ H a v G J lo hi q Q I M hs B F (x a lo hi H Q w)
def QZ:D->Option Int->Option Int->Option D
 | .tup l,lo,hi=>some (.tup (cutD l lo hi))
 | _,_,_=>none
def O5:D->Option Int->Option Int->Option D
 | .lst l,lo,hi=>some (.lst (cutD l lo hi))
 | _,_,_=>none
theorem uM{lo hi:Option Expr}{g:D->Option Int->Option Int->Option D}{a b:Ov}(N:SlR X (rS g))(J:PB X O e f)(hl:JL X O lo a)(Y:JL X O hi b):PD X O (.Subscript e (.Slice lo hi none p2) pos) (FC g f a b):=
 PE.mono (C1 N J hl Y) <| by
  rintro σ H Q ⟨H0,A0,A,E,ρ,d,st,e,q⟩;obtain⟨x,ex,e⟩:=bind_some e;obtain⟨l,el,e⟩:=bind_some e;obtain⟨h,M,e⟩:=bind_some e;exact⟨H0,A0,A,E,ρ,x,st,ex,λv H1 B W=>⟨H0,A0,A,E,ρ,l,st.mono B,el,λH2 F=>⟨H0,A0,A,E,ρ,h,st.mono (B.trans F),M,λH3 G=>⟨A,x,d,(st.mono ((B.trans F).trans G)).live,W.ext (F.trans G),e,λv H4 U r4=>q v H4 (((B.trans F).trans G).trans U) r4⟩⟩⟩⟩
theorem QL:SlR X (rS QZ):=SlR.mono My.F1 <| by
 rintro x lo hi H Q ⟨A,dx,d,J,G,e,q⟩;cases dx with
 | tup l=>
  obtain⟨a,xs,rfl,h,r⟩:=G.tup_inv;cases e;by_cases w:HT.sIx xs.length 0 lo=0/\HT.sIx xs.length xs.length hi=xs.length
  ·refine .inr ⟨a,xs,rfl,.inl (.inl h),w,q _ H (Ext.refl _ _) (.tup h ?_)⟩
   have F:oX xs lo hi=xs:=by unfold oX;rw[w.1,w.2];simp
   rw[<- F];exact r.cut
  ·exact .inl ⟨a,xs,rfl,.inl (.inl h),w,λp B=>q _ _ (Ext.new B) (.tup aM (r.cut.ext (Ext.new B)))⟩
 | _=>cases e
theorem RB:SlR X (rSF O5):=SlR.mono GU <| by
 rintro x lo hi H Q ⟨A,dx,d,G,F,e,q⟩;cases dx with
 | lst l=>
  obtain⟨a,xs,rfl,h,r⟩:=F.lst_inv;cases e;exact⟨a,xs,rfl,.inl h,λp B=>q p _ (Ext.new B) B (λz=>G p z B) (.lst aM (r.cut.fresh B))⟩
 | _=>cases e
end
inductive Out where
 | nx (ρ:cC)|rt (d:D)|bk (ρ:cC)|ct (ρ:cC)
abbrev Sv:=cC->Option Out
structure Lp where
 ob:List Nat
 oc:List Nat
def QQ(L:Lp)(H0:Hp)(A0:Av)(E:List Fact)(O':List Nat)(T:Ends):Out->Prop
 | .nx ρ=>∀A σ H,ST H0 A0 A E O' σ H ρ->T.nx σ H
 | .rt d=>∀v H,Ext A0 H0 H->Rep A0 H d v->T.rt v H
 | .bk ρ=>∀A σ H,ST H0 A0 A E L.ob σ H ρ->T.bk σ H
 | .ct ρ=>∀A σ H,ST H0 A0 A E L.oc σ H ρ->T.ct σ H
inductive tS(L:Lp)(O:List Nat)(f:Sv)(O':List Nat)(T:Ends)(σ:L2.St)(H:Hp):Prop
 | mk (H0:Hp) (A0 A:Av) (E:List Fact) (ρ:cC) (out:Out) (st:ST H0 A0 A E O σ H ρ) (e:f ρ=some out) (p:QQ L H0 A0 E O' T out):tS L O f O' T σ H
def iY(X:Cx)(L:Lp)(O:List Nat)(st:Stmt)(f:Sv)(O':List Nat):Prop:=PS X st (tS L O f O')
def c7(X:Cx)(L:Lp)(O:List Nat)(st:List Stmt)(f:Sv)(O':List Nat):Prop:=PSs X st (tS L O f O')
section
variable {X:Cx}{L:Lp}{O O' O2:List Nat}
theorem PS.mono{st:Stmt}{t t':TS}(h:PS X st t)(x:∀T σ H,t' T σ H->t T σ H):PS X st t':=λpins s σ H T I w=>h pins s σ H T I (x T σ H w)
theorem PSs.mono{st:List Stmt}{t t':TS}(h:PSs X st t)(x:∀T σ H,t' T σ H->t T σ H):PSs X st t':=λpins s σ H T I w=>h pins s σ H T I (x T σ H w)
noncomputable def Sub(a b:List Nat):Bool:=a.all λi=>b.contains i
theorem Sub.mem(h:Sub a b=true)(i:Nat)(hi:i∈a):i∈b:=by
 have:=(List.all_eq_true.mp h) i hi;simpa using this
def IU:Sv:=λρ=>some (.nx ρ)
def cN(f g:Sv):Sv:=λρ=>(f ρ).bind λo=>match o with
 | .nx ρ'=>g ρ'
 | o=>some o
theorem xQ(h:Sub O' O=true:=by rfl):c7 X L O [] IU O':=PSs.mono G2 <| by
 rintro T σ H ⟨H0,A0,A,E,ρ,B,st,e,p⟩;cases e;obtain⟨A',q⟩:=st.shut (Sub.mem h);exact p A' σ H q
theorem FS(h:tS L O (cN f g) O' T σ H):PY (tS L O f O2) (tS L O2 g O') T σ H:=by
 obtain⟨H0,A0,A,E,ρ,B,st,e,p⟩:=h;obtain⟨o,F,e⟩:=bind_some e;refine⟨H0,A0,A,E,ρ,o,st,F,?_⟩;cases o with
 | nx ρ'=>exact λA' G H' q=>⟨H0,A0,A',E,ρ',B,q,e,p⟩
 | rt d=>cases e;exact p
 | bk d=>cases e;exact p
 | ct d=>cases e;exact p
theorem BK{st:Stmt}{rest:List Stmt}{f g:Sv}(h1:iY X L O st f O2)(h2:c7 X L O2 rest g O'):c7 X L O (st::rest) (cN f g) O':=PSs.mono (nK h1 h2) λT σ H h=>FS h
theorem aS{st:Stmt}{f:Sv}(h1:iY X L O st f O'):c7 X L O [st] f O':=xN h1
def BF(f:Ev):Sv:=λρ=>(f ρ).map .rt
theorem FW{e:Expr}{pos:Pos}{f:Ev}(q:PD X O e f):iY X L O (.Return (some e) pos) (BF f) O':=PS.mono (DH q) <| by
 rintro T σ H ⟨H0,A0,A,E,ρ,F,st,e,p⟩;obtain⟨d,B,rfl⟩:=map_some e;exact⟨H0,A0,A,E,ρ,d,st,B,λv H' x r=>p v H' (st.mono x).ex (r.av λa G=>.inl (st.sub a G))⟩
def EQ(f:Ev):Sv:=λρ=>(f ρ).map λ_=>.nx ρ
theorem CO{e:Expr}{pos:Pos}{f:Ev}(B:PB X O e f)(hs:UM e none pos.line X.env=pure false:=by rfl)(h:Sub O' O=true:=by rfl):iY X L O (.Expr e pos) (EQ f) O':=PS.mono (rA B hs) <| by
 rintro T σ H ⟨H0,A0,A,E,ρ,G,st,e,p⟩;obtain⟨d,F,rfl⟩:=map_some e;refine⟨H0,A0,A,E,ρ,d,st,F,λv H' x r=>?_⟩;obtain⟨A',q⟩:=(st.mono x).shut (Sub.mem h);exact p A' σ H' q
def qO(c:Bv)(f g:Sv):Sv:=λρ=>(c ρ).bind λb=>if b=true then f ρ else g ρ
theorem wK{c:Expr}{a b:List Stmt}{pos:Pos}{g:Bv}{f k:Sv}(J:oP X O c g)(F:c7 X L O a f O')(M:c7 X L O b k O'):iY X L O (.If c a b pos) (qO g f k) O':=PS.mono (OB J F M) <| by
 rintro T σ H ⟨H0,A0,A,E,ρ,q,st,e,p⟩;obtain⟨b,G,e⟩:=bind_some e;refine⟨H0,A0,A,E,ρ,b,st,G,λH1 B=>?_⟩;cases b with
 | true=>rw[if_pos rfl]at e ⊢;exact⟨H0,A0,A,E,ρ,q,st.mono B,e,p⟩
 | false=>rw[if_neg TN]at e ⊢;exact⟨H0,A0,A,E,ρ,q,st.mono B,e,p⟩
def cP(i:Nat)(f:Ev):Sv:=λρ=>(f ρ).map λd=>.nx (ρ.set i (some d))
theorem Sub.er{a b:List Nat}{i j:Nat}(h:Sub a (b.filter (· != i))=true)(q:j∈a):j∈b/\j≠i:=by
 have:=Sub.mem h j q;rw[List.mem_filter]at this;exact⟨this.1,by simpa using this.2⟩
theorem yS{i:Nat}{x:Str}{e:Expr}{pos pos':Pos}{f:Ev}(Y:X.N.Nodup)(hi:X.N[i]?=some x)(hx:Loc X.env.scope x)(G:PD X O e f)(h:Sub O' (O.filter (· != i))=true:=by rfl)
  (hs:UM e (some (.Name x pos')) pos.line X.env=pure false:=by rfl) (M:X.fn x=true\/X.env.scope.names.lookup x=some .local:=by first|exact .inl rfl|exact .inr rfl):iY X L O (.Assign [.Name x pos'] e pos) (cP i f) O':=
 PS.mono (rU Y hi hx G hs M) <| by
  rintro T σ H ⟨H0,A0,A,E,ρ,U,st,e,p⟩;obtain⟨d,J,rfl⟩:=map_some e;refine⟨H0,A0,A,E,ρ,d,st,J,λv H' x r=>?_⟩
  -- i leaves what may be written ahead of the store: the value is borne by fewer too
  have F:=(st.mono x).more r;obtain⟨A',B⟩:=F.shut (O':=O') λj hj=>(Sub.er h hj).1
  exact p A' _ H' ((B.put (B.ext _ (TK ..)) λz=>(Sub.er h z).2 rfl).less λq W=>TR _ W)
theorem Own.there:Own A H d a->H a≠none
 | .lst h _=>by rw[h];exact λz=>nomatch z
 | .dK h _ _=>by rw[h];exact λz=>nomatch z
 | .dT h _ _=>by rw[h];exact λz=>nomatch z
theorem ST.own_put(s:ST H0 A0 A E O σ H ρ)(x:Ext A H H')(n:H a=none)(na:¬ A a)(o:Own (λb=>A b\/b=a) H' d a)(ni:i∉O) :
  ST H0 A0 (λb=>A b\/b=a) E (i::O) (σ.set i (some (.ref a))) H' (ρ.set i (some d)):=by
 have s':=s.mono x;have n0:H0 a=none:=s.ex.free n
 -- whatever was borne ahead avoids a
 have G:Ext (λb=>A b\/b=a) H H':=⟨x.rd,x.kp,λb u q e=>q.elim (λq=>x.ow b u q e) λq=>(by subst q;rw[n]at e;exact nomatch e),x.fz⟩;have ad:∀ {p:Fact},p.Holds A H->p.Holds (λb=>A b\/b=a) H':=λr=>Fact.ext G (Fact.av (A':=λb=>A b\/b=a) (λb q=>by
   rcases q with q|q
   ·exact .inl q
   ·exact .inr (q ▸ n)) r)
 have up:∀ {d:D} {v:V},Rep A H d v->Rep (λb=>A b\/b=a) H' d v:=λr=>by
  have r1:Rep (λb=>A b\/b=a) H _ _:=r.av λb q=>by
   rcases q with q|q
   ·exact .inl q
   ·exact .inr (q ▸ n)
  exact r1.ext G
 have ab:∀ {d:D} {b:Addr},A b->Own A H d b->Own (λc=>A c\/c=a) H' d b:=λq r=>by
  have r1:Own (λc=>A c\/c=a) H _ _:=r.av λb q=>by
   rcases q with q|q
   ·exact .inl q
   ·exact .inr (q ▸ n)
  exact r1.ext G (.inl q)
 have ha:H' a≠none:=o.there;refine⟨s'.ex,λb q=>.inl (s.sub b q),s.l0,λb q=>?_,by simp[s.len],λj d' h' U=>?_,λj d' h' U=>?_,λj k M d2 b hj hk h1 h2 F W=>?_,λp hp=>ad (s.ext p hp)⟩
 ·rcases q with q|q
  ·exact s'.live b q
  ·subst q;exact ha
 ·rcases cZ h' with⟨e,B,l⟩|⟨e,B⟩
  ·exact absurd (List.mem_cons.mpr (.inl e)) U
  ·obtain⟨w,h1,h2⟩:=s.val j d' B λz=>U (TR _ z)
   exact⟨w,by rw[fG e];exact h1,up h2⟩
 ·rcases cZ h' with⟨e,B,l⟩|⟨e,B⟩
  ·subst e;cases B
   exact⟨a,sig_set (by rw[s.len];exact l),.inr rfl,n0,o⟩
  ·rcases List.mem_cons.mp U with z|z
   ·exact absurd z e
   ·obtain⟨w,h1,h2,F,W⟩:=s.own j d' B z
    exact⟨w,by rw[fG e];exact h1,.inl h2,F,ab h2 W⟩
 ·have J:∀ {j:Nat} {M:D},j∈i::O->(ρ.set i (some d))[j]?=some (some M)->(σ.set i (some (.ref a)))[j]?=some (some (.ref b))->(j=i/\b=a)\/(j≠i/\j∈O/\ρ[j]?=some (some M)/\σ[j]?=some (some (.ref b))/\b≠a):=by
   intro j M hj h1 F;rcases cZ h1 with⟨e,B,l⟩|⟨e,B⟩
   ·subst e
    rw[sig_set (by rw[s.len];exact l)]at F;cases F;exact .inl ⟨rfl,rfl⟩
   ·rcases List.mem_cons.mp hj with z|z
    ·exact absurd z e
    ·rw[fG e]at F
     obtain⟨w,q1,q2,_⟩:=s.own j M B z;rw[F]at q1;cases q1;exact .inr ⟨e,z,B,F,λz=>na (z ▸ q2)⟩
  rcases J hj h1 F with⟨e1,B⟩|⟨e1,B,e3,e4,e5⟩
  ·rcases J hk h2 W with⟨Y,N⟩|⟨Y,N,f3,f4,f5⟩
   ·rw[e1,Y]
   ·exact absurd B f5
  ·rcases J hk h2 W with⟨Y,N⟩|⟨Y,N,f3,f4,f5⟩
   ·exact absurd N e5
   ·exact s.inj j k M d2 b B N e3 f3 e4 f4
theorem C7{i:Nat}{x:Str}{e:Expr}{pos pos':Pos}{f:Ev}(W:X.N.Nodup)(hi:X.N[i]?=some x)(hx:Loc X.env.scope x)(F:PF X O e f)(h:Sub O' (i::O)=true:=by rfl)(U:O.contains i=false:=by rfl)
  (hs:UM e (some (.Name x pos')) pos.line X.env=pure false:=by rfl) (M:X.fn x=true\/X.env.scope.names.lookup x=some .local:=by first|exact .inl rfl|exact .inr rfl):iY X L O (.Assign [.Name x pos'] e pos) (cP i f) O':=
 PS.mono (rU W hi hx F hs M) <| by
  rintro T σ H ⟨H0,A0,A,E,ρ,J,st,e,p⟩;obtain⟨d,G,rfl⟩:=map_some e;refine⟨H0,A0,A,E,ρ,d,st,G,λa H' x n na o=>?_⟩;have B:i∉O:=λz=>by
   have:O.contains i=true:=by simpa using z
   rw[U]at this;cases this
  obtain⟨Y,q⟩:=(st.own_put x n na o B).shut (Sub.mem h);exact p Y _ H' q
theorem ST.write(s:ST H0 A0 A E O σ H ρ)(hi:ρ[i]?=some (some d))(hO:i∈O)(hs:σ[i]?=some (some (.ref a)))(M:A a)(h0:H0 a=none)(Y:H a=some u)(ob:NI u)(hn:Own A (upd H a o) d' a) :
  ST H0 A0 A E O σ (upd H a o) (ρ.set i (some d')):=by
 have B:∀b,H0 b≠none->b≠a:=λb hb z=>hb (z ▸ h0)
 refine⟨⟨λb w r=>?_,λb xs k r=>?_,λb w n r=>?_,λb q w r=>?_⟩,s.sub,s.l0,λb hb=>?_,by simp[s.len],λj d2 h' G=>?_,λj d2 h' G=>?_,λj k N d2 b hj hk h1 h2 W U=>?_,λp hp=>Fact.put M Y ob (s.ext p hp)⟩
 ·refine gK (B b ?_) (s.ex.rd b w r)
  rcases r with r|⟨_,r⟩ <;> (rw[r];exact λz=>nomatch z)
 ·rw[aJ (B b (by rw[r];exact λz=>nomatch z))];exact s.ex.kp b xs k r
 ·rw[aJ (B b (by rw[r];exact λz=>nomatch z))];exact s.ex.ow b w n r
 ·rw[aJ (B b (by rw[r];exact λz=>nomatch z))];exact s.ex.fz b q w r
 ·by_cases e:b=a
  ·subst e;rw[aM];exact λz=>nomatch z
  ·rw[aJ e];exact s.live b hb
 ·rcases cZ h' with⟨e,F,l⟩|⟨e,F⟩
  ·subst e;exact absurd hO G
  ·obtain⟨w,h1,h2⟩:=s.val j d2 F G
   exact⟨w,h1,h2.put M Y ob⟩
 ·rcases cZ h' with⟨e,F,l⟩|⟨e,F⟩
  ·subst e;cases F;exact⟨a,hs,M,h0,hn⟩
  ·obtain⟨b,h1,h2,W,U⟩:=s.own j d2 F G
   refine⟨b,h1,h2,W,U.put M Y ob λz=>?_⟩;subst z;exact e (s.inj j i d2 d b G hO F hi h1 hs)
 ·have J:∀ {j:Nat} {N:D},(ρ.set i (some d'))[j]?=some (some N)->∃d0,ρ[j]?=some (some d0):=by
   intro j N h;rcases cZ h with⟨e,_,_⟩|⟨_,e⟩
   ·subst e;exact⟨d,hi⟩
   ·exact⟨N,e⟩
  obtain⟨x,hx⟩:=J h1;obtain⟨y,hy⟩:=J h2;exact s.inj j k x y b hj hk hx hy W U
noncomputable def mem(O:List Nat)(i:Nat):Bool:=O.contains i
theorem fI(h:mem O i=true):i∈O:=by simpa[mem]using h
def sQ(i:Nat)(f:Ev):Sv:=λρ=>(aC i ρ).bind λx=>match x with
 | .lst l=>(f ρ).bind λd=>if bA l.length then some (.nx (ρ.set i (some (.lst (l++[d])))))else none
 | _=>none
theorem vL{o e:Expr}{i:Nat}{apos cpos pos:Pos}{f:Ev}(ho:PE X o (kE i))(he:PD X O e f)(G:mem O i=true)(Y:PE X (.Call (.Attribute o "append" apos) [e] [] cpos) (NG X.K "list" xU (kE i) (y6 (tD Rep O f) MT)))
  (hs:UM (.Call (.Attribute o "append" apos) [e] [] cpos) none pos.line X.env=pure false:=by rfl) (h:Sub O' O=true:=by rfl):iY X L O (.Expr (.Call (.Attribute o "append" apos) [e] [] cpos) pos) (sQ i f) O':=
 PS.mono (rA Y hs) <| by
  rintro T σ H ⟨H0,A0,A,E,ρ,M,st,e,p⟩;obtain⟨x,ex,e⟩:=bind_some e;cases x with
  | lst l=>
   obtain⟨d,W,e⟩:=bind_some e;by_cases hz:bA l.length=true
   ·rw[if_pos hz]at e
    cases e;obtain⟨a,F,q,N,U⟩:=st.own i _ (bM ex) (fI G);cases U with
    | lst h4 r4=>
     refine⟨_,F,.inl ⟨rfl,_,SqL.of h4⟩,H0,A0,A,E,ρ,d,st,W,λv H' x r=>⟨a,_,v,rfl,rfl,x.ow _ _ q h4,by rw[r4.length];exact rB hz,?_⟩⟩;have J:=x.ow _ _ q h4;obtain⟨A',B⟩:=((st.mono x).write (o:=.lst _) (bM ex) (fI G) F q N J trivial (.lst aM (((r4.ext x).append (.cons r .nil)).put q J trivial))).shut (Sub.mem h);exact p A' σ _ B
   ·rw[if_neg hz]at e;cases e
  | _=>cases e
def P7:D->Option Key
 | .int i=>some (.inl i)
 | .str x=>some (.inr x)
 | _=>none
def EV:List D->Option (List Key)
 | []=>some []
 | d::ds=>(P7 d).bind λk=>(EV ds).bind λks=>some (k::ks)
def IQ:D->Option (List Key)
 | .tup l=>EV l
 | _=>none
noncomputable def fK{κ:Type}[DecidableEq κ](l:List (κ×D))(k:κ):Option D:=(l.find? λp=>decide (p.1=k)).map (·.2)
noncomputable def putD{κ:Type}[DecidableEq κ](l:List (κ×D))(k:κ)(d:D):List (κ×D):=if l.any (λp=>decide (p.1=k))then l.map (λp=>if p.1=k then(p.1,d)else p)else l++[(k,d)]
end
section
variable {A:Av}{H:Hp}
section
variable {κ:Type}[DecidableEq κ]
abbrev PP(A:Av)(H:Hp):List (κ×D)->List (κ×V)->Prop:=UB λ(p:κ×D) (q:κ×V)=>p.1=q.1/\Rep A H p.2 q.2
theorem oO:∀ {l:List (κ×D)} {xs:List (κ×V)},xs.map (·.1)=l.map (·.1)->RepL A H (l.map (·.2)) (xs.map (·.2))->PP A H l xs
 | [],[],_,_=>.nil
 | [],_::_,e,_=>by cases e
 | _::_,[],e,_=>by cases e
 | p::l,q::xs,e,r=>by
  rw[TB,TB]at e r;injection e with e1 e2
  cases r with
  | cons h t=>exact .cons ⟨e1.symm,h⟩ (oO e2 t)
theorem EL:∀ {l:List (κ×D)} {xs:List (κ×V)},PP A H l xs->xs.map (·.1)=l.map (·.1)/\RepL A H (l.map (·.2)) (xs.map (·.2))
 | _,_,.nil=>⟨rfl,.nil⟩
 | _,_,.cons h t=>by
  obtain⟨e,r⟩:=EL t;exact⟨by rw[TB,TB,h.1,e],.cons h.2 r⟩
theorem DJ(k:κ)(h:PP A H l xs):(fK l k=none/\jU xs k=none)\/∃d v,fK l k=some d/\jU xs k=some v/\Rep A H d v:=by
 induction h with
 | nil=>exact .inl ⟨rfl,rfl⟩
 | @cons p q l xs h t ih=>
  by_cases e:p.1=k
  ·refine .inr ⟨p.2,q.2,?_,jJ (h.1 ▸ e),h.2⟩
   simp[fK,UV,e]
  ·have B:¬ q.1=k:=λz=>e (h.1.trans z)
   have a:fK (p::l) k=fK l k:=by simp[fK,UV,e]
   rw[a,jB B];exact ih
theorem LU(k:κ)(h:PP A H l xs):(l.any λp=>decide (p.1=k))=xs.any λp=>decide (p.1=k):=by
 induction h with
 | nil=>rfl
 | cons h t ih=>rw[VF,VF,ih,h.1]
theorem KU(k:κ)(r:Rep A H d v)(h:PP A H l xs):PP A H (l.map λp=>if p.1=k then(p.1,d)else p) (xs.map λp=>if p.1=k then(p.1,v)else p):=by
 induction h with
 | nil=>exact .nil
 | @cons p q l xs h t ih=>
  rw[TB,TB];refine .cons ?_ ih;by_cases e:p.1=k
  ·rw[if_pos e,if_pos (h.1 ▸ e)];exact⟨h.1,r⟩
  ·rw[if_neg e,if_neg (λz=>e (h.1.trans z))];exact h
theorem L6(h:PP A H l xs)(h':PP A H m ys):PP A H (l++m) (xs++ys):=by
 induction h with
 | nil=>exact h'
 | cons h t ih=>exact .cons h ih
theorem DV(k:κ)(r:Rep A H d v)(h:PP A H l xs):PP A H (putD l k d) (putK xs k v):=by
 unfold putD putK;rw[LU k h];by_cases e:(xs.any λp=>decide (p.1=k))=true
 ·rw[if_pos e,if_pos e];exact KU k r h
 ·rw[if_neg e,if_neg e];exact L6 h (.cons ⟨rfl,r⟩ .nil)
end
theorem rQ(h:P7 d=some k)(r:RepB A H d v):v=kV k:=by
 cases d <;> cases h
 ·exact r.int_inv
 ·exact r.str_inv
theorem uW:∀ {ds:List D} {ks:List Key} {vs:List V},EV ds=some ks->RepL A H ds vs->vs=ks.map kV
 | _,_,_,h,.nil=>by cases h;rfl
 | _,_,_,h,.cons r t=>by
  obtain⟨k,B,h⟩:=bind_some h;obtain⟨ks,q,h⟩:=bind_some h;cases h;rw[TB,rQ B (.of r),uW q t]
theorem yX(h:IQ d=some k)(r:RepB A H d v):∃b,v=.ref b/\H b=some (.tup (k.map kV)):=by
 cases d <;> try cases h
 rename_i l;obtain⟨a,xs,rfl,h1,h2⟩:=r.tup_inv;exact⟨a,rfl,by rw[h1,uW h h2]⟩
def dU:D->D->Option (Option D)
 | .dK l,k=>(P7 k).map λk=>fK l k
 | .dT l,k=>(IQ k).map λk=>fK l k
 | _,_=>none
theorem jG{d k:D}{x y:V}{o:Option D}(h:dU d k=some o)(J:RepB A H d x)(G:RepB A H k y):∃a F,x=.ref a/\NE H a/\DGet H a y F/\((o=none/\F=none)\/∃z v,o=some z/\F=some v/\Rep A H z v):=by
 cases d with
 | dK l=>
  obtain⟨q,B,rfl⟩:=map_some h;obtain⟨a,xs,rfl,h1,e,r⟩:=J.dK_inv;have:=rQ B G;subst this;refine⟨a,_,rfl,.inl ⟨xs,h1⟩,.inl ⟨xs,q,h1,rfl,rfl⟩,DJ q (oO e r)⟩
 | dT l=>
  obtain⟨q,B,rfl⟩:=map_some h;obtain⟨a,xs,rfl,h1,e,r⟩:=J.dT_inv;obtain⟨b,rfl,M⟩:=yX B G;exact⟨a,_,rfl,.inr ⟨xs,h1⟩,.inr ⟨xs,q,b,h1,rfl,M,rfl⟩,DJ q (oO e r)⟩
 | _=>cases h
end
section
variable {X:Cx}{O O':List Nat}{L:Lp}
theorem PE.or(h:PE X e t)(k:PE X e u):PE X e (λσ H Q=>t σ H Q\/u σ H Q):=λpins s σ H Q I w=>w.elim (h pins s σ H Q I) (k pins s σ H Q I)
def aN(d k:D):Option D:=match d with
 | .dK _=>(dU d k).join
 | .dT _=>(dU d k).join
 | _=>QC d k
theorem nD{q:Type}{o:Option (Option q)}{d:q}(h:o.join=some d):o=some (some d):=by
 cases o with
 | none=>cases h
 | some o=>cases o with
  | none=>cases h
  | some x=>cases h;rfl
theorem uE{G M:Ev}{σ:L2.St}{H:Hp}{Q:VK}(h:tD Rep O (aT (λd k=>(dU d k).join) G M) σ H Q):JC (tD RepB O G) (tD RepB O M) σ H Q:=by
 obtain⟨H0,A0,A,E,ρ,d,st,e,q⟩:=h;obtain⟨x,ex,e⟩:=bind_some e;obtain⟨y,W,e⟩:=bind_some e;refine⟨H0,A0,A,E,ρ,x,st,ex,λv H1 F r1=>⟨H0,A0,A,E,ρ,y,st.mono F,W,λw H2 N U=>?_⟩⟩;obtain⟨a,ov,Y,_,g,B⟩:=jG (nD e) (r1.ext N) U;rcases B with⟨B,_⟩|⟨z,J,B,e3,r3⟩
 ·cases B
 ·cases B;subst e3
  exact⟨a,J,Y,g,q J H2 (F.trans N) r3⟩
theorem xR(N:X.A.units+1<cLine)(G:PB X O a fa)(J:PB X O b fb)(hs:qZ b):PD X O (.Subscript a b pos) (aT aN fa fb):=
 PE.mono (PE.or (NN RP G J hs) (GB N G J hs)) <| by
  rintro σ H Q ⟨H0,A0,A,E,ρ,d,st,e,q⟩;obtain⟨x,ex,F⟩:=bind_some e;obtain⟨y,M,F⟩:=bind_some F;have B:∀g:D->D->Option D,g x y=some d->tD Rep O (aT g fa fb) σ H Q:=λg h=>⟨H0,A0,A,E,ρ,d,st,by unfold aT;rw[ex,M];exact h,q⟩
  cases x with
  | dK l=>exact .inr (uE (B _ F))
  | dT l=>exact .inr (uE (B _ F))
  | _=>exact .inl (rV (B QC F))
def IZ(fd q B:Ev):Ev:=λρ=>(fd ρ).bind λd=>(q ρ).bind λk=>(B ρ).bind λe=>(dU d k).map λo=>o.getD e
theorem L3(k:D)(h:dU d k=some o)(r:RepB A H d v):∃a,v=.ref a/\NE H a:=by
 cases d with
 | dK l=>obtain⟨a,xs,rfl,h1,_⟩:=r.dK_inv;exact⟨a,rfl,.inl ⟨xs,h1⟩⟩
 | dT l=>obtain⟨a,xs,rfl,h1,_⟩:=r.dT_inv;exact⟨a,rfl,.inr ⟨xs,h1⟩⟩
 | _=>cases h
theorem FT(hu:X.A.units+1<cLine)(ho:PB X O o fd)(he:PB X O e fk)(hf:PD X O f fe)(m:M2 X o "get" apos e f cpos):PD X O (.Call (.Attribute o "get" apos) [e,f] [] cpos) (IZ fd fk fe):=
 PE.mono (CS hu ho he hf m) <| by
  rintro σ H Q ⟨H0,A0,A,E,ρ,d,st,e,q⟩;obtain⟨x,ex,e⟩:=bind_some e;obtain⟨y,ey,e⟩:=bind_some e;obtain⟨z,ez,e⟩:=bind_some e;obtain⟨ov,eo,rfl⟩:=map_some e;refine⟨H0,A0,A,E,ρ,x,st,ex,λv H1 B Y=>?_⟩;obtain⟨a,N,J⟩:=L3 y eo Y;refine⟨a,N,J,H0,A0,A,E,ρ,y,st.mono B,ey,λw H2 G r2=>⟨H0,A0,A,E,ρ,z,st.mono (B.trans G),ez,λu U F r3=>?_⟩⟩;obtain⟨a',M,W,_,g,e3⟩:=jG eo (Y.ext (G.trans F)) (r2.ext F);rw[N]at W;cases W;refine⟨M,g,?_⟩;rcases e3 with⟨rfl,rfl⟩|⟨z',v',rfl,rfl,r4⟩
  ·exact q u U ((B.trans G).trans F) r3
  ·exact q v' U ((B.trans G).trans F) r4
def E7(d k e:D):Option D:=match d with
 | .dK l=>(P7 k).bind λk=>if bA l.length then some (.dK (putD l k e))else none
 | .dT l=>(IQ k).bind λk=>if bA l.length then some (.dT (putD l k e))else none
 | .lst l=>(NC k).bind λk=>(JP l.length k).map λj=>.lst (l.set j e)
 | _=>none
def MQ(i:Nat)(q B:Ev):Sv:=λρ=>(B ρ).bind λe=>(aC i ρ).bind λx=>(q ρ).bind λk=>(E7 x k e).map λd=>.nx (ρ.set i (some d))
theorem PS.or{st:Stmt}{t u:TS}(h:PS X st t)(k:PS X st u):PS X st (λT σ H=>t T σ H\/u T σ H):=λpins s σ H T I w=>w.elim (h pins s σ H T I) (k pins s σ H T I)
theorem GX{o k value:Expr}{i:Nat}{pos pos':Pos}{fk fe:Ev}(B:X.A.units+1<cLine)(ho:PE X o (kE i))(hk:PB X O k fk)(hv:PD X O value fe)(hO:mem O i=true)(h:Sub O' O=true:=by rfl)
  (hs:UM value (some (.Subscript o k pos')) pos.line X.env=pure false:=by rfl) (ah:swapsWithSole [.Subscript o k pos'] value pos.line X.env=pure false:=by rfl) (hw:swappedStores [.Subscript o k pos'] value X.env=pure none:=by rfl)
  (hg:∀ {to ti:TE} {t:EZ},PE X o to->PE X k ti->II X t->PG X (.Subscript o k pos') (MR to ti t):=by intro _ _ _ a b c;exact D0 a b c) :
  iY X L O (.Assign [.Subscript o k pos'] value pos) (MQ i fk fe) O':=
 PS.mono (PS.or (GV B ho hk hv hs) (MD hv (hg ho hk set_list) ah hw)) <| by
  rintro T σ H ⟨H0,A0,A,E,ρ,as,st,e,p⟩;obtain⟨z,ez,e⟩:=bind_some e;obtain⟨x,ex,e⟩:=bind_some e;obtain⟨y,ey,e⟩:=bind_some e;obtain⟨d,ed,rfl⟩:=map_some e;obtain⟨a,U,J,e3,e4⟩:=st.own i _ (bM ex) (fI hO);cases x with
  | dK l=>
   obtain⟨Y,e5,G⟩:=bind_some ed;by_cases hz:bA l.length=true
   ·rw[if_pos hz]at G;cases G
    refine .inl ⟨H0,A0,A,E,ρ,z,st,ez,λv H1 M r1=>⟨_,U,H0,A0,A,E,ρ,y,st.mono M,ey,λw H2 N W=>?_⟩⟩;have q:=M.trans N;cases e4 with
    | @dK _ _ xs h4 ee r4=>
     have B:=q.ow _ _ J h4;have hl:xs.length=l.length:=by have:=congrArg V8 ee;simpa using this
     have:=rQ e5 W;subst this;refine⟨a,_,rfl,DPut.k B (by rw[hl];exact rB hz),?_⟩;obtain⟨e7,r7⟩:=EL (DV Y (r1.ext N) (oO ee (r4.ext q)));obtain⟨A',F⟩:=((st.mono q).write (o:=.dK _) (bM ex) (fI hO) U J e3 B trivial (.dK aM e7 (r7.put J B trivial))).shut (Sub.mem h);exact p A' σ _ F
   ·rw[if_neg hz]at G;cases G
  | dT l=>
   obtain⟨Y,e5,G⟩:=bind_some ed;by_cases hz:bA l.length=true
   ·rw[if_pos hz]at G;cases G
    refine .inl ⟨H0,A0,A,E,ρ,z,st,ez,λv H1 M r1=>⟨_,U,H0,A0,A,E,ρ,y,st.mono M,ey,λw H2 N W=>?_⟩⟩;have q:=M.trans N;cases e4 with
    | @dT _ _ xs h4 ee r4=>
     have B:=q.ow _ _ J h4;have hl:xs.length=l.length:=by have:=congrArg V8 ee;simpa using this
     obtain⟨b,rfl,hb⟩:=yX e5 W;refine⟨a,_,rfl,DPut.t B hb (by rw[hl];exact rB hz),?_⟩;obtain⟨e7,r7⟩:=EL (DV Y (r1.ext N) (oO ee (r4.ext q)));obtain⟨A',F⟩:=((st.mono q).write (o:=.dT _) (bM ex) (fI hO) U J e3 B trivial (.dT aM e7 (r7.put J B trivial))).shut (Sub.mem h);exact p A' σ _ F
   ·rw[if_neg hz]at G;cases G
  | lst l=>
   obtain⟨Y,e5,G⟩:=bind_some ed;obtain⟨j,e7,rfl⟩:=map_some G;refine .inr ⟨H0,A0,A,E,ρ,z,st,ez,λv H1 M r1=>⟨_,U,H0,A0,A,E,ρ,y,st.mono M,ey,λw H2 N W=>?_⟩⟩;have q:=M.trans N;cases e4 with
   | @lst _ _ xs h4 r4=>
    have B:=q.ow _ _ J h4;rw[uV e5]at W;have:=W.int_inv;subst this;refine⟨a,xs,Y,j,rfl,rfl,B,by rw[r4.length];exact e7,?_⟩;obtain⟨A',F⟩:=((st.mono q).write (o:=.lst _) (bM ex) (fI hO) U J e3 B trivial (.lst aM (((r4.ext q).set j (r1.ext N)).put J B trivial))).shut (Sub.mem h);exact p A' σ _ F
  | _=>cases ed
noncomputable def E9(g:Int->Int->Option D):D->D->Option D
 | .int i,.int j=>g i j
 | _,_=>none
theorem nZ(h:E9 g x y=some d):∃i j,x=.int i/\y=.int j/\g i j=some d:=by
 cases x <;> cases y <;> first|(cases h;done)|exact⟨_,_,rfl,rfl,h⟩
theorem sC{f:Value->Value->Sem Value}{C:Int->Int->Prop}[∀i j,Decidable (C i j)]{g:Int->Int->Int}(h:OpR X f (rI C λi j=>.int (g i j))):fR X f (E9 λi j=>if C i j then some (.int (g i j))else none):=
 OpR.mono h <| by
  rintro x y H Q ⟨A,dx,N,d,M,J,G,e,q⟩;obtain⟨i,j,rfl,rfl,B⟩:=nZ e;have:=J.int_inv;subst this;have:=G.int_inv;subst this;by_cases F:C i j
  ·rw[if_pos F]at B;cases B
   exact⟨i,j,rfl,rfl,F,q _ H (Ext.refl _ _) (.int _)⟩
  ·rw[if_neg F]at B;cases B
theorem F3{f:Value->Value->Sem Value}{g:Int->Int->Int}(h:OpR X f (IN λi j=>.int (g i j))):fR X f (E9 λi j=>some (.int (g i j))):=
 OpR.mono h <| by
  rintro x y H Q ⟨A,dx,G,d,J,F,B,e,q⟩;obtain⟨i,j,rfl,rfl,e⟩:=nZ e;have:=F.int_inv;subst this;have:=B.int_inv;subst this;cases e;exact⟨i,j,rfl,rfl,q _ H (Ext.refl _ _) (.int _)⟩
theorem BW{f:Value->Value->Sem Value}{g:Int->Int->Bool}(h:OpR X f (IN λi j=>.bl (g i j))):fR X f (E9 λi j=>some (.bl (g i j))):=
 OpR.mono h <| by
  rintro x y H Q ⟨A,dx,G,d,J,F,B,e,q⟩;obtain⟨i,j,rfl,rfl,e⟩:=nZ e;have:=F.int_inv;subst this;have:=B.int_inv;subst this;cases e;exact⟨i,j,rfl,rfl,q _ H (Ext.refl _ _) (.bl _)⟩
instance:∀i j,Decidable (My.PM i j):=λi j=>by unfold My.PM;infer_instance
instance:∀i j,Decidable (IC i j):=λi j=>by unfold IC;infer_instance
instance:∀i j,Decidable (IJ i j):=λi j=>by unfold IJ;infer_instance
def PV:D->D->Option D:=E9 λi j=>some (.int (i-j))
def cX:D->D->Option D:=E9 λi j=>if 0<j then some (.int (i%j))else none
def g4:D->D->Option D:=E9 λi j=>if IC i j then some (.int (i/j))else none
def sP:D->D->Option D:=E9 λi j=>if IJ i j then some (.int (i^j.toNat))else none
def IK:D->D->Option D:=E9 λi j=>some (.bl (decide (j<i)))
theorem rY:fR X (UI .Sub) PV:=F3 MK
theorem c9:fR X (UI .Mod) cX:=sC KB
theorem iS:fR X (UI .FloorDiv) g4:=sC GL
theorem EI:fR X (UI .Pow) sP:=sC JZ
theorem OO:fR X (TJ .Gt) IK:=BW OV
def MV(f:Ev):Ev:=λρ=>(f ρ).bind λd=>(NC d).map λi=>.int (-i)
end
section
variable {X:Cx}{L:Lp}{O O':List Nat}
def ID:Sv:=λ_=>none
theorem AJ{st:Stmt}:iY X L O st ID O':=λ_ _ _ _ _ _ ⟨_,_,_,_,_,_,_,e,_⟩=>nomatch e
abbrev Gv:=D->cC->Option cC
inductive tDG(O:List Nat)(g:Gv)(v:V)(σ:L2.St)(H:Hp)(Q:L2.St->Hp->Prop):Prop
 | mk (H0:Hp) (A0 A:Av) (E:List Fact) (ρ:cC) (d:D) (ρ':cC) (st:ST H0 A0 A E O σ H ρ) (r:Rep A H d v) (e:g d ρ=some ρ') (q:∀σ',ST H0 A0 A E O σ' H ρ'->Q σ' H):tDG O g v σ H Q
def zE(X:Cx)(O:List Nat)(tg:Expr)(g:Gv):Prop:=PG X tg (tDG O g)
abbrev NB:=List D->cC->Option cC
inductive tDGs(O:List Nat)(g:NB)(vs:List V)(σ:L2.St)(H:Hp)(Q:L2.St->Hp->Prop):Prop
 | mk (H0:Hp) (A0 A:Av) (E:List Fact) (ρ:cC) (ds:List D) (ρ':cC) (st:ST H0 A0 A E O σ H ρ) (r:RepL A H ds vs) (e:g ds ρ=some ρ') (q:∀σ',ST H0 A0 A E O σ' H ρ'->Q σ' H):tDGs O g vs σ H Q
def w8(X:Cx)(O:List Nat)(ts:List Expr)(g:NB):Prop:=PGs X ts (tDGs O g)
theorem PG.mono(h:PG X tg t)(x:∀v σ H Q,t' v σ H Q->t v σ H Q):PG X tg t':=λpins s σ H v u Q I r w=>h pins s σ H v u Q I r (x v σ H Q w)
theorem PGs.mono(h:PGs X ts t)(x:∀v σ H Q,t' v σ H Q->t v σ H Q):PGs X ts t':=λpins s σ H v u Q I r w=>h pins s σ H v u Q I r (x v σ H Q w)
def aL(i:Nat):Gv:=λd ρ=>some (ρ.set i (some d))
theorem uG(h:PG X tg (qJ i))(n:O.contains i=false:=by rfl):zE X O tg (aL i):=PG.mono h <| by
 rintro v σ H Q ⟨H0,A0,A,E,ρ,d,ρ',st,r,e,q⟩;cases e;exact q _ (st.put r λz=>by
  have:O.contains i=true:=by simpa using z
  rw[n]at this;cases this)
def qL:NB:=λds ρ=>match ds with
 | []=>some ρ
 | _=>none
def b8(g:Gv)(k:NB):NB:=λds ρ=>match ds with
 | d::ds=>(g d ρ).bind λρ'=>k ds ρ'
 | _=>none
theorem CD:w8 X O [] qL:=PGs.mono GS <| by
 rintro v σ H Q ⟨H0,A0,A,E,ρ,ds,ρ',st,r,e,q⟩;cases r with
 | nil=>cases e;exact⟨rfl,q _ st⟩
 | cons _ _=>cases e
theorem AH(G:∀ {t:TG} {u:M8},PG X e t->PGs X es u->PGs X (e::es) (JE t u))(h1:zE X O e g)(h2:w8 X O es k):w8 X O (e::es) (b8 g k):=
 PGs.mono (G h1 h2) <| by
  rintro v σ H Q ⟨H0,A0,A,E,ρ,ds,ρ',st,r,e,q⟩;cases r with
  | nil=>cases e
  | cons h t=>
   obtain⟨ρ1,F,e⟩:=bind_some e;exact⟨_,_,rfl,H0,A0,A,E,ρ,_,ρ1,st,h,F,λJ B=>⟨H0,A0,A,E,ρ1,_,ρ',B,t,e,q⟩⟩
def jP(n:Nat)(k:NB):Gv:=λd ρ=>match d with
 | .tup l=>if l.length=n then k l ρ else none
 | _=>none
theorem IA(G:PG X tg (PJ X.K n (tDGs O k))):zE X O tg (jP n k):=PG.mono G <| by
 rintro v σ H Q ⟨H0,A0,A,E,ρ,d,ρ',st,r,e,q⟩;cases d with
 | tup l=>
  obtain⟨a,xs,rfl,h,F⟩:=RepB.tup_inv (.of r);by_cases B:l.length=n
  ·simp only[jP,if_pos B]at e
   exact⟨a,xs,rfl,.inl (.inl h),by rw[F.length];exact B,H0,A0,A,E,ρ,l,ρ',st,F,e,q⟩
  ·simp only[jP,if_neg B]at e;cases e
 | _=>cases e
def MY(f:Ev)(g:Gv):Sv:=λρ=>(f ρ).bind λd=>(g d ρ).map .nx
def xA(J:It)(q:List Fact)(items:List D):Prop:=
 ∀(A:Av) (H:Hp),Live A H->(∀p∈q,p.Holds A H)->∀i,(items.length<=i->J.stop i H)/\∀d,items[i]?=some d->J.go i H/\∀x H',J.yld i H x H'->Ext A H H'/\Rep A H' d x
inductive tDI(O:List Nat)(f:Lv)(σ:L2.St)(H:Hp)(R:It->Hp->Prop):Prop
 | mk (H0:Hp) (A0 A:Av) (E:List Fact) (ρ:cC) (items:List D) (st:ST H0 A0 A E O σ H ρ) (e:f ρ=some items) (q:∀J H' E1,Ext A H H'->(∀p∈E1,p.Holds A H')->xA J E1 items->R J H'):tDI O f σ H R
def PDI(X:Cx)(O:List Nat)(tg e:Expr)(f:Lv):Prop:=PI X tg e (tDI O f)
theorem PI.mono(h:PI X tg e t)(x:∀σ H Q,t' σ H Q->t σ H Q):PI X tg e t':=λpins s σ H Q I w=>h pins s σ H Q I (x σ H Q w)
theorem PI.or(h:PI X tg e t)(k:PI X tg e u):PI X tg e (λσ H Q=>t σ H Q\/u σ H Q):=λpins s σ H Q I w=>w.elim (h pins s σ H Q I) (k pins s σ H Q I)
theorem GZ{a:Addr}{l:List D}{K:S2}:xA (RW K a) [.rep (.lst l) (.ref a)] l:=by
 intro A H J h i;have r:Rep A H (.lst l) (.ref a):=h _ (List.mem_singleton.mpr rfl);obtain⟨M,xs,e,h1,B⟩:=RepB.lst_inv (.of r);cases e;refine⟨λhi=>⟨xs,.inl h1,by rw[B.length];exact hi⟩,λd G=>?_⟩;obtain⟨v,q,F⟩:=B.get' G;refine⟨⟨xs,v,.inl h1,q⟩,λx H' y=>?_⟩;obtain⟨rfl,y⟩:=y;have:=y xs (.inl h1);rw[q]at this;cases this;exact⟨Ext.refl _ _,F⟩
theorem LX{a:Addr}{l:List D}{K:S2}:xA (RZ K a) [.rep (.tup l) (.ref a)] l:=by
 intro A H J h i;have r:Rep A H (.tup l) (.ref a):=h _ (List.mem_singleton.mpr rfl);obtain⟨M,xs,e,h1,B⟩:=RepB.tup_inv (.of r);cases e;refine⟨λhi=>⟨xs,.inl (.inl h1),by rw[B.length];exact hi⟩,λd G=>?_⟩;obtain⟨v,q,F⟩:=B.get' G;refine⟨⟨xs,v,.inl (.inl h1),q⟩,λx H' y=>?_⟩;obtain⟨rfl,y⟩:=y;have:=y xs (.inl (.inl h1));rw[q]at this;cases this;exact⟨Ext.refl _ _,F⟩
noncomputable def bL(lo c:Int)(n:Nat):List D:=(UZ n).map λ(i:Nat)=>.int (lo+(i:Int)*c)
theorem cT(lo c:Int)(n:Nat):(bL lo c n).length=n:=by simp[bL]
theorem b6{lo c:Int}{n i:Nat}(h:(bL lo c n)[i]?=some d):i<n/\d=.int (lo+(i:Int)*c):=by
 unfold bL at h;rw[TX]at h;by_cases hi:i<n
 ·rw[YB hi]at h;cases h;exact⟨hi,rfl⟩
 ·rw[List.getElem?_eq_none (by simpa using hi)]at h;cases h
theorem zH{lo c:Int}{n:Nat}:xA (My.MU lo c n) [] (bL lo c n):=by
 intro A H B h i;refine⟨λhi=>by rw[cT]at hi;exact hi,λd q=>?_⟩;obtain⟨hi,rfl⟩:=b6 q;exact⟨hi,λx H' ⟨e,y⟩=>by subst e y;exact⟨Ext.refl _ _,.int _⟩⟩
theorem BM{lo:Int}{n:Nat}:xA (P8 lo n) [] (bL lo 1 n):=by
 intro A H B h i;refine⟨λhi=>by rw[cT]at hi;exact hi,λd q=>?_⟩;obtain⟨hi,rfl⟩:=b6 q;exact⟨hi,λx H' ⟨e,y⟩=>by subst e y;rw[Int.mul_one];exact⟨Ext.refl _ _,.int _⟩⟩
noncomputable def lJ(i:Int):Bool:=decide (-1000000<=i) && decide (i<=1000000)
def cK:List D->Option (List D)
 | [.int j]=>if lJ j then some (bL 0 1 j.toNat)else none
 | _=>none
def lQ:List D->Option (List D)
 | [.int i,.int j,.int c]=>if c≠0/\c.natAbs<1000/\W8 i j c=true then some (bL i c (My.rsz i j c))else none
 | _=>none
theorem t9(h:lJ i=true):-(2^62)<=i/\i<2^62:=by
 simp only[lJ,UF,decide_eq_true_eq]at h
 lia
def lR(g:List D->Option (List D))(f:Lv):Lv:=λρ=>(f ρ).bind g
theorem RL.one(r:RL R A H [d] vs):∃v,vs=[v]/\R A H d v:=by
 cases r with|cons h t=>cases t;exact⟨_,rfl,h⟩
theorem RL.two(r:RL R A H [d,e] vs):∃v w,vs=[v,w]/\R A H d v/\R A H e w:=by
 cases r with|cons h t=>obtain⟨w,rfl,h2⟩:=RL.one t;exact⟨_,w,rfl,h,h2⟩
theorem RL.three(r:RL R A H [d,e,f] vs):∃v w u,vs=[v,w,u]/\R A H d v/\R A H e w/\R A H f u:=by
 cases r with|cons h t=>obtain⟨w,u,rfl,h2,q⟩:=RL.two t;exact⟨_,w,u,rfl,h,h2,q⟩
theorem qU(h:cK ds=some l):∃j,ds=[.int j]/\lJ j=true/\l=bL 0 1 j.toNat:=by
 unfold cK at h;split at h
 ·split at h
  ·cases h;exact⟨_,rfl,by assumption,rfl⟩
  ·cases h
 ·cases h
theorem qR(h:lQ ds=some l):∃i j c,ds=[.int i,.int j,.int c]/\(c≠0/\c.natAbs<1000/\W8 i j c=true)/\l=bL i c (My.rsz i j c):=by
 unfold lQ at h;split at h
 ·split at h
  ·cases h;exact⟨_,_,_,rfl,by assumption,rfl⟩
  ·cases h
 ·cases h
section
variable {tg a b c:Expr}{f:Lv}{p pos:Pos}
theorem vT(B:Gl X "range")(M:X.mg "range" = none)(F:lM X O [a] f)(hs:S0 [a] X.env=[(false,eval a X.env)]:=by rfl):PDI X O tg (.Call (.Name "range" p) [a] [] pos) (lR cK f):=PI.mono (zY B M F hs) <| by
 rintro σ H R ⟨H0,A0,A,E,ρ,items,st,e,q⟩;obtain⟨ds,G,e⟩:=bind_some e;refine⟨H0,A0,A,E,ρ,ds,st,G,λvs H1 N J=>?_⟩;obtain⟨j,rfl,h,rfl⟩:=qU e;obtain⟨v,rfl,h1⟩:=J.one;have:=h1.int_inv;subst this;exact⟨j,rfl,(t9 h).1,(t9 h).2,q _ H1 [] N (λ_ h=>nomatch h) BM⟩
theorem m8(F:Gl X "range")(U:X.mg "range" = none)(G:lM X O [a,b,c] f)(hs:S0 [a,b,c] X.env=[(false,eval a X.env),(false,eval b X.env),(false,eval c X.env)]:=by rfl)(B:S0 [b,c] X.env=[(false,eval b X.env),(false,eval c X.env)]:=by rfl):PDI X O tg (.Call (.Name "range" p) [a,b,c] [] pos) (lR lQ f):=PI.mono (My.AF F U G hs B) <| by
 rintro σ H R ⟨H0,A0,A,E,ρ,items,st,e,q⟩;obtain⟨ds,J,e⟩:=bind_some e;refine⟨H0,A0,A,E,ρ,ds,st,J,λvs H1 W M=>?_⟩;obtain⟨i,j,Y,rfl,h,rfl⟩:=qR e;obtain⟨v,w,u,rfl,h1,h2,N⟩:=M.three;have:=h1.int_inv;subst this;have:=h2.int_inv;subst this;have:=N.int_inv;subst this;exact⟨i,j,Y,rfl,h,q _ H1 [] W (λ_ h=>nomatch h) zH⟩
end
def A5:Key->D
 | .inl i=>.int i
 | .inr x=>.str x
def E2(f:Ev):Lv:=λρ=>(f ρ).bind λd=>match d with
 | .lst l=>some l
 | .tup l=>some l
 | .dT l=>some (l.map λp=>.tup (p.1.map A5))
 | _=>none
theorem nY:∀k:List Key,RepL A H (k.map A5) (k.map kV)
 | []=>.nil
 | .inl i::k=>.cons (.int i) (nY k)
 | .inr x::k=>.cons (.str x) (nY k)
def MB(tl:TE):TI:=λσ H R=>tl σ H λx H1=>∃d kvs,x=.ref d/\((H1 d=some (.dT kvs)/\∀o,R (My.P2 d o kvs) (upd H1 d (.frz o (.dT kvs))))\/∃o,H1 d=some (.frz o (.dT kvs))/\R (My.P2 d o kvs) H1)
theorem C3(hl:PE X l tl):PI X tg l (MB tl):=by
 intro pins s σ H R I h;refine bS (hl pins s σ H _ I h) λv B ⟨x,H1,N,F,q1⟩=>?_
 obtain⟨d,kvs,rfl,q⟩:=q1;cases F;have J:∀(o:Obj) (H2:Hp),(d == UY)=false->Inv X pins σ H2 B->B.heap.get? d=some o->ObjOk X.prog X.w H2 B.heap d (.dT kvs)->R (My.P2 d o kvs) H2->wpAny (model X.prog X.w) X.A (pyIter (.ref d)) (PIE X pins σ tg R) X.xe B:=λo H2 lo G ho ok q=>by
  obtain⟨_,_,es,ep,⟨o',F,r2,Y⟩,M,_⟩:=My.n9 ok;rw[ho]at F;cases F;refine My.t4 lo ⟨o,ho,r2,Y⟩ ?_;refine⟨B.heap.objs.size,[B.heap.objs.size],_,_,_,rfl,G.kept (t':=B.toks) λb o e=>TC _ e,My.z9 d _ o kvs es ep Y M,⟨_,TV _ rfl,rfl,rfl⟩,λb hb=>?_,q⟩;have e:b=B.heap.objs.size:=by simpa using hb
  subst e;exact G.fpOk (TF _) (G.hok.fresh (TF _))
 rcases q with⟨U,q⟩|⟨o,U,q⟩
 ·have ok:=(show ObjOk X.prog X.w H1 B.heap d (.dT kvs)from N.hok d _ U)
  obtain⟨lo,_,es,ep,⟨o,F,r2,Y⟩,M,_⟩:=My.n9 ok;have G:=My.vS N U F;have W:=(show ObjOk X.prog X.w _ B.heap d (.frz o (.dT kvs))from G.hok d _ aM);exact J o _ lo G F W.2 (q o)
 ·have ok:=(show ObjOk X.prog X.w H1 B.heap d (.frz o (.dT kvs))from N.hok d _ U)
  obtain⟨lo,_⟩:=My.n9 ok.2;exact J o H1 lo N ok.1 ok.2 q
theorem xH{a:Addr}{o:Obj}{xs:List (List Key×V)}{l:List (List Key×D)}(e:xs.map (·.1)=l.map (·.1)):xA (My.P2 a o xs) [.fz a o (.dT xs)] (l.map λp=>.tup (p.1.map A5)):=by
 intro A H U h i;have B:H a=some (.frz o (.dT xs)):=h _ (List.mem_singleton.mpr rfl);have W:xs.length=l.length:=by have:=congrArg V8 e;simpa using this
 refine⟨λhi=>⟨B,by rw[S5]at hi;lia⟩,λd F=>?_⟩;rw[TX]at F;obtain⟨p,q,rfl⟩:=map_some F;have hi:i<l.length:=(List.getElem?_eq_some_iff.mp q).1;refine⟨⟨B,by lia⟩,λx H' ⟨G,k,v,b,J,M,N⟩=>?_⟩;subst G M;have:k=p.1:=by
  have h1:(xs.map (·.1))[i]?=some k:=by rw[TX,J];rfl
  rw[e,TX,q]at h1;exact(T5 h1).symm
 subst this;exact⟨Ext.refl _ _,.tup N (nY _)⟩
theorem HV(n:¬ A d)(B:H d=some u)(F:NI u)(G:¬ Kp u):Ext A H (upd H d (.frz o u)) where
 rd:=λb w r=>by
  by_cases e:b=d
  ·subst e
   rcases r with r|⟨q,r⟩
   ·rw[B]at r;cases r;exact .inr ⟨o,aM⟩
   ·rw[B]at r;cases r;exact F.elim
  ·exact gK e r
 kp:=λb w k r=>by rw[aJ (λz=>by subst z;rw[B]at r;cases r;exact G k)];exact r
 ow:=λb w J r=>by rw[aJ (λz=>n (by rw[<- z];exact J))];exact r
 fz:=λb q w r=>by rw[aJ (λz=>by subst z;rw[B]at r;cases r;exact F)];exact r
theorem FX(h:PD X O e f):PDI X O tg e (E2 f):=PI.mono (PI.or (PI.or (G6 h) (LP h)) (C3 h)) <| by
 rintro σ H R ⟨H0,A0,A,E,ρ,items,st,e,q⟩;obtain⟨d,J,e⟩:=bind_some e;cases d with
 | lst l=>
  cases e;refine .inl (.inl ⟨H0,A0,A,E,ρ,_,st,J,λv H1 G F=>?_⟩);obtain⟨a,xs,rfl,h1,M⟩:=RepB.lst_inv (.of F);exact⟨a,rfl,⟨xs,.inl h1⟩,q _ H1 [.rep (.lst items) (.ref a)] G (λp B=>by rw[List.mem_singleton.mp B];exact F) GZ⟩
 | tup l=>
  cases e;refine .inl (.inr ⟨H0,A0,A,E,ρ,_,st,J,λv H1 G F=>?_⟩);obtain⟨a,xs,rfl,h1,M⟩:=RepB.tup_inv (.of F);exact⟨a,rfl,⟨xs,.inl (.inl h1)⟩,q _ H1 [.rep (.tup items) (.ref a)] G (λp B=>by rw[List.mem_singleton.mp B];exact F) LX⟩
 | dT l=>
  cases e;refine .inr ⟨H0,A0,A,E,ρ,_,st,J,λv H1 G F=>?_⟩;cases F with
  | @dT _ a xs n h ee M=>
   refine⟨a,xs,rfl,?_⟩;rcases h with h|⟨o,h⟩
   ·refine .inl ⟨h,λo=>q _ _ [.fz a o (.dT xs)] (G.trans (HV n h trivial λz=>z)) (λp B=>by rw[List.mem_singleton.mp B];exact aM) (xH ee)⟩
   ·exact .inr ⟨o,h,q _ H1 [.fz a o (.dT xs)] G (λp B=>by rw[List.mem_singleton.mp B];exact h) (xH ee)⟩
 | _=>cases e
def eM(g:Gv)(body:Sv):List D->cC->Option Out
 | [],ρ=>some (.nx ρ)
 | x::xs,ρ=>(g x ρ).bind λρ1=>(body ρ1).bind λo=>match o with
  | .nx ρ2=>eM g body xs ρ2
  | .ct ρ2=>eM g body xs ρ2
  | .bk ρ2=>some (.nx ρ2)
  | .rt d=>some (.rt d)
def sT(f:Lv)(g:Gv)(body:Sv):Sv:=λρ=>(f ρ).bind λitems=>eM g body items ρ
theorem ST.both(s:ST H0 A0 A E O σ H ρ)(h:∀p∈E1,p.Holds A H):ST H0 A0 A (E1++E) O σ H ρ:=
 {s with ext:=λp q=>by rcases List.mem_append.mp q with e|e;exact h p e;exact s.ext p e}
theorem FF(hp:PassesOwn (model X.prog X.w) X.A X.env X.xe)(hc:X.calm=true)(hi:PDI X O tg iter f)(hg:zE X O1 tg g)(hb:c7 X ⟨Ob,O1⟩ O1 body b O1)(h1:Sub O1 O=true)(h2:Sub O' O1=true)(h3:Sub O' Ob=true)
  (hs:∀x,V5 iter X.env x=pure x:=by intro _;rfl):iY X L O (.For tg iter body [] pos) (sT f g b) O':=PS.mono (KG hp hc hi hg hb hs) λT σ H ⟨H0,A0,A,E,ρ,N,st,e,p⟩=>by
 obtain⟨items,e1,e⟩:=bind_some e;refine⟨H0,A0,A,E,ρ,items,st,e1,λJ H1 M x1 af J1=>?_⟩;obtain⟨A1,ac⟩:=((st.mono x1).both af).shut (Sub.mem h1);refine⟨λi m σ H=>m=items.length-i/\i<=items.length/\∃ρ A,ST H0 A0 A (M++E) O1 σ H ρ/\eM g b (items.drop i) ρ=some N,⟨items.length,by simp,U6 _,ρ,A1,ac,e⟩,?_⟩;rintro i m σ H ⟨rfl,as,ρ,A,st,e⟩;have hE:∀p∈M,p.Holds A H:=λp hp=>st.ext p (YL _ hp)
 obtain⟨Y,go⟩:=J1 A H st.live hE i;have fin:∀ {O2:List Nat} {A:Av} {σ:L2.St} {H:Hp} {ρ:cC},Sub O' O2=true->ST H0 A0 A (M++E) O2 σ H ρ->(∀A σ H,ST H0 A0 A E O' σ H ρ->T.nx σ H)->T.nx σ H:=λhs st k=>by
  obtain⟨B,ab⟩:=(st.less (E':=E) λq hq=>U9 _ hq).shut (Sub.mem hs);exact k B _ _ ab
 by_cases F:i<items.length
 ·have ed:items[i]?=some items[i]:=by simp[F]
  obtain⟨aa,hy⟩:=go _ ed;rw[ZP F]at e;obtain⟨ρ1,eg,e⟩:=bind_some e;obtain⟨o,eo,e⟩:=bind_some e;refine .inr ⟨aa,λW H'=>∃ρ2 B,ST H0 A0 B (M++E) O1 W H' ρ2/\eM g b (items.drop (i+1)) ρ2=some N,λW H' ⟨ρ2,B,G,e2⟩=>⟨items.length-(i+1),by lia,rfl,F,ρ2,B,G,e2⟩,λx H' y=>?_⟩;obtain⟨x2,r2⟩:=hy x H' y;refine⟨H0,A0,A,M++E,ρ,_,ρ1,st.mono x2,r2,eg,λau s1=>⟨H0,A0,A,M++E,ρ1,o,s1,eo,?_⟩⟩;cases o with
  | nx ρ2=>exact λB U H2 G=>⟨ρ2,B,G,e⟩
  | ct ρ2=>exact λB U H2 G=>⟨ρ2,B,G,e⟩
  | bk ρ2=>cases e;exact λB U H2 G=>fin h3 G p
  | rt d=>cases e;exact p
 ·have ad:i=items.length:=by lia
  subst ad;rw[List.drop_length]at e;cases e;exact .inl ⟨Y (TF _),fin h2 st p⟩
end
noncomputable def gQ(cells:List (Str×Addr)):List (Str×VU)->List (Str×Addr)->List (Str×Addr)
 | [],cs=>cs
 | (x,k)::r,cs=>gQ cells r (if k == .free then(x,(cells.lookup x).getD 0)::cs else cs)
theorem pL:∀(names:List (Str×VU)) (cs:List (Str×Addr)),(∀y∈names,y.2=.free->∃c,env.cells.lookup y.1=some c)->
  (forIn names cs (λ(p:Str×VU) (r:List (Str×Addr))=>if(p.2 == .free)=true then(do let c <- cellOf env p.1;pure (W9 ((p.1,c)::r)))else(pure (W9 r):Sem _)))=(pure (gQ env.cells names cs):Sem _)
 | [],cs,_=>by simp[gQ]
 | (x,k)::r,cs,h=>by
  have ih:=λcs=>pL r cs λy F=>h y (TR _ F)
  rw[List.forIn_cons];by_cases e:(k == WB)=true
  ·have B:k=.free:=by simpa using e
   obtain⟨c,G⟩:=h (x,k) (TK ..) B;have q:env.cells.lookup x=some c:=G;simp only[e,if_true,gQ];have:cellOf env x=pure c:=by unfold cellOf;rw[q]
   rw[this];simp only[pure_bind,q,Option.getD_some];exact ih _
  ·simp only[e,gQ]
   simp only[WA,if_false,pure_bind];exact ih _
theorem GR(h:∀y∈scope.names,y.2=.free->∃c,env.cells.lookup y.1=some c):closureFor scope env=pure (gQ env.cells scope.names []):=by
 have:=pL scope.names [] h;unfold closureFor;simp only[bind_pure];exact this
theorem t6:∀ {names:List (Str×VU)} {cs:List (Str×Addr)} {c:Addr},(gQ cells names cs).lookup x=some c->(∃q,cs.lookup x=some q/\c=q)\/((x,WB)∈names/\c=(cells.lookup x).getD 0)
 | [],cs,c,h=>.inl ⟨c,h,rfl⟩
 | (y,k)::r,cs,c,h=>by
  rw[gQ]at h;rcases t6 h with⟨q,h1,h2⟩|⟨h1,h2⟩
  ·by_cases e:(k == WB)=true
   ·rw[if_pos e,YC]at h1
    by_cases ex:(x == y)=true
    ·rw[ex]at h1
     have B:x=y:=by simpa using ex
     have F:k=.free:=by simpa using e
     subst B F;cases h1;exact .inr ⟨TK ..,h2⟩
    ·rw[WL]at ex
     rw[ex]at h1;exact .inl ⟨q,h1,h2⟩
   ·rw[if_neg e]at h1
    exact .inl ⟨q,h1,h2⟩
  ·exact .inr ⟨TR _ h1,h2⟩
theorem uZ:∀ {names:List (Str×VU)} {cs:List (Str×Addr)},((x,WB)∈names\/∃c,cs.lookup x=some c)->∃c,(gQ cells names cs).lookup x=some c
 | [],cs,h=>h.elim (λh=>nomatch h) id
 | (y,k)::r,cs,h=>by
  rw[gQ];apply uZ;rcases h with h|⟨c,h⟩
  ·rcases List.mem_cons.mp h with e|e
   ·cases e
    refine .inr ⟨(cells.lookup x).getD 0,?_⟩;simp[YC]
   ·exact .inl e
  ·right
   by_cases e:(k == WB)=true
   ·rw[if_pos e,YC]
    by_cases ex:(x == y)=true
    ·rw[ex];exact⟨_,rfl⟩
    ·rw[WL]at ex;rw[ex];exact⟨c,h⟩
   ·rw[if_neg e];exact⟨c,h⟩
theorem dI{q:Type}{v:q}:∀ {l:List (Str×q)},l.lookup x=some v->(x,v)∈l
 | (y,w)::r,h=>by
  rw[YC]at h;by_cases ex:(x == y)=true
  ·rw[ex]at h;cases h;rw[show x=y by simpa using ex];exact TK ..
  ·rw[WL]at ex;rw[ex]at h;exact TR _ (dI h)
noncomputable def EU(names q:List (Str×VU)):Bool:=
 names.all λy=>y.2 != .cell && (y.2 != .local || names.lookup y.1 == some .local) && (y.2 != .free || q.lookup y.1 == some .cell)
theorem EG{X:Cx}{N:List Str}{scope:Scope}{n:Nat}(hk:scope.kind=.function)(h:EU scope.names X.env.scope.names=true)(hc:X.env.cells=W1 n X.env.scope.names []):My.Clo X N scope (gQ X.env.cells scope.names []):=by
 have h':=List.all_eq_true.mp h;have c1:∀y∈scope.names,y.2≠.cell:=λy F=>by
  have:=h' y F;simp only[UF]at this;simpa using this.1.1
 have c2:∀y∈scope.names,y.2=.local->scope.names.lookup y.1=some .local:=λy F e=>by
  have:=h' y F;simp only[UF,zal]at this;rcases this.1.2 with z|z
  ·rw[e]at z;exact absurd z (by decide)
  ·simpa using z
 have Y:∀y∈scope.names,y.2=.free->∃c,X.env.cells.lookup y.1=some c:=λy F e=>by
  have:=h' y F;simp only[UF,zal]at this;rcases this.2 with z|z
  ·rw[e]at z;exact absurd z (by decide)
  ·rw[hc];exact nQ (sc:=X.env.scope) (by simpa using z)
 have B:∀x,((VG scope X.env).names.lookup x=some .cell\/(VG scope X.env).names.lookup x=some .free)->(x,WB)∈scope.names:=λx J=>by
  have M:∀U,(U=NameKind.cell\/U=WB)->(x,U)∈(VG scope X.env).names->(x,WB)∈scope.names:=λU W hm=>by
   obtain⟨⟨y,k⟩,F,e⟩:=List.mem_map.mp hm;dsimp only at e;by_cases q:(k == WB && X.env.scope.kind == .function && X.env.kindOf y == some .cell)=true
   ·rw[if_pos q]at e
    have:k=.free:=by simp only[UF]at q;simpa using q.1.1
    cases e;subst this;exact F
   ·rw[if_neg q]at e
    cases e;rcases W with z|z
    ·exact absurd z (c1 _ F)
    ·subst z;exact F
  rcases J with J|J
  ·exact M _ (.inl rfl) (dI J)
  ·exact M _ (.inr rfl) (dI J)
 refine⟨GR Y,hk,c1,c2,λx c e=>?_,λx J=>uZ (.inl (B x J))⟩;rcases t6 e with⟨c',z,_⟩|⟨z1,z2⟩
 ·cases z
 ·obtain⟨c0,G⟩:=Y _ z1 rfl
  have G:X.env.cells.lookup x=some c0:=G;rw[z2,G];rfl
noncomputable def dF(X:Cx)(scope:Scope):List Str->List (Option Nat)->Prop
 | [],[]=>True
 | _::N,none::ms=>dF X scope N ms
 | x::N,some i::ms=>(X.N[i]?=some x/\((VG scope X.env).names.lookup x == some NameKind.local)=false/\(X.env.kindOf x=some .cell\/X.env.kindOf x=some .free))/\dF X scope N ms
 | _,_=>False
noncomputable def qP{q:Type}(ms:List (Option Nat))(σ:List (Option q)):List (Option q):=ms.map λo=>o.bind λi=>(σ[i]?).join
theorem gB:∀ {N:List Str} {ms:List (Option Nat)},dF X scope N ms->ms.length=N.length/\∀(j:Nat) (x:Str) (i:Nat),N[j]?=some x->ms[j]?=some (some i)->X.N[i]?=some x/\(VG scope X.env).names.lookup x≠some .local/\(X.env.kindOf x=some .cell\/X.env.kindOf x=some .free)
 | [],[],_=>⟨rfl,λj x i h _=>by simp at h⟩
 | y::N,none::ms,h=>by
  obtain⟨l,g⟩:=gB (N:=N) (ms:=ms) h;refine⟨by simp[l],λj x i h1 h2=>?_⟩;cases j with
  | zero=>simp at h2
  | succ j=>exact g j x i (by simpa using h1) (by simpa using h2)
 | y::N,some k::ms,h=>by
  obtain⟨l,g⟩:=gB (N:=N) (ms:=ms) h.2;refine⟨by simp[l],λj x i h1 h2=>?_⟩;cases j with
  | zero=>simp at h1 h2;subst h1 h2;exact⟨h.1.1,λz=>by have:=h.1.2.1;rw[z]at this;exact absurd this (by decide),h.1.2.2⟩
  | succ j=>exact g j x i (by simpa using h1) (by simpa using h2)
 | [],_::_,h=>h.elim
 | _::_,[],h=>h.elim
theorem yN{B:Type}{ms:List (Option Nat)}{σ:List (Option B)}{j:Nat}{v:B}(h:(qP ms σ)[j]?=some (some v)):∃i:Nat,ms[j]?=some (some i)/\σ[i]?=some (some v):=by
 unfold qP at h;rw[TX]at h;obtain⟨o,F,q⟩:=map_some h;cases o with
 | none=>cases q
 | some i=>exact⟨i,F,nD q⟩
theorem C4{N:List Str}{ms:List (Option Nat)}(h:dF X scope N ms)(σ:L2.St):My.Start X N scope σ (qP ms σ):=by
 obtain⟨l,g⟩:=gB h;refine⟨by unfold qP;rw[S5];exact l,λj x v h1 h2 _=>?_⟩;obtain⟨i,B,q⟩:=yN h2;obtain⟨a,b,c⟩:=g j x i h1 B;exact⟨b,i,a,q,c⟩
theorem ST.inner{E:List Fact}{O:List Nat}(s:ST H0 A0 A E O σ H ρ)(ms:List (Option Nat))(n:∀i,some i∈ms->i∉O):ST H0 A0 A E [] (qP ms σ) H (qP ms ρ) where
 ex:=s.ex
 sub:=s.sub
 l0:=s.l0
 live:=s.live
 len:=by simp[qP]
 val:=λj d h _=>by
  obtain⟨i,q,B⟩:=yN h;obtain⟨v,F,r⟩:=s.val i d B (n i (UU q));refine⟨v,?_,r⟩;unfold qP;rw[TX,q];show some ((σ[i]?).join)=_;rw[F];rfl
 own:=λj d _ h=>nomatch h
 inj:=λi j d d' a hi=>nomatch hi
 ext:=s.ext
def aV(g:Gv)(c:Bv)(f:Ev):List D->cC->Option (List D)
 | [],_=>some []
 | x::xs,ρ=>(g x ρ).bind λρ1=>(c ρ1).bind λb=>if b=true then(f ρ1).bind λd=>(aV g c f xs ρ1).bind λds=>some (d::ds)else aV g c f xs ρ1
def eU(ms:List (Option Nat))(it:Lv)(g:Gv)(c:Bv)(f:Ev):Ev:=λρ=>(it ρ).bind λitems=>if bA items.length then(aV g c f items (qP ms ρ)).map .lst else none
def fL:Bv:=λ_=>some true
theorem B0:My.BE X [] (tDT O fL):=λpins s σ H Q I ⟨H0,A0,A,E,ρ,b,st,e,q⟩=>My.FG pins s σ H Q I (by cases e;exact q H (Ext.refl _ _))
theorem C2(h:oP X O c g):My.BE X [c] (tDT O g):=My.HP h
section
variable {X:Cx}{O:List Nat}
theorem u1(a5:dF X scope N ms)(hn:(ms.all λo=>match o with|some i=>!O.contains i|none=>true)=true)(σ:L2.St)(H:Hp)(Q:VK) :
  tF O (eU ms it g c f) σ H Q->My.ER (tDI O it) (tDG [] g) (tDT [] c) (tD Rep [] f) (My.Start X N scope) σ H Q:=λ⟨H0,A0,A,E,ρ,d,st,e,q⟩=>by
 obtain⟨items,e1,e⟩:=bind_some e;by_cases hz:bA items.length=true
 case neg=>rw[if_neg hz]at e;cases e
 rw[if_pos hz]at e;obtain⟨ds,e2,rfl⟩:=map_some e;have a0:∀i,some i∈ms->i∉O:=λi hi z=>by
  have:=List.all_eq_true.mp hn _ hi;simp only[Bool.not_eq_true']at this;have z':O.contains i=true:=by simpa using z
  rw[z']at this;cases this
 refine⟨qP ms σ,C4 a5 σ,H0,A0,A,E,ρ,items,st,e1,λJ H1 E1 x1 a4 J1 D hD=>?_⟩;have ba:=(st.mono x1).live;have nA:¬ A D:=λz=>ba D z hD
 have n0:H D=none:=x1.free hD
 -- the state of the block: the list that grows stands outside all that is borne
 refine⟨λi m am us H2=>m=items.length-i/\i<=items.length/\∃ρ2 B rest,ST H0 A0 (λb=>A b\/b=D) (E1++E) [] am H2 ρ2/\H2 D=some (.lst us)/\Ext A H H2/\RepL (λb=>A b\/b=D) H2 B us/\aV g c f (items.drop i) ρ2=some rest/\B++rest=ds/\B.length<=i,⟨items.length,by simp,U6 _,qP ms ρ,[],ds,?_,aM,x1.trans (Ext.new hD),.nil,e2,rfl,TF _⟩,?_⟩
 ·have s1:=((st.mono x1).both a4).inner ms a0
  have up:∀a,(A a\/a=D)->A a\/H1 a=none:=λa G=>G.imp id λz=>by rw[z];exact hD
  refine⟨s1.ex.trans (Ext.new hD),λa G=>.inl (s1.sub a G),s1.l0,λa G=>?_,s1.len,λi d h n=>?_,(λi d _ h=>nomatch h),(λi j d d' a hi=>nomatch hi),λp hp=>Fact.ext (Ext.new hD) (Fact.av up (s1.ext p hp))⟩
  ·rcases G with G|G
   ·rw[aJ (λz=>by subst z;exact nA G)];exact s1.live a G
   ·subst G;rw[aM];exact λz=>nomatch z
  ·obtain⟨v,h1,h2⟩:=s1.val i d h n
   exact⟨v,h1,(h2.av up).ext (Ext.new hD)⟩
 ·rintro i m am us H2 ⟨rfl,bv,ρ2,B,rest,s2,ae,x2,aa,M,ed,a3⟩
  obtain⟨ao,go⟩:=J1 _ H2 s2.live (λp hp=>s2.ext p (YL _ hp)) i;by_cases U:i<items.length
  ·have eg:items[i]?=some items[i]:=by simp[U]
   obtain⟨ax,hy⟩:=go _ eg;rw[ZP U]at M;obtain⟨W,e3,M⟩:=bind_some M;obtain⟨b,e4,M⟩:=bind_some M;have ak:us.length<S7:=by
    rw[aa.length];exact Y3 a3 (UR U (dD hz))
   refine .inr ⟨ax,ak,λx H3 y=>?_⟩;obtain⟨x3,r3⟩:=hy x H3 y;refine⟨H0,A0,_,E1++E,ρ2,_,W,s2.mono x3,r3,e3,λbz s3=>⟨H0,A0,_,E1++E,W,b,s3,e4,λH5 x5=>?_⟩⟩;have ac:=x3.trans x5;have ap:H5 D=some (.lst us):=ac.ow D _ (.inr rfl) ae;have an:Ext A H H5:=x2.trans (ac.mono λa G=>.inl G);cases b with
   | false=>
    rw[if_neg TN]at M;exact QT ⟨ap,items.length-(i+1),by lia,rfl,U,W,B,rest,s3.mono x5,ap,an,aa.ext ac,M,ed,by lia⟩
   | true=>
    rw[if_pos rfl]at M;refine RC ?_;obtain⟨d,e6,M⟩:=bind_some M;obtain⟨ah,e7,M⟩:=bind_some M;cases M;refine⟨H0,A0,_,E1++E,W,d,s3.mono x5,e6,λv H6 x6 r6=>?_⟩;have aj:=ac.trans x6;have ab:H6 D=some (.lst us):=aj.ow D _ (.inr rfl) ae;refine⟨ab,items.length-(i+1),by lia,rfl,U,W,B++[d],ah,?_,aM,?_,((aa.ext aj).append (.cons r6 .nil)).put (.inr rfl) ab trivial,e7,by rw[<- ed];simp,by rw[T8];show B.length+1<=i+1;lia⟩
    ·have Y:=s3.mono (x5.trans x6)
     have a1:H0 D=none:=st.ex.free n0;have F:∀b,H0 b≠none->b≠D:=λb hb z=>hb (by rw[z];exact a1)
     refine⟨⟨λb w r=>gK (F b (by rcases r with r|⟨_,r⟩ <;> (rw[r];exact λz=>nomatch z))) (Y.ex.rd b w r),λb xs k r=>?_,λb w n r=>?_,λb q w r=>?_⟩,Y.sub,Y.l0,λa G=>?_,Y.len,λi d h n=>?_,(λi d _ h=>nomatch h),(λi j d d' a hi=>nomatch hi),λp hp=>Fact.put (.inr rfl) ab trivial (Y.ext p hp)⟩
     ·rw[aJ (F b (by rw[r];exact λz=>nomatch z))];exact Y.ex.kp b xs k r
     ·rw[aJ (F b (by rw[r];exact λz=>nomatch z))];exact Y.ex.ow b w n r
     ·rw[aJ (F b (by rw[r];exact λz=>nomatch z))];exact Y.ex.fz b q w r
     ·by_cases z:a=D
      ·subst z;rw[aM];exact λz=>nomatch z
      ·rw[aJ z];exact Y.live a G
     ·obtain⟨v,h1,h2⟩:=Y.val i d h n
      exact⟨v,h1,h2.put (.inr rfl) ab trivial⟩
    ·have ad:Ext A H H6:=an.trans (x6.mono λa G=>.inl G)
     have F:∀b,H b≠none->b≠D:=λb hb z=>hb (by rw[z];exact n0)
     exact⟨λb w r=>gK (F b (by rcases r with r|⟨_,r⟩ <;> (rw[r];exact λz=>nomatch z))) (ad.rd b w r),
      λb xs k r=>by rw[aJ (F b (by rw[r];exact λz=>nomatch z))];exact ad.kp b xs k r,
      λb w n r=>by rw[aJ (F b (by rw[r];exact λz=>nomatch z))];exact ad.ow b w n r,
      λb q w r=>by rw[aJ (F b (by rw[r];exact λz=>nomatch z))];exact ad.fz b q w r⟩
  ·have az:i=items.length:=by lia
   subst az;rw[List.drop_length]at M;cases M;rw[V6]at ed;subst ed;exact .inl ⟨ao (TF _),q D H2 x2 n0 nA (.lst ae aa)⟩
theorem HJ
  (M:X.calm=true) (U:My.Clo X N scope cl) (q:dF X scope N ms) (J:(ms.all λo=>match o with|some i=>!O.contains i|none=>true)=true) (hi:PDI X O tg iter it) (B:∀C s H fp,zE (My.aX X N scope cl C s H fp) [] tg g)
  (G:∀C s H fp,My.BE (My.aX X N scope cl C s H fp) ifs (tDT [] c)) (F:∀C s H fp,PD (My.aX X N scope cl C s H fp) [] elt f) (hs:∀x,V5 iter X.env x=pure x:=by intro _;rfl) :
  PF X O (.ListComp elt [⟨tg,iter,ifs,0⟩] scope pos) (eU ms it g c f):=PE.mono (My.GF M U hi B G F hs) (u1 q J)
def aD(n:Nat)(ds:List D):cC:=ds.map some++V7 (n-ds.length) none
def bG(n:Nat)(f:Sv)(ds:List D):Option D:=(f (aD n ds)).bind λo=>match o with
 | .rt d=>some d
 | .nx _=>some .non
 | _=>none
theorem ST.begun(q:Live A H)(r:RepL A H ds vs):ST H A A [] [] (L2.start N vs) H (aD N.length ds) where
 ex:=Ext.refl _ _
 sub:=λ_ h=>h
 l0:=q
 live:=q
 len:=by unfold L2.start aD;simp[r.length]
 val:=λi d h _=>by
  unfold aD at h;by_cases hi:i<ds.length
  ·rw[YU (by simpa using hi),TX]at h
   obtain⟨d',F,B⟩:=map_some h;cases B;obtain⟨v,G,J⟩:=r.get' F;refine⟨v,?_,J⟩;unfold L2.start;rw[YU (by rw[S5,r.length];exact hi),TX,G];rfl
  ·rw[YT (by simpa using hi),Z6]at h
   split at h <;> cases h
 own:=λi d _ h=>nomatch h
 inj:=λi j d d' a hi=>nomatch hi
 ext:=λp M=>nomatch M
theorem JI{P:S6}{w:World}{K:S2}{mg:Str->Option Value}{base:Heap}{x:Str}{st:Stmt}{N ps:List Str}{k:Nat}{f:Sv}{O':List Nat}(W:My.DefAt K mg x st ps)(S:FnScope N ps (aK st))
  (h:∀(M:Addr) (F:Value) (A:TH) (B:List Env) (s:SZ) (H:Hp) (E:XK),Room k (A.deeper (UT x (aK st) s.heap.objs.size M F))->∃g,c7 (kC xC P w K mg base N x (aK st) M F A B s H E).nox ⟨[],[]⟩ [] (bP st) g O'/\g=f) :
  Fn P w K mg base x (k+1) ps (bG N.length f):=by
 refine My.BodyOk.ok (λM F A B s H vs Q E hr G=>?_) W S (λvs H Q E G=>by obtain⟨A,ds,d,_,_,e,_⟩:=G;exact e);obtain⟨U,ds,d,lv,r,e,eF,q⟩:=G;obtain⟨o,eo,J⟩:=bind_some eF;obtain⟨g,Y,rfl⟩:=h M F A B s H E hr;refine⟨_,Y,H,U,U,[],_,o,ST.begun lv r,eo,?_⟩;cases o with
 | nx ρ=>cases J;exact λA2 ab H2 s2=>q .non H2 s2.ex .non
 | rt d'=>cases J;exact λv H2 x2 r2=>q v H2 x2 r2
 | bk _=>cases J
 | ct _=>cases J
noncomputable def EE(K:S2):Bool:=K.all λp=>match p.2.cls with
 | .type "list" => false
 | _=>true
theorem AB{K:S2}(h:EE K=true){a:Addr}{o:Obj}(e:K.lookup a=some o):o.cls≠.type "list" := λz=>by
 have m:∀ {K:S2},K.lookup a=some o->(a,o)∈K:=by
  intro K;induction K with
  | nil=>intro e;cases e
  | cons p r ih=>
   intro e;rw[YC]at e;by_cases q:(a == p.1)=true
   ·rw[q]at e;cases e;rw[show a=p.1 by simpa using q];exact TK ..
   ·rw[WL]at q;rw[q]at e;exact TR _ (ih e)
 have:=List.all_eq_true.mp h _ (m e);dsimp only at this;rw[z]at this;exact absurd this (by decide)
theorem LI{P:S6}{w:World}{K:S2}{mg:Str->Option Value}{base:Heap}{st:Stmt}{N:List Str}{k:Nat}{f:Sv}{O':List Nat}(hK:EE K=true)
  (h:∀(M:Addr) (F:Value) (A:TH) (B:List Env) (s:SZ) (H:Hp) (E:XK),Room k (A.deeper (UT "law" (aK st) s.heap.objs.size M F))->∃g,c7 (kC xC P w K mg base N "law" (aK st) M F A B s H E).nox ⟨[],[]⟩ [] (bP st) g O'/\g=f)
  (hv:∀ns:List Int,ns.length<=63->bG N.length f [.lst (ns.map .int)]=some (.bl true)):My.BodyOk P w K mg base "law" st N k (My.u4 K):=by
 refine λM F A B s H vs Q E hr U=>?_
 obtain⟨a,ns,rfl,W,hl,q⟩:=U;have hR:Rd H a (.lst (ns.map V.int)):=by
  rcases W with W|⟨o,_,_,e,c,_⟩
  ·exact W
  ·exact absurd c (AB hK e)
 have lv:Live (λ_=>False) H:=λa h=>h.elim
 have G:∀ns:List Int,RepL (λ_=>False) H (ns.map .int) (ns.map V.int):=λns=>by
  induction ns with
  | nil=>exact .nil
  | cons n ns ih=>exact .cons (.int n) ih
 obtain⟨o,eo,J⟩:=bind_some (hv ns hl);obtain⟨g,Y,rfl⟩:=h M F A B s H E hr;refine⟨_,Y,H,λ_=>False,λ_=>False,[],_,o,ST.begun lv (.cons (.lst (λz=>z) hR (G ns)) .nil),eo,?_⟩;cases o with
 | nx ρ=>cases J
 | rt d'=>cases J;exact λv H2 x2 r2=>by cases r2;exact q _
 | bk _=>cases J
 | ct _=>cases J
end
mutual
def iH:D->Option My.Dx
 | .non=>some .non
 | .bl b=>some (.bl b)
 | .int i=>some (.int i)
 | .str x=>some (.str x)
 | .tup l=>(kG l).map .tup
 | .lst l=>(kG l).map .lst
 | .dK _=>none
 | .dT _=>none
def kG:List D->Option (List My.Dx)
 | []=>some []
 | d::ds=>(iH d).bind λx=>(kG ds).bind λxs=>some (x::xs)
end
mutual
theorem jM:∀ {d e:D} {x:My.Dx},iH d=some x->iH e=some x->d=e
 | .non,e,x,h,k=>by cases h;cases e <;> simp[iH]at k <;> first|rfl|(obtain⟨_,_,z⟩:=k;cases z)
 | .bl b,e,x,h,k=>by cases h;cases e <;> simp[iH]at k <;> first|(rw[k])|(obtain⟨_,_,z⟩:=k;cases z)
 | .int b,e,x,h,k=>by cases h;cases e <;> simp[iH]at k <;> first|(rw[k])|(obtain⟨_,_,z⟩:=k;cases z)
 | .str b,e,x,h,k=>by cases h;cases e <;> simp[iH]at k <;> first|(rw[k])|(obtain⟨_,_,z⟩:=k;cases z)
 | .tup l,e,x,h,k=>by
  rw[iH]at h;obtain⟨xs,h1,rfl⟩:=map_some h;cases e with
  | tup m=>
   rw[iH]at k;obtain⟨ys,B,q⟩:=map_some k;cases q;rw[n4 h1 B]
  | lst m=>rw[iH]at k;obtain⟨ys,B,q⟩:=map_some k;cases q
  | _=>simp[iH]at k
 | .lst l,e,x,h,k=>by
  rw[iH]at h;obtain⟨xs,h1,rfl⟩:=map_some h;cases e with
  | lst m=>
   rw[iH]at k;obtain⟨ys,B,q⟩:=map_some k;cases q;rw[n4 h1 B]
  | tup m=>rw[iH]at k;obtain⟨ys,B,q⟩:=map_some k;cases q
  | _=>simp[iH]at k
 | .dK _,e,x,h,k=>by rw[iH]at h;cases h
 | .dT _,e,x,h,k=>by rw[iH]at h;cases h
theorem n4:∀ {d e:List D} {x:List My.Dx},kG d=some x->kG e=some x->d=e
 | [],e,x,h,k=>by
  rw[kG]at h;cases h;cases e with
  | nil=>rfl
  | cons e es=>
   rw[kG]at k;obtain⟨_,_,k⟩:=bind_some k;obtain⟨_,_,k⟩:=bind_some k;cases k
 | d::ds,e,x,h,k=>by
  rw[kG]at h;obtain⟨y,h1,h⟩:=bind_some h;obtain⟨ys,h2,h⟩:=bind_some h;cases h;cases e with
  | nil=>rw[kG]at k;cases k
  | cons e es=>
   rw[kG]at k;obtain⟨z,q,k⟩:=bind_some k;obtain⟨zs,B,k⟩:=bind_some k;cases k;rw[jM h1 q,n4 h2 B]
end
mutual
theorem lP{K:S2}{A:Av}{H:Hp}:∀ {d:D} {x:My.Dx} {v:V},iH d=some x->Rep A H d v->My.Rep K H x v
 | .non,x,v,h,r=>by cases h;cases r;rw[My.Rep]
 | .bl b,x,v,h,r=>by cases h;cases r;rw[My.Rep]
 | .int b,x,v,h,r=>by cases h;cases r;rw[My.Rep]
 | .str b,x,v,h,r=>by cases h;cases r;rw[My.Rep]
 | .tup l,x,v,h,r=>by
  rw[iH]at h;obtain⟨xs,h1,rfl⟩:=map_some h;cases r with
  | tup hh rl=>rw[My.Rep];exact⟨_,_,rfl,.inl (.inl hh),jI h1 rl⟩
 | .lst l,x,v,h,r=>by
  rw[iH]at h;obtain⟨xs,h1,rfl⟩:=map_some h;cases r with
  | lst n hh rl=>rw[My.Rep];exact⟨_,_,rfl,.inl hh,jI h1 rl⟩
 | .dK _,x,v,h,r=>by rw[iH]at h;cases h
 | .dT _,x,v,h,r=>by rw[iH]at h;cases h
theorem jI{K:S2}{A:Av}{H:Hp}:∀ {d:List D} {x:List My.Dx} {v:List V},kG d=some x->RepL A H d v->My.RepL K H x v
 | [],x,v,h,r=>by rw[kG]at h;cases h;cases r;rw[My.RepL]
 | d::ds,x,v,h,r=>by
  rw[kG]at h;obtain⟨y,h1,h⟩:=bind_some h;obtain⟨ys,h2,h⟩:=bind_some h;cases h;cases r with
  | cons r rs=>rw[My.RepL];exact⟨_,_,rfl,lP h1 r,jI h2 rs⟩
end
theorem eS{K:S2}{A:Av}{H:Hp}{d:D}{x:My.Dx}{v:V}(h:iH d=some x)(r:RepB A H d v):My.Rep K H x v:=by
 cases r with
 | of r=>exact lP h r
 | lst hh rl=>
  rw[iH]at h;obtain⟨xs,h1,rfl⟩:=map_some h;rw[My.Rep];exact⟨_,_,rfl,.inl hh,jI h1 rl⟩
 | dK=>rw[iH]at h;cases h
 | dT=>rw[iH]at h;cases h
def fJ(d:D):Bool:=match iH d with
 | some x=>x.nb && decide (x.dep<=60)
 | none=>false
noncomputable def MX:D->Bool
 | .tup _=>true | .lst _=>true|_=>false
noncomputable def JA:D->D->Bool
 | .non,.non=>true | .non,.int _=>true | .int _,.non=>true | .non,.bl _=>true | .bl _,.non=>true | .non,.str _=>true | .str _,.non=>true
 | .int _,.int _=>true | .bl _,.bl _=>true | .str _,.str _=>true
 | .int _,.str _=>true | .str _,.int _=>true | .bl _,.str _=>true | .str _,.bl _=>true
 | _,_=>false
open Classical in
def FA(d e:D):Option Bool:=if JA d e=true\/(MX d=true/\MX e=true/\fJ d=true/\fJ e=true)then some (decide (d=e))else none
def jW(d e:D):Option D:=(FA d e).map .bl
def FB(d e:D):Option D:=(FA d e).map λb=>.bl (!b)
theorem DY(h:JA d e=true)(r:RepB A H d v)(s:RepB A H e w):MZ v w=true/\(v=w↔d=e):=by
 cases d <;> cases e <;> first
  | (cases h;done)
  | (have:=r.non_inv;subst this;have:=s.non_inv;subst this;exact⟨rfl,by simp⟩)
  | (have:=r.non_inv;subst this;have:=s.int_inv;subst this;exact⟨rfl,by simp⟩)
  | (have:=r.non_inv;subst this;have:=s.bl_inv;subst this;exact⟨rfl,by simp⟩)
  | (have:=r.non_inv;subst this;have:=s.str_inv;subst this;exact⟨rfl,by simp⟩)
  | (have:=r.int_inv;subst this;have:=s.non_inv;subst this;exact⟨rfl,by simp⟩)
  | (have:=r.int_inv;subst this;have:=s.int_inv;subst this;exact⟨rfl,by simp⟩)
  | (have:=r.int_inv;subst this;have:=s.str_inv;subst this;exact⟨rfl,by simp⟩)
  | (have:=r.bl_inv;subst this;have:=s.non_inv;subst this;exact⟨rfl,by simp⟩)
  | (have:=r.bl_inv;subst this;have:=s.bl_inv;subst this;exact⟨rfl,by simp⟩)
  | (have:=r.bl_inv;subst this;have:=s.str_inv;subst this;exact⟨rfl,by simp⟩)
  | (have:=r.str_inv;subst this;have:=s.non_inv;subst this;exact⟨rfl,by simp⟩)
  | (have:=r.str_inv;subst this;have:=s.int_inv;subst this;exact⟨rfl,by simp⟩)
  | (have:=r.str_inv;subst this;have:=s.bl_inv;subst this;exact⟨rfl,by simp⟩)
  | (have:=r.str_inv;subst this;have:=s.str_inv;subst this;exact⟨rfl,by simp⟩)
section
variable {X:Cx}{O:List Nat}
theorem OpR.orM(h:OpR X f r)(h':OpR X f r')(x:∀a b H Q,r2 a b H Q->r a b H Q\/r' a b H Q):OpR X f r2:=OpR.mono (OpR.or h h') x
theorem gL(h:fJ d=true):∃x,iH d=some x/\x.nb=true/\x.dep<=60:=by
 unfold fJ at h;cases e:iH d with
 | none=>rw[e]at h;cases h
 | some x=>rw[e]at h;simp only[UF,decide_eq_true_eq]at h;exact⟨x,rfl,h.1,h.2⟩
theorem zC(h:MX d=true)(e:iH d=some x):x.seq=true:=by
 cases d with
 | tup l=>rw[iH]at e;obtain⟨xs,_,rfl⟩:=map_some e;rfl
 | lst l=>rw[iH]at e;obtain⟨xs,_,rfl⟩:=map_some e;rfl
 | _=>cases h
theorem NS(hu:X.A.units+64<cLine):fR X (TJ .Eq) jW:=OpR.orM OZ (My.J0 hu) <| by
 rintro x y H Q ⟨A,dx,U,d,lv,W,N,e,q⟩;obtain⟨b,G,rfl⟩:=map_some e;unfold FA at G;split at G
 case isFalse=>cases G
 rename_i hc;cases G;rcases hc with hs|⟨s1,s2,k1,k2⟩
 ·left
  obtain⟨h1,h2⟩:=DY hs W N;refine⟨h1,?_⟩;have:decide (x=y)=@decide (dx=U) (WM _):=decide_eq_decide.mpr h2;rw[this];exact q _ H (Ext.refl _ _) (.bl _)
 ·right
  obtain⟨M,F,a2,Y⟩:=gL k1;obtain⟨J,B,b2,b3⟩:=gL k2;refine⟨M,J,eS F W,eS B N,zC s1 F,zC s2 B,a2,b2,Y,?_⟩;have:@decide (M=J) (WM _)=@decide (dx=U) (WM _):=decide_eq_decide.mpr ⟨λz=>jM F (z ▸ B),λz=>by subst z;rw[F]at B;exact T5 B⟩;show Q (.bl (@decide (M=J) (WM _))) H;rw[this];exact q _ H (Ext.refl _ _) (.bl _)
theorem OX(hu:X.A.units+64<cLine):fR X (TJ .NotEq) FB:=OpR.orM N6 (My.K9 hu) <| by
 rintro x y H Q ⟨A,dx,U,d,lv,W,N,e,q⟩;obtain⟨b,G,rfl⟩:=map_some e;unfold FA at G;split at G
 case isFalse=>cases G
 rename_i hc;cases G;rcases hc with hs|⟨s1,s2,k1,k2⟩
 ·left
  obtain⟨h1,h2⟩:=DY hs W N;refine⟨h1,?_⟩;have:decide (x=y)=@decide (dx=U) (WM _):=decide_eq_decide.mpr h2;rw[this];exact q _ H (Ext.refl _ _) (.bl _)
 ·right
  obtain⟨M,F,a2,Y⟩:=gL k1;obtain⟨J,B,b2,b3⟩:=gL k2;refine⟨M,J,eS F W,eS B N,zC s1 F,zC s2 B,a2,b2,Y,?_⟩;have:@decide (M=J) (WM _)=@decide (dx=U) (WM _):=decide_eq_decide.mpr ⟨λz=>jM F (z ▸ B),λz=>by subst z;rw[F]at B;exact T5 B⟩;show Q (.bl (!@decide (M=J) (WM _))) H;rw[this];exact q _ H (Ext.refl _ _) (.bl _)
theorem Inv.lstR(I:Inv X pins σ H s)(B:Rd H l (.lst xs)):xs.length<=S7/\∃(q:List Value) (n:Nat),Vals xs q/\xs.length=q.length/\s.heap.get? l=some {cls:=.type "list",data:=.seq q.toArray n}:=by
 obtain⟨hz,q,n,r,e⟩:=(show ObjOk X.prog X.w H s.heap l (.lst xs)from B.ok I.hok);exact⟨hz,q,n,r,r.length,e⟩
def NP:R2:=λx y H Q=>∃l b xs zs,x=.ref l/\y=.ref b/\Rd H l (.lst xs)/\Rd H b (.lst zs)/\xs.length+zs.length<=S7/\∀p,H p=none->Q (.ref p) (upd H p (.lst (xs++zs)))
theorem x9:OpR X (UI .Add) NP:=by
 intro pins s σ H x y v u Q I N G h;obtain⟨l,b,xs,zs,rfl,rfl,U,M,hz,q⟩:=h;cases N;cases G;obtain⟨z,F,n,r,hl,e⟩:=Inv.lstR I U;obtain⟨z2,B,n2,Y,W,J⟩:=Inv.lstR I M;refine PySem.P.add_list e J ?_ (by rw[TL,TL];lia);have ea:F.toArray++B.toArray=(F++B).toArray:=by simp
 rw[ea];exact⟨.ref _,_,I.lnew (t':=s.toks) (r.append Y) (by rw[T8];lia),rfl,q _ I.fresh⟩
end
section
variable {X:Cx}{O:List Nat}
theorem RepL.nil_iff(r:RepL A H ds vs):vs=[]↔ds=[]:=by cases r <;> simp
def qK:D->D->Option D
 | .int i,.int j=>some (.int (i+j))
 | .str i,.str j=>if bA (i.length+j.length)then some (.str (i++j))else none
 | .lst l,.lst m=>if bA (l.length+m.length)then some (.lst (l++m))else none
 | .tup (a::l),.tup m=>if bA (l.length+1+m.length)then some (.tup (a::l++m))else none
 | _,_=>none
theorem KD:fR X (UI .Add) qK:=OpR.mono (OpR.or (OpR.or JU vQ) (OpR.or x9 FI)) <| by
 rintro x y H Q ⟨A,dx,F,d,U,N,M,e,q⟩;cases dx with
 | int i=>
  cases F with
  | int j=>cases e;have:=N.int_inv;subst this;have:=M.int_inv;subst this;exact .inl (.inl ⟨i,j,rfl,rfl,q _ H (Ext.refl _ _) (.int _)⟩)
  | _=>cases e
 | str i=>
  cases F with
  | str j=>
   simp only[qK]at e;by_cases hz:bA (i.length+j.length)=true
   ·rw[if_pos hz]at e;cases e;have:=N.str_inv;subst this;have:=M.str_inv;subst this
    exact .inl (.inr ⟨i,j,rfl,rfl,dD hz,q _ H (Ext.refl _ _) (.str _)⟩)
   ·rw[if_neg hz]at e;cases e
  | _=>cases e
 | lst l=>
  cases F with
  | lst m=>
   simp only[qK]at e;by_cases hz:bA (l.length+m.length)=true
   ·rw[if_pos hz]at e;cases e
    obtain⟨a,xs,rfl,h1,B⟩:=N.lst_inv;obtain⟨b,ys,rfl,h2,G⟩:=M.lst_inv;exact .inr (.inl ⟨a,b,xs,ys,rfl,rfl,h1,h2,by rw[B.length,G.length];exact dD hz,λp J=>q _ _ (Ext.new J) (.lst (λz=>U p z J) (.inl aM) ((B.append G).ext (Ext.new J)))⟩)
   ·rw[if_neg hz]at e;cases e
  | _=>cases e
 | tup l=>
  cases l with
  | nil=>cases F <;> cases e
  | cons a0 l=>
   cases F with
   | tup m=>
    simp only[qK]at e;by_cases hz:bA (l.length+1+m.length)=true
    ·rw[if_pos hz]at e;cases e
     obtain⟨a,xs,rfl,h1,B⟩:=N.tup_inv;obtain⟨b,ys,rfl,h2,G⟩:=M.tup_inv;refine .inr (.inr ⟨a,b,xs,ys,rfl,rfl,.inl (.inl h1),.inl (.inl h2),λz=>(by have:=B.nil_iff.mp z;cases this),by rw[B.length,G.length];exact dD hz,λz=>?_,λ_ p J=>q _ _ (Ext.new J) (.tup aM ((B.append G).ext (Ext.new J)))⟩);refine q _ H (Ext.refl _ _) (.tup h1 ?_);have:=G.nil_iff.mp z;subst this;rw[V6];exact B
    ·rw[if_neg hz]at e;cases e
   | _=>cases e
 | _=>cases F <;> cases e
noncomputable def fF:List D->Option (List Int)
 | []=>some []
 | .int i::ds=>(fF ds).map (i::·)
 | _=>none
theorem eZ:∀ {ds:List D} {ns:List Int} {vs:List V},fF ds=some ns->RepL A H ds vs->vs=ns.map V.int
 | [],ns,vs,h,r=>by cases h;cases r;rfl
 | .int i::ds,ns,vs,h,r=>by
  obtain⟨ms,h1,rfl⟩:=map_some h;cases r with
  | cons r rs=>cases r;rw[eZ h1 rs];rfl
def JK:D->D->Option D
 | .int i,.int j=>some (.bl (decide (i<j)))
 | .tup l,.tup m=>(fF l).bind λns=>(fF m).map λms=>.bl (HT.lexLt ns ms)
 | _,_=>none
theorem DZ(U:X.A.units<cLine):fR X (TJ .Lt) JK:=OpR.mono (OpR.or O0 (L4 U)) <| by
 rintro x y H Q ⟨A,dx,B,d,Y,G,F,e,q⟩;cases dx with
 | int i=>
  cases B with
  | int j=>cases e;have:=G.int_inv;subst this;have:=F.int_inv;subst this;exact .inl ⟨i,j,rfl,rfl,q _ H (Ext.refl _ _) (.bl _)⟩
  | _=>cases e
 | tup l=>
  cases B with
  | tup m=>
   obtain⟨ns,M,e⟩:=bind_some e;obtain⟨ms,J,rfl⟩:=map_some e;obtain⟨a,xs,rfl,h1,N⟩:=G.tup_inv;obtain⟨b,ys,rfl,h2,W⟩:=F.tup_inv;have:=eZ M N;subst this;have:=eZ J W;subst this;exact .inr ⟨a,b,ns,ms,rfl,rfl,.inl (.inl h1),.inl (.inl h2),q _ H (Ext.refl _ _) (.bl _)⟩
  | _=>cases e
 | _=>cases B <;> cases e
open Classical in
def sM(x y:D):Option Bool:=match y with
 | .dK _=>(dU y x).map (·.isSome)
 | .dT _=>(dU y x).map (·.isSome)
 | .lst l=>if fJ x=true/\l.all fJ=true then some (l.any λd=>decide (d=x))else none
 | .tup l=>if fJ x=true/\l.all fJ=true then some (l.any λd=>decide (d=x))else none
 | _=>none
def NJ(x y:D):Option D:=(sM x y).map .bl
def sI(x y:D):Option D:=(sM x y).map λb=>.bl (!b)
open Classical in
theorem jE(I:Inv X pins σ H s)(hu:Ar.units+60<cLine)(kx:fJ x=true)(rx:RepB A H x v)(ru:RelV v u)(kl:l.all fJ=true)(rl:RepL A H l xs)(M:Vals xs B) :
  ∃f:Value->Bool,(∀y∈B,WR Ar s y u (f y))/\B.any f=l.any λd=>decide (d=x):=by
 obtain⟨F,G,a2,a3⟩:=gL kx;have W:My.Rep X.K H F v:=eS G rx;let g:Value->Bool:=λy=>decide (∃w z,RelV w y/\My.Rep X.K H z w/\z=F)
 have one:∀ {d:D} {w:V} {y:Value},fJ d=true->Rep A H d w->RelV w y->g y=decide (d=x)/\WR Ar s y u (g y):=by
  intro d w y kd rd J;obtain⟨z,N,b2,b3⟩:=gL kd;have Y:My.Rep X.K H z w:=lP N rd;have e:g y=decide (z=F):=by
   refine decide_eq_decide.mpr ⟨λ⟨w',z',q1,q2,q3⟩=>?_,λe=>⟨w,z,J,Y,e⟩⟩;have:=RelV.inj J q1;subst this;rw[My.Rep.inj I _ _ _ Y q2,q3]
  have U:decide (z=F)=decide (d=x):=decide_eq_decide.mpr ⟨λq=>jM N (q ▸ G),λq=>by subst q;rw[N]at G;exact T5 G⟩;refine⟨e.trans U,?_⟩;rw[e];exact My.lV I 60 Ar z F w v y u b3 hu b2 a2 Y W J ru
 refine⟨g,?_,?_⟩
 ·intro y hy
  obtain⟨j,hj⟩:=List.mem_iff_getElem?.mp hy;have ab:=M.length;have aw:j<B.length:=(List.getElem?_eq_some_iff.mp hj).1;have hx:xs[j]?=some (xs[j]'(by lia)):=UK (by lia);obtain⟨u',e1,r1⟩:=M.get hx;rw[hj]at e1;cases e1;obtain⟨d,U,r2⟩:=rl.get hx;exact(one (List.all_eq_true.mp kl _ (UU U)) r2 r1).2
 ·have all:∀(l:List D) (xs:List V) (B:List Value),l.all fJ=true->RepL A H l xs->Vals xs B->B.any g=l.any λd=>decide (d=x):=by
   intro l;induction l with
   | nil=>intro xs B _ r v;cases r;cases v;rfl
   | cons d l ih=>
    intro xs B k r v;cases r with
    | cons h t=>
     cases v with
     | cons r rs=>
      rw[WS,UF]at k;rw[VF,VF,(one k.1 h r).1,ih _ _ k.2 t rs]
  exact all l xs B kl rl M
open Classical in
theorem GP(I:Inv X pins σ H s)(hu:Ar.units+60<cLine)(kx:fJ x=true)(rx:RepB A H x v)(ru:RelV v u)(kl:l.all fJ=true)(rl:RepL A H l xs)(U:Vals xs its) :
  ∃f:Value->Bool,(∀y∈its,WR Ar s y u (f y))/\∀(j:Nat) (d:D) (y:Value),l[j]?=some d->its[j]?=some y->f y=decide (d=x):=by
 obtain⟨F,J,a2,a3⟩:=gL kx;have Y:My.Rep X.K H F v:=eS J rx;let g:Value->Bool:=λy=>decide (∃w z,RelV w y/\My.Rep X.K H z w/\z=F)
 have one:∀ {d:D} {w:V} {y:Value},fJ d=true->Rep A H d w->RelV w y->g y=decide (d=x)/\WR Ar s y u (g y):=by
  intro d w y kd rd M;obtain⟨z,W,b2,b3⟩:=gL kd;have rz:My.Rep X.K H z w:=lP W rd;have e:g y=decide (z=F):=by
   refine decide_eq_decide.mpr ⟨λ⟨w',z',q1,q2,q3⟩=>?_,λe=>⟨w,z,M,rz,e⟩⟩;have:=RelV.inj M q1;subst this;rw[My.Rep.inj I _ _ _ rz q2,q3]
  have B:decide (z=F)=decide (d=x):=decide_eq_decide.mpr ⟨λq=>jM W (q ▸ J),λq=>by subst q;rw[W]at J;exact T5 J⟩;refine⟨e.trans B,?_⟩;rw[e];exact My.lV I 60 Ar z F w v y u b3 hu b2 a2 rz Y M ru
 refine⟨g,?_,?_⟩
 ·intro y hy
  obtain⟨j,hj⟩:=List.mem_iff_getElem?.mp hy;have ad:=U.length;have ax:j<its.length:=(List.getElem?_eq_some_iff.mp hj).1;have hx:xs[j]?=some (xs[j]'(by lia)):=UK (by lia);obtain⟨u',G,r1⟩:=U.get hx;rw[hj]at G;cases G;obtain⟨d,B,N⟩:=rl.get hx;exact(one (List.all_eq_true.mp kl _ (UU B)) N r1).2
 ·intro j d y hd hy
  obtain⟨w,G,r1⟩:=rl.get' hd;obtain⟨u',B,N⟩:=U.get G;rw[hy]at B;cases B;exact(one (List.all_eq_true.mp kl _ (UU hd)) r1 N).1
theorem OT(hu:X.A.units+64<cLine):fR X (TJ .In) NJ:=by
 intro pins s σ H x y v u Q I W Y h;obtain⟨A,dx,dy,d,lv,U,J,e,q⟩:=h;obtain⟨b,B,rfl⟩:=map_some e;have fin:∀k,k=b->EP X pins σ Q (.bool k) s:=λk hk=>⟨.bl b,H,I,by rw[hk];rfl,q _ H (Ext.refl _ _) (.bl _)⟩
 have ab:X.A.units+1<cLine:=by lia
 have dict:∀o,dU dy dx=some o->o.isSome=b->wpAny (model X.prog X.w) X.A (TJ .In v u) (EP X pins σ Q) X.xe s:=λo F G=>by
  obtain⟨a,ov,rfl,_,g,e3⟩:=jG F J U;cases Y;refine Q1 ab I g W λs' I'=>⟨.bl b,H,I',?_,q _ H (Ext.refl _ _) (.bl _)⟩
  have:ov.isSome=b:=by rw[<- G];rcases e3 with⟨rfl,rfl⟩|⟨_,_,rfl,rfl,_⟩ <;> rfl
  rw[this];rfl
 cases dy with
 | dK l=>obtain⟨o,F,G⟩:=map_some B;exact dict o F G
 | dT l=>obtain⟨o,F,G⟩:=map_some B;exact dict o F G
 | lst l=>
  simp only[sM]at B;split at B
  case isFalse=>cases B
  rename_i hc;cases B;obtain⟨a,xs,rfl,h1,r1⟩:=J.lst_inv;cases Y;obtain⟨M,r,N,hz⟩:=I.list (.inl h1);obtain⟨f,f1,f2⟩:=jE (Ar:=X.A.in1) I (by show X.A.units+1+60<cLine;lia) hc.1 U W hc.2 r1 r;refine SeqAt.in_listAt f (My.PlainL.isList N) (λw hw=>f1 w (by simpa using hw)) (fin _ ?_);rw[<- f2];simp
 | tup l=>
  simp only[sM]at B;split at B
  case isFalse=>cases B
  rename_i hc;cases B;obtain⟨a,xs,rfl,h1,r1⟩:=J.tup_inv;cases Y;obtain⟨M,r,N,hz⟩:=I.tuple (.inl (.inl h1));obtain⟨f,f1,f2⟩:=jE (Ar:=X.A.in1) I (by show X.A.units+1+60<cLine;lia) hc.1 U W hc.2 r1 r;refine SeqAt.in_tupleAt f N (λw hw=>f1 w (by simpa using hw)) (fin _ ?_);rw[<- f2];simp
 | _=>cases B
theorem BY(hu:X.A.units+64<cLine):fR X (TJ .NotIn) sI:=by
 intro pins s σ H x y v u Q I W Y h;obtain⟨A,dx,dy,d,lv,U,J,e,q⟩:=h;obtain⟨b,B,rfl⟩:=map_some e;have fin:∀k,k=(!b)->EP X pins σ Q (.bool k) s:=λk hk=>⟨.bl (!b),H,I,by rw[hk];rfl,q _ H (Ext.refl _ _) (.bl _)⟩
 have ab:X.A.units+1<cLine:=by lia
 have dict:∀o,dU dy dx=some o->o.isSome=b->wpAny (model X.prog X.w) X.A (TJ .NotIn v u) (EP X pins σ Q) X.xe s:=λo F G=>by
  obtain⟨a,ov,rfl,_,g,e3⟩:=jG F J U;cases Y;refine FK ab I g W λs' I'=>⟨.bl (!b),H,I',?_,q _ H (Ext.refl _ _) (.bl _)⟩
  have:ov.isSome=b:=by rw[<- G];rcases e3 with⟨rfl,rfl⟩|⟨_,_,rfl,rfl,_⟩ <;> rfl
  rw[this];rfl
 cases dy with
 | dK l=>obtain⟨o,F,G⟩:=map_some B;exact dict o F G
 | dT l=>obtain⟨o,F,G⟩:=map_some B;exact dict o F G
 | lst l=>
  simp only[sM]at B;split at B
  case isFalse=>cases B
  rename_i hc;cases B;obtain⟨a,xs,rfl,h1,r1⟩:=J.lst_inv;cases Y;obtain⟨M,r,N,hz⟩:=I.list (.inl h1);obtain⟨f,f1,f2⟩:=jE (Ar:=X.A.in1) I (by show X.A.units+1+60<cLine;lia) hc.1 U W hc.2 r1 r;refine SeqAt.notIn_listAt f (My.PlainL.isList N) (λw hw=>f1 w (by simpa using hw)) (fin _ ?_);rw[<- f2];simp
 | tup l=>
  simp only[sM]at B;split at B
  case isFalse=>cases B
  rename_i hc;cases B;obtain⟨a,xs,rfl,h1,r1⟩:=J.tup_inv;cases Y;obtain⟨M,r,N,hz⟩:=I.tuple (.inl (.inl h1));obtain⟨f,f1,f2⟩:=jE (Ar:=X.A.in1) I (by show X.A.units+1+60<cLine;lia) hc.1 U W hc.2 r1 r;refine SeqAt.notIn_tupleAt f N (λw hw=>f1 w (by simpa using hw)) (fin _ ?_);rw[<- f2];simp
 | _=>cases B
def dW:List D->Option D
 | [.lst l]=>some (.int l.length)
 | [.tup l]=>some (.int l.length)
 | [.str z]=>if bA z.length then some (.int z.length)else none
 | [.dK l]=>some (.int l.length)
 | _=>none
theorem DX:eV X (.builtin "len") dW:=by
 intro pins s σ H xs G Q I r h;obtain⟨A,ds,d,W,B,e,q⟩:=h
 match ds,B,e with
 | [.lst l],B,e=>
  cases e;obtain⟨v,rfl,h1⟩:=B.one;obtain⟨a,xs,rfl,h2,F⟩:=h1.lst_inv;exact nP pins s σ H _ G Q I r ⟨_,_,rfl,.inl ⟨xs,.inl h2,rfl⟩,by rw[F.length];exact q _ H (Ext.refl _ _) (.int _)⟩
 | [.tup l],B,e=>
  cases e;obtain⟨v,rfl,h1⟩:=B.one;obtain⟨a,xs,rfl,h2,F⟩:=h1.tup_inv;exact nP pins s σ H _ G Q I r ⟨_,_,rfl,.inr ⟨xs,.inl (.inl h2),rfl⟩,by rw[F.length];exact q _ H (Ext.refl _ _) (.int _)⟩
 | [.str z],B,e=>
  simp only[dW]at e;by_cases hz:bA z.length=true
  ·rw[if_pos hz]at e;cases e
   obtain⟨v,rfl,h1⟩:=B.one;have:=h1.str_inv;subst this;exact nP pins s σ H _ G Q I r ⟨_,_,rfl,⟨dD hz,rfl⟩,q _ H (Ext.refl _ _) (.int _)⟩
  ·rw[if_neg hz]at e;cases e
 | [.dK l],B,e=>
  cases e;obtain⟨v,rfl,h1⟩:=B.one;obtain⟨a,xs,rfl,h2,J,F⟩:=h1.dK_inv;obtain⟨u,rfl,M⟩:=vals1 r;cases M;have U:xs.length=l.length:=by have:=congrArg V8 J;simpa using this
  exact OJ I h2 λt s' N=>⟨.int xs.length,H,N,⟨t,rfl⟩,by rw[U];exact q _ H (Ext.refl _ _) (.int _)⟩
 | [],_,e=>cases e
 | [.non],_,e=>cases e
 | [.bl _],_,e=>cases e
 | [.int _],_,e=>cases e
 | [.dT _],_,e=>cases e
 | _::_::_,_,e=>simp[dW]at e
noncomputable def EO:List D->Option D
 | [.int i,.int j]=>some (.int (if j<i then j else i))
 | _=>none
noncomputable def zD:List D->Option D
 | [.int i,.int j]=>some (.int (if j>i then j else i))
 | _=>none
theorem uF{ds:List D}{g:Int->Int->D}(h:(match ds with|[.int i,.int j]=>some (g i j)|_=>none)=some d):∃i j,ds=[.int i,.int j]/\d=g i j:=by
 split at h
 ·cases h;exact⟨_,_,rfl,rfl⟩
 ·cases h
theorem GA(B:X.calm=true):eV X (.builtin "min") EO:=CallR.mono (zQ B) <| by
 rintro xs H Q ⟨A,ds,d,F,r,e,q⟩;obtain⟨i,j,rfl,rfl⟩:=uF (g:=λi j=>.int (if j<i then j else i)) e;obtain⟨v,w,rfl,h1,h2⟩:=r.two;have:=h1.int_inv;subst this;have:=h2.int_inv;subst this;exact⟨i,j,rfl,q _ H (Ext.refl _ _) (.int _)⟩
theorem GJ(B:X.calm=true):eV X (.builtin "max") zD:=CallR.mono (AV B) <| by
 rintro xs H Q ⟨A,ds,d,F,r,e,q⟩;obtain⟨i,j,rfl,rfl⟩:=uF (g:=λi j=>.int (if j>i then j else i)) e;obtain⟨v,w,rfl,h1,h2⟩:=r.two;have:=h1.int_inv;subst this;have:=h2.int_inv;subst this;exact⟨i,j,rfl,q _ H (Ext.refl _ _) (.int _)⟩
noncomputable def cW:List D->Option D
 | [.lst l]=>some (.tup l)
 | [.tup l]=>some (.tup l)
 | _=>none
noncomputable def qM:List D->Option D
 | [.lst l]=>some (.lst l)
 | [.tup l]=>some (.lst l)
 | _=>none
theorem yV{ds:List D}{g:List D->D}(h:(match ds with|[.lst l]=>some (g l)|[.tup l]=>some (g l)|_=>none)=some d):∃l,(ds=[.lst l]\/ds=[.tup l])/\d=g l:=by
 split at h
 ·cases h;exact⟨_,.inl rfl,rfl⟩
 ·cases h;exact⟨_,.inr rfl,rfl⟩
 ·cases h
theorem dO:eV X (.type "tuple") cW:=CallR.mono oT <| by
 rintro xs H Q ⟨A,ds,d,J,r,e,q⟩;obtain⟨l,G,rfl⟩:=yV (g:=.tup) e;rcases G with rfl|rfl
 ·obtain⟨v,rfl,h1⟩:=r.one
  obtain⟨a,xs,rfl,h2,B⟩:=h1.lst_inv;exact⟨a,xs,rfl,.inl ⟨.inl h2,λp F=>q _ _ (Ext.new F) (.tup aM (B.ext (Ext.new F)))⟩⟩
 ·obtain⟨v,rfl,h1⟩:=r.one
  obtain⟨a,xs,rfl,h2,B⟩:=h1.tup_inv;exact⟨a,xs,rfl,.inr ⟨.inl (.inl h2),q _ H (Ext.refl _ _) (.tup h2 B)⟩⟩
theorem G0:qI X (.type "list") qM:=CallR.mono qY <| by
 rintro xs H Q ⟨A,ds,d,G,r,e,q⟩;obtain⟨l,J,rfl⟩:=yV (g:=.lst) e;rcases J with rfl|rfl
 ·obtain⟨v,rfl,h1⟩:=r.one
  obtain⟨a,xs,rfl,h2,F⟩:=h1.lst_inv;exact⟨a,xs,rfl,.inl (.inl h2),λp B=>q p _ (Ext.new B) B (λz=>G p z B) (.lst aM (F.fresh B))⟩
 ·obtain⟨v,rfl,h1⟩:=r.one
  obtain⟨a,xs,rfl,h2,F⟩:=h1.tup_inv;exact⟨a,xs,rfl,.inr (.inl (.inl h2)),λp B=>q p _ (Ext.new B) B (λz=>G p z B) (.lst aM (F.fresh B))⟩
end
section
variable {X:Cx}{O:List Nat}
noncomputable def RU:D->String
 | .non => "NoneType" | .bl _ => "bool" | .int _ => "int" | .str _ => "str" | .tup _ => "tuple" | .lst _ => "list" | .dK _ => "dict" | .dT _ => "dict"
def QJ(K:S2):List V->Hp->VK->Prop:=λxs H Q=>∃A d x n b,xs=[x,.ty n]/\RepB A H d x/\XY K (.type (RU d)) (.type n)=some b/\Q (.bl b) H
theorem CN:CallR X (.builtin "isinstance") (QJ X.K):=by
 intro pins s σ H xs M Q I r h;obtain⟨A,d,x,n,b,rfl,B,e,q⟩:=h;have F:∀t,TyOf X.K H x t->t=.type (RU d)->wpAny (model X.prog X.w) X.A (call (.builtin "isinstance") M) (EP X pins σ Q) X.xe s:=λt U W=>by
  subst W;exact My.C5 pins s σ H _ M Q I r ⟨x,n,_,b,rfl,U,e,q⟩
 cases d with
 | non=>have:=B.non_inv;subst this;exact F _ .non rfl
 | bl c=>have:=B.bl_inv;subst this;exact F _ (.bl c) rfl
 | int c=>have:=B.int_inv;subst this;exact F _ (.int c) rfl
 | str c=>have:=B.str_inv;subst this;exact F _ (.str c) rfl
 | tup l=>obtain⟨a,xs,rfl,h1,_⟩:=B.tup_inv;exact F _ (.tup h1) rfl
 | lst l=>
  obtain⟨a,xs,rfl,h1,_⟩:=B.lst_inv;rcases h1 with h1|⟨o,h1⟩
  ·exact F _ (.lst h1) rfl
  ·exact F _ (.frz h1) rfl
 | dK l=>
  obtain⟨a,xs,rfl,h1,_⟩:=B.dK_inv;obtain⟨u,N,rfl,G,J⟩:=vals2 r;cases G;cases J;obtain⟨_,_,vs,_,p⟩:=(show ObjOk X.prog X.w H s.heap a (.dK xs)from h1.ok I.hok);obtain⟨o,es,ep,h1,h2,_⟩:=p;exact VA YR I.kIn ⟨o,h1,h2.1⟩ e (λz=>nomatch z) λtk=>⟨.bl b,H,I.tok tk,rfl,q⟩
 | dT l=>
  obtain⟨a,xs,rfl,h1,_⟩:=B.dT_inv;obtain⟨u,N,rfl,G,J⟩:=vals2 r;cases G;cases J;obtain⟨_,_,xs,_,o,es,ep,h1,h2,_⟩:=(show ObjOk X.prog X.w H s.heap a (.dT xs)from h1.ok I.hok);exact VA YR I.kIn ⟨o,h1,h2.1⟩ e (λz=>nomatch z) λtk=>⟨.bl b,H,I.tok tk,rfl,q⟩
noncomputable def jV(n:String)(d:D):Bool:=match d with
 | .non=>false
 | .bl _=>n == "bool" || n == "int"
 | .int _=>n == "int"
 | .str _=>n == "str"
 | .tup _=>n == "tuple"
 | .lst _=>n == "list"
 | .dK _=>n == "dict"
 | .dT _=>n == "dict"
def P1(n:String):Prop:=∀(K:S2) (d:D),XY K (.type (RU d)) (.type n)=some (jV n d)
theorem G4:P1 "int" := λK d=>by cases d <;> rfl
theorem BI:P1 "bool" := λK d=>by cases d <;> rfl
theorem GM:P1 "str" := λK d=>by cases d <;> rfl
theorem kit_tuple:P1 "tuple" := λK d=>by cases d <;> rfl
def w4(n:String)(f:Ev):Ev:=λρ=>(f ρ).map λd=>.bl (jV n d)
theorem rX(G:P1 n)(J:Gl X "isinstance")(hm:X.mg "isinstance" = none)(B:Gl X x)(F:X.mg x=none)(hb:TZ x=some (.type n))(M:PB X O e f)(W:x ≠ "__name__" := by decide)(Y:(x == ("__debug__" : Str))=false:=by decide)
  (h1:S0 [e,.Name x p2] X.env=(false,eval e X.env)::S0 [.Name x p2] X.env:=by rfl) (h2:(TU pos (S0 [.Name x p2] X.env)).any (·.1)=false:=by rfl) (U:S0 [.Name x p2] X.env=(false,eval (.Name x p2) X.env)::S0 [] X.env:=by rfl) :
  PD X O (.Call (.Name "isinstance" p) [e,.Name x p2] [] pos) (w4 n f):=
 PE.mono (jC CN J hm My.boot_isinstance (bJ M (bJ (GE (v:=.ty n) B F hb rfl W Y) dQ U) h1) (by decide) (by decide) h1 h2) <| by
  rintro σ H Q ⟨H0,A0,A,E,ρ,d,st,e,q⟩;obtain⟨x,ex,rfl⟩:=map_some e;exact⟨H0,A0,A,E,ρ,x,st,ex,λv H1 x1 N=>⟨A,x,v,n,_,rfl,N,G _ _,q _ H1 x1 (.bl _)⟩⟩
def oG:List Key->Option (List Int)
 | []=>some []
 | .inl i::ks=>(oG ks).map (i::·)
 | _=>none
theorem pV:∀ {k:List Key} {ns:List Int},oG k=some ns->k=ns.map TQ
 | [],ns,h=>by cases h;rfl
 | .inl i::ks,ns,h=>by obtain⟨ms,h1,rfl⟩:=map_some h;rw[pV h1];rfl
theorem k6:∀ns:List Int,oG (ns.map TQ)=some ns
 | []=>rfl
 | n::ns=>by rw[TB,oG,k6 ns];rfl
def intKeys{α:Type}:List (List Key×α)->Option (List (List Int×α))
 | []=>some []
 | p::l=>(oG p.1).bind λns=>(intKeys l).map λr=>(ns,p.2)::r
def JR{α:Type}(p:List Int×α):List Key×α:=(p.1.map TQ,p.2)
theorem iI{q:Type}:∀ {l:List (List Key×q)} {m:List (List Int×q)},intKeys l=some m->l=m.map JR
 | [],m,h=>by cases h;rfl
 | p::l,m,h=>by
  obtain⟨ns,h1,h⟩:=bind_some h;obtain⟨r,h2,rfl⟩:=map_some h;rw[TB,iI h2];congr 1;show p=(ns.map TQ,p.2);rw[<- pV h1]
theorem kZ{q:Type}:∀m:List (List Int×q),intKeys (m.map JR)=some m
 | []=>rfl
 | p::m=>by rw[TB,intKeys,show(JR p).1=p.1.map TQ from rfl,k6,kZ m];rfl
theorem mD{xs:List (List Key×V)}{m:List (List Int×D)}(e:xs.map (·.1)=(m.map JR).map (·.1)):∃ps:List (List Int×V),xs=ps.map My.kI/\ps.map (·.1)=m.map (·.1):=by
 induction m generalizing xs with
 | nil=>cases xs with
  | nil=>exact⟨[],rfl,rfl⟩
  | cons _ _=>cases e
 | cons p m ih=>cases xs with
  | nil=>cases e
  | cons x xs=>
   rw[TB,TB,TB]at e;injection e with e1 e2
   obtain⟨ps,h1,h2⟩:=ih e2;refine⟨(p.1,x.2)::ps,?_,by rw[TB,TB,h2]⟩;rw[TB,<- h1];congr 1;show x=(p.1.map TQ,x.2);rw[<- show x.1=p.1.map TQ from e1]
def ins{α:Type}(p:List Int×α):List (List Int×α)->List (List Int×α)
 | []=>[p]
 | q::r=>if HT.lexLt p.1 q.1=true then p::q::r else q::ins p r
def bD{α:Type}:List (List Int×α)->List (List Int×α)
 | []=>[]
 | p::r=>ins p (bD r)
theorem ins_map{B F:Type}(f:B->F)(p:List Int×B):∀l:List (List Int×B),(ins p l).map (λx=>(x.1,f x.2))=ins (p.1,f p.2) (l.map λx=>(x.1,f x.2))
 | []=>rfl
 | q::r=>by
  rw[ins,TB,ins];by_cases h:HT.lexLt p.1 q.1=true
  ·rw[if_pos h,if_pos h];rfl
  ·rw[if_neg h,if_neg h,TB,ins_map f p r]
theorem dG{q B:Type}(f:q->B):∀l:List (List Int×q),(bD l).map (λx=>(x.1,f x.2))=bD (l.map λx=>(x.1,f x.2))
 | []=>rfl
 | p::r=>by rw[bD,ins_map,dG f r,TB,bD]
theorem n5{B:Type}(p:List Int×B):∀l:List (List Int×B),(ins p l).Perm (p::l)
 | []=>.refl _
 | q::r=>by
  rw[ins];by_cases h:HT.lexLt p.1 q.1=true
  ·rw[if_pos h]
  ·rw[if_neg h];exact((n5 p r).cons q).trans (.swap ..)
theorem bT{q:Type}:∀l:List (List Int×q),(bD l).Perm l
 | []=>.refl _
 | p::r=>(n5 p (bD r)).trans ((bT r).cons p)
def cJ{q:Type}(l:List (List Int×q)):Prop:=l.Pairwise λa b=>HT.lexLt a.1 b.1=true
theorem nF{G:Type}(p:List Int×G):∀l:List (List Int×G),(∀q∈l,q.1≠p.1)->cJ l->cJ (ins p l)
 | [],_,_=>by rw[ins];exact List.pairwise_singleton _ _
 | q::r,hn,h=>by
  rw[ins];have F:=List.pairwise_cons.mp h;by_cases c:HT.lexLt p.1 q.1=true
  ·rw[if_pos c]
   refine List.pairwise_cons.mpr ⟨λx B=>?_,h⟩;rcases List.mem_cons.mp B with e|e
   ·rw[e];exact c
   ·exact My.sH _ _ _ c (F.1 x e)
  ·rw[if_neg c]
   refine List.pairwise_cons.mpr ⟨λx B=>?_,nF p r (λy J=>hn y (TR _ J)) F.2⟩;rcases List.mem_cons.mp ((n5 p r).subset B)with e|e
   ·rw[e]
    rcases My.rJ p.1 q.1 (λz=>hn q (TK ..) z.symm)with z|z
    ·exact absurd z c
    ·exact z
   ·exact F.1 x e
theorem dC{B:Type}:∀l:List (List Int×B),(l.map (·.1)).Nodup->cJ (bD l)
 | [],_=>List.Pairwise.nil
 | p::r,h=>by
  rw[TB,List.nodup_cons]at h;refine nF p _ (λq F z=>h.1 ?_) (dC r h.2);exact List.mem_map.mpr ⟨q,(bT r).subset F,z⟩
theorem g8{q:Type}{l m:List (List Int×q)}(h1:cJ l)(h2:cJ m)(B:l.Perm m):l=m:=by
 refine List.Perm.eq_of_pairwise (le:=λ(a b:List Int×q)=>HT.lexLt a.1 b.1=true) (λa b _ _ x y=>?_) h1 h2 B;have:=My.sH _ _ _ x y;rw[My.lU]at this;cases this
theorem lE{m:List (List Int×D)}{ps B:List (List Int×V)}(M:(ps.map (·.1)).Nodup)(h:PP A H (m.map JR) (ps.map My.kI))(hs:My.sF B)(hp:B.Perm ps):UB (λ(p:List Int×D) (q:List Int×V)=>p.1=q.1/\Rep A H p.2 q.2) (bD m) B:=by
 -- both by one list of triples
 have U:∀ {m:List (List Int×D)} {ps:List (List Int×V)},PP A H (m.map JR) (ps.map My.kI)->∃ts:List (List Int×(D×V)),m=ts.map (λt=>(t.1,t.2.1))/\ps=ts.map (λt=>(t.1,t.2.2))/\∀t∈ts,Rep A H t.2.1 t.2.2:=by
  intro m;induction m with
  | nil=>intro ps h;cases ps with
   | nil=>exact⟨[],rfl,rfl,λ_ h=>nomatch h⟩
   | cons _ _=>cases h
  | cons p m ih=>intro ps h;cases ps with
   | nil=>cases h
   | cons q ps=>
    cases h with
    | cons h t=>
     obtain⟨ts,G,F,J⟩:=ih t;have Y:p.1=q.1:=My.jK.mp h.1;refine⟨(p.1,(p.2,q.2))::ts,by rw[TB,<- G],by rw[TB,<- F];congr 1;rw[Y],λt N=>?_⟩;rcases List.mem_cons.mp N with e|e
     ·rw[e];exact h.2
     ·exact J t e
 obtain⟨ts,G,F,J⟩:=U h;have d1:bD m=(bD ts).map λt=>(t.1,t.2.1):=by rw[G,dG]
 have d2:B=(bD ts).map λt=>(t.1,t.2.2):=by
  have W:cJ (bD ps):=dC ps M;have:=g8 (l:=B) (m:=bD ps) hs W (hp.trans (bT ps).symm);rw[this,F,dG]
 rw[d1,d2];refine My.fD _ λt N=>⟨rfl,J t ((bT ts).subset N)⟩
def rT:List D->Option D
 | [.dT l]=>(intKeys l).bind λm=>if m.length<64/\(m.all λp=>!p.1.isEmpty)=true then some (.lst ((bD m).map λp=>.tup (p.1.map .int)))else none
 | _=>none
theorem n8:∀ns:List Int,RepL A H (ns.map .int) (ns.map V.int)
 | []=>.nil
 | n::ns=>.cons (.int n) (n8 ns)
theorem vY(hc:X.calm=true):qI X (.builtin "sorted") rT:=by
 intro pins s σ H xs B Q I r h;obtain⟨A,ds,d,lv,rl,e,q⟩:=h;unfold rT at e;split at e
 case h_2=>cases e
 rename_i l;obtain⟨m,e1,e⟩:=bind_some e;split at e
 case isFalse=>cases e
 rename_i hcnd;cases e;obtain⟨v,rfl,h1⟩:=rl.one;obtain⟨a,ys,rfl,h2,Y,r3⟩:=h1.dT_inv;have el:=iI e1;subst el;obtain⟨ps,rfl,U⟩:=mD Y;obtain⟨_,_,J,_⟩:=My.sA I h2;have W:ps.length=m.length:=by have:=congrArg V8 U;simpa using this
 refine My.qW hc pins s σ H _ B Q I r ⟨a,ps,rfl,h2,by lia,λp hp z=>?_,λla B F H2 sm N h3 pr pm so=>?_⟩
 ·have:p.1∈m.map (·.1):=by rw[<- U];exact List.mem_map.mpr ⟨p,hp,rfl⟩
  obtain⟨p',G,ep⟩:=List.mem_map.mp this;have:=List.all_eq_true.mp hcnd.2 p' G;rw[ep,z]at this;cases this
 ·have sb:=lE (A:=A) (H:=H) J (oO Y r3) so pm
  have M:∀ {ts:List (List Int×D)} {F:List (List Int×V)} {B:List V},UB (λ(p:List Int×D) (q:List Int×V)=>p.1=q.1/\Rep A H p.2 q.2) ts F->UB (My.R1 H2) B F->RepL (λb=>A b\/b=la) H2 (ts.map λp=>.tup (p.1.map .int)) B:=by
   intro ts F B h;induction h generalizing B with
   | nil=>intro h;cases h;exact .nil
   | cons h t ih=>
    intro h';cases h' with
    | cons h' t'=>
     obtain⟨b,rfl,hb⟩:=h';exact .cons (.tup hb (by rw[h.1];exact n8 _)) (ih t')
  exact q la H2 (Ext.same sm) N (λz=>lv la z N) (.lst h3 (M sb pr))
theorem J3{o:Expr}{name:Str}{id:String}{r:V->List V->Hp->VK->Prop}{to:TE}{apos cpos:Pos}(G:Slot "dict" name id)(M:typeOf (.builtin id)=pure (.type "method_descriptor"))(hm:MtR X id r)(ho:PE X o to)
  (B:WT o name X.env (eval o X.env)=eval o X.env:=by rfl) (q:(apos.endLine == cpos.line)=true:=by rfl):PE X (.Call (.Attribute o name apos) [] [] cpos) (λσ H Q=>to σ H λx H1=>∃a,x=.ref a/\NE H1 a/\r x [] H1 Q):=by
 intro pins s σ H Q I h;refine wpAny_Call_method0_late B q (bS (ho pins s σ H _ I h) λv Y ⟨x,H1,N,W,a,ex,J,U⟩=>?_);subst ex;cases W;obtain⟨h1,h2,_⟩:=D8 N J;exact⟨"dict",id,PySem.F.plainAttrs_dict,G,M,h1,h2,zae rfl (PySem.evalArgs_none (hm pins Y σ H1 (.ref a) [] (.ref a) [] Q N rfl .nil U))⟩
def qF(g:D->Option D)(f:Ev):Ev:=λρ=>(f ρ).bind g
def nN:D->Option D
 | .dT l=>(intKeys l).bind λm=>if m.length<64 then some (.lst ((bD m).map λp=>.tup [.tup (p.1.map .int),p.2]))else none
 | _=>none
theorem vX(hc:X.calm=true)(hu:X.A.units+64<cLine)(hg:Gl X "sorted")(hm:X.mg "sorted" = none)(ho:PB X O o f)
  (hp:∀ {to:TE},PE X o to->PE X (.Call (.Attribute o "items" apos) [] [] cpos) (λσ H Q=>to σ H λx H1=>∃a,x=.ref a/\NE H1 a/\My.DS x [] H1 Q))
  (he:S0 [.Call (.Attribute o "items" apos) [] [] cpos] X.env=(false,eval (.Call (.Attribute o "items" apos) [] [] cpos) X.env)::S0 [] X.env:=by rfl) (ae:(TU pos (S0 [] X.env)).any (·.1)=false:=by rfl) :
  PF X O (.Call (.Name "sorted" p) [.Call (.Attribute o "items" apos) [] [] cpos] [] pos) (qF nN f):=by
 have J:CallR X (.builtin "sorted") (λxs H Q=>∃A r a ys m,xs=[.ref r]/\Live A H/\H r=some (.ext λh=>h.IsItemsView r a)/\Rd H a (.dT ys)/\ys.map (·.1)=(m.map JR).map (·.1)/\RepL A H ((m.map JR).map (·.2)) (ys.map (·.2))/\m.length<64/\∀a H',Ext A H H'->H a=none->¬ A a->Own (λb=>A b\/b=a) H' (.lst ((bD m).map λp=>.tup [.tup (p.1.map .int),p.2])) a->Q (.ref a) H'):=by
  intro pins s σ H xs B Q I r h;obtain⟨A,r',a,ys,m,rfl,lv,F,h2,N,W,G,q⟩:=h;obtain⟨ps,rfl,e4⟩:=mD N;obtain⟨_,_,Y,_⟩:=My.sA I h2;have af:ps.length=m.length:=by have:=congrArg V8 e4;simpa using this
  refine My.qX hc hu pins s σ H _ B Q I r ⟨r',a,ps,rfl,F,h2,by lia,λla B M H2 sm U h3 pr pm so=>?_⟩;have sb:=lE (A:=A) (H:=H) Y (oO N W) so pm;have up:∀ {d:D} {v:V},Rep A H d v->Rep (λb=>A b\/b=la) H2 d v:=λr=>by
   have r1:Rep (λb=>A b\/b=la) H _ _:=r.av λb hb=>hb.imp id λz=>by rw[z];exact U
   exact r1.ext (Ext.same sm)
  have ad:∀ {ts:List (List Int×D)} {M:List (List Int×V)} {B:List V},UB (λ(p:List Int×D) (q:List Int×V)=>p.1=q.1/\Rep A H p.2 q.2) ts M->UB (My.R3 H2) B M->RepL (λb=>A b\/b=la) H2 (ts.map λp=>.tup [.tup (p.1.map .int),p.2]) B:=by
   intro ts M B h;induction h generalizing B with
   | nil=>intro h;cases h;exact .nil
   | cons h t ih=>
    intro h';cases h' with
    | cons h' t'=>
     obtain⟨a,b,rfl,ha,hb⟩:=h';exact .cons (.tup ha (.cons (.tup hb (by rw[h.1];exact n8 _)) (.cons (up h.2) .nil))) (ih t')
  exact q la H2 (Ext.same sm) U (λz=>lv la z U) (.lst h3 (ad sb pr))
 refine PE.mono (jC J hg hm My.boot_sorted (bJ (hp ho) dQ he) (by decide) (by decide) he ae) λσ H Q ⟨H0,A0,A,E,ρ,d,st,e,q⟩=>?_
 obtain⟨x,ex,e⟩:=bind_some e;cases x with
 | dT l=>
  obtain⟨m,e1,e⟩:=bind_some e;split at e
  case isFalse=>cases e
  rename_i G;cases e;have el:=iI e1;subst el;refine⟨H0,A0,A,E,ρ,_,st,ex,λv H1 x1 r1=>?_⟩;obtain⟨a,ys,rfl,h2,N,W⟩:=r1.dT_inv;refine⟨a,rfl,.inr ⟨ys,h2⟩,a,ys,rfl,rfl,h2,λr F=>⟨A,r,a,ys,m,rfl,Live.ext (st.mono x1).live (Ext.new F),aM,gK (λz=>?_) h2,N,W.ext (Ext.new F),G,λa' H' x' n na o=>?_⟩⟩
  ·subst z;rcases h2 with h2|⟨_,h2⟩ <;> (rw[F]at h2;cases h2)
  ·have x2:=(x1.trans (Ext.new F)).trans x'
   exact q a' H' x2 ((x1.trans (Ext.new F)).free n) na o
 | _=>cases e
end
def iW:D->Option Int->Option Int->Option D
 | .tup l,lo,hi=>some (.tup (cutD l lo hi))
 | .lst l,lo,hi=>some (.lst (cutD l lo hi))
 | _,_,_=>none
theorem O7:SlR X (rS iW):=SlR.mono (SlR.or QL (SlR.mono RB λx lo hi H Q (h:rS O5 x lo hi H Q)=>by
  obtain⟨A,dx,d,F,B,e,q⟩:=h;exact⟨A,dx,d,F,B,e,λa H' x n G o=>q _ H' x ((o.av (A':=A) λb J=>.inl (.inl J)).rep G)⟩)) λx lo hi H Q ⟨A,dx,d,F,B,e,q⟩=>by
 cases dx with
 | tup l=>exact .inl ⟨A,_,d,F,B,e,q⟩
 | lst l=>exact .inr ⟨A,_,d,F,B,e,q⟩
 | _=>cases e
section
variable {ρ:cC}{f g:Ev}{d x y:D}{i j:Int}{k:Nat}
@[simp] theorem q_seq{f g:Sv}:cN f g ρ=(f ρ).bind λo=>match o with | .nx ρ'=>g ρ'|o=>some o:=rfl
@[simp] theorem q_set:cP k f ρ=(f ρ).map λd=>.nx (ρ.set k (some d)):=rfl
@[simp] theorem q_if{c:Bv}{f g:Sv}:qO c f g ρ=(c ρ).bind λb=>if b=true then f ρ else g ρ:=rfl
@[simp] theorem q_rt:BF f ρ=(f ρ).map .rt:=rfl
@[simp] theorem q_nx:IU ρ=some (.nx ρ):=rfl
@[simp] theorem q_bad:ID ρ=none:=rfl
@[simp] theorem q_asg{g:Gv}:MY f g ρ=(f ρ).bind λd=>(g d ρ).map .nx:=rfl
@[simp] theorem q_for{f:Lv}{g:Gv}{b:Sv}:sT f g b ρ=(f ρ).bind λitems=>eM g b items ρ:=rfl
@[simp] theorem q_drop:EQ f ρ=(f ρ).map λ_=>.nx ρ:=rfl
@[simp] theorem q_app:sQ k f ρ=(aC k ρ).bind λx=>match x with
 | .lst l=>(f ρ).bind λd=>if bA l.length then some (.nx (ρ.set k (some (.lst (l++[d])))))else none
 | _=>none:=rfl
@[simp] theorem q_put:MQ k f g ρ=(g ρ).bind λe=>(aC k ρ).bind λx=>(f ρ).bind λq=>(E7 x q e).map λd=>.nx (ρ.set k (some d)):=rfl
@[simp] theorem q_var:aC k ρ=(ρ[k]?).join:=rfl
@[simp] theorem q_c:eC d ρ=some d:=rfl
@[simp] theorem q_op:aT o f g ρ=(f ρ).bind λx=>(g ρ).bind λy=>o x y:=rfl
@[simp] theorem q_call:aP F l ρ=(l ρ).bind F:=rfl
@[simp] theorem q_lnil:a6 ρ=some []:=rfl
@[simp] theorem q_lcons:aE f l ρ=(f ρ).bind λx=>(l ρ).bind λxs=>some (x::xs):=rfl
@[simp] theorem q_tup:iV l ρ=(l ρ).map .tup:=rfl
@[simp] theorem q_lst:sR l ρ=(l ρ).map .lst:=rfl
@[simp] theorem q_bind:qF o f ρ=(f ρ).bind o:=rfl
@[simp] theorem q_bof:eN f ρ=(f ρ).bind xD:=rfl
@[simp] theorem q_asB:xD (.bl b)=some b:=rfl
@[simp] theorem q_asI:NC (.int i)=some i:=rfl
@[simp] theorem q_bnot:E8 c ρ=(c ρ).map (!·):=rfl
@[simp] theorem q_band:oY a b ρ=(a ρ).bind λx=>if x=true then b ρ else some false:=rfl
@[simp] theorem q_bor:QA a b ρ=(a ρ).bind λx=>if x=true then some true else b ρ:=rfl
@[simp] theorem q_and:PU f g ρ=(f ρ).bind λx=>(xD x).bind λb=>if b=true then g ρ else some (.bl false):=rfl
@[simp] theorem q_not:O9 f ρ=(f ρ).bind λx=>(xD x).map λb=>.bl (!b):=rfl
@[simp] theorem q_neg:MV f ρ=(f ρ).bind λd=>(NC d).map λi=>.int (-i):=rfl
@[simp] theorem q_isi:w4 n f ρ=(f ρ).map λd=>.bl (jV n d):=rfl
@[simp] theorem q_get2:IZ a b c ρ=(a ρ).bind λd=>(b ρ).bind λk=>(c ρ).bind λe=>(dU d k).map λo=>o.getD e:=rfl
@[simp] theorem q_sl:FC o f a b ρ=(f ρ).bind λx=>(a ρ).bind λlo=>(b ρ).bind λhi=>o x lo hi:=rfl
@[simp] theorem q_oN:oM ρ=some none:=rfl
@[simp] theorem q_oS:jT f ρ=(f ρ).bind λd=>(NC d).map some:=rfl
@[simp] theorem q_lR:lR o l ρ=(l ρ).bind o:=rfl
@[simp] theorem q_lSeq:E2 f ρ=(f ρ).bind λd=>match d with
 | .lst l=>some l
 | .tup l=>some l
 | .dT l=>some (l.map λp=>.tup (p.1.map A5))
 | _=>none:=rfl
@[simp] theorem q_comp{ms:List (Option Nat)}{it:Lv}{g:Gv}{c:Bv}:eU ms it g c f ρ=(it ρ).bind λitems=>if bA items.length then(aV g c f items (qP ms ρ)).map .lst else none:=rfl
@[simp] theorem q_yes:fL ρ=some true:=rfl
@[simp] theorem q_name:aL k d ρ=some (ρ.set k (some d)):=rfl
@[simp] theorem q_gnil:qL [] ρ=some ρ:=rfl
@[simp] theorem q_gcons{g:Gv}{h:NB}{ds:List D}:b8 g h (d::ds) ρ=(g d ρ).bind λρ'=>h ds ρ':=rfl
@[simp] theorem q_gtup:jP n h (.tup l) ρ=if l.length=n then h l ρ else none:=rfl
@[simp] theorem q_sub:PV (.int i) (.int j)=some (.int (i-j)):=rfl
@[simp] theorem q_addI:qK (.int i) (.int j)=some (.int (i+j)):=rfl
@[simp] theorem q_ltI:JK (.int i) (.int j)=some (.bl (decide (i<j))):=rfl
@[simp] theorem q_gtI:IK (.int i) (.int j)=some (.bl (decide (j<i))):=rfl
@[simp] theorem q_eqI:jW (.int i) (.int j)=some (.bl (decide (i=j))):=by
 unfold jW FA;rw[if_pos (.inl rfl)];simp
@[simp] theorem q_neI:FB (.int i) (.int j)=some (.bl (!decide (i=j))):=by
 unfold FB FA;rw[if_pos (.inl rfl)];simp
@[simp] theorem q_eqB:jW (.bl a) (.bl b)=some (.bl (decide (a=b))):=by
 unfold jW FA;rw[if_pos (.inl rfl)];simp
@[simp] theorem q_neB:FB (.bl a) (.bl b)=some (.bl (!decide (a=b))):=by
 unfold FB FA;rw[if_pos (.inl rfl)];simp
theorem a8(h:0<j):cX (.int i) (.int j)=some (.int (i%j)):=if_pos h
theorem cM(h:0<j)(h2:j<1073741824):g4 (.int i) (.int j)=some (.int (i/j)):=if_pos ⟨h,h2⟩
theorem qG(h:0<=j)(h2:j<=1000000)(q:i.natAbs<2^64):sP (.int i) (.int j)=some (.int (i^j.toNat)):=if_pos ⟨h,h2,q⟩
@[simp] theorem q_lenL:dW [.lst l]=some (.int l.length):=rfl
@[simp] theorem q_lenT:dW [.tup l]=some (.int l.length):=rfl
@[simp] theorem q_min:EO [.int i,.int j]=some (.int (if j<i then j else i)):=rfl
@[simp] theorem q_max:zD [.int i,.int j]=some (.int (if j>i then j else i)):=rfl
@[simp] theorem q_tuL:cW [.lst l]=some (.tup l):=rfl
@[simp] theorem q_tuT:cW [.tup l]=some (.tup l):=rfl
@[simp] theorem q_liL:qM [.lst l]=some (.lst l):=rfl
@[simp] theorem q_liT:qM [.tup l]=some (.lst l):=rfl
@[simp] theorem q_slT{l:List D}{lo hi:Option Int}:iW (.tup l) lo hi=some (.tup (cutD l lo hi)):=rfl
@[simp] theorem q_slL{l:List D}{lo hi:Option Int}:iW (.lst l) lo hi=some (.lst (cutD l lo hi)):=rfl
@[simp] theorem q_itL:aN (.lst l) (.int i)=kH l i:=rfl
@[simp] theorem q_itT:aN (.tup l) (.int i)=kH l i:=rfl
@[simp] theorem q_itD:aN (.dT l) d=(dU (.dT l) d).join:=rfl
@[simp] theorem isi_int_int:jV "int" (.int i)=true:=rfl
@[simp] theorem isi_bool_int:jV "bool" (.int i)=false:=rfl
@[simp] theorem isi_tuple_tup:jV "tuple" (.tup l)=true:=rfl
@[simp] theorem isi_list_lst:jV "list" (.lst l)=true:=rfl
end
def turn(g:Gv)(b:Sv)(x:D):Sv:=λρ=>(g x ρ).bind b
theorem iT(I:Nat->cC->Prop)(h0:I 0 ρ)(hs:∀i x ρ,items[i]?=some x->I i ρ->∃ρ',turn g b x ρ=some (.nx ρ')/\I (i+1) ρ'):∃ρ',eM g b items ρ=some (.nx ρ')/\I items.length ρ':=by
 have B:∀(m:List D) (k:Nat) (ρ:cC),items.drop k=m->k<=items.length->I k ρ->∃ρ',eM g b m ρ=some (.nx ρ')/\I items.length ρ':=by
  intro m;induction m with
  | nil=>
   intro k ρ e F h;have:items.length<=k:=by rw[List.drop_eq_nil_iff]at e;exact e
   have:k=items.length:=by lia
   subst this;exact⟨ρ,rfl,h⟩
  | cons x m ih=>
   intro k ρ e F h;have q:k<items.length:=by
    rcases Nat.lt_or_ge k items.length with z|z
    ·exact z
    ·rw[List.drop_eq_nil_iff.mpr z]at e;cases e
   rw[ZP q]at e;injection e with e1 e2
   obtain⟨ρ',h1,h2⟩:=hs k x ρ (by rw[<- e1];simp[q]) h;obtain⟨ρ2,N,G⟩:=ih (k+1) ρ' e2 q h2;refine⟨ρ2,?_,G⟩;unfold turn at h1;obtain⟨ρ1,J,M⟩:=bind_some h1;unfold eM;rw[J];show(b ρ1).bind _=_;rw[M];exact N
 exact B items 0 ρ rfl (U6 _) h0
theorem aO(h:f (aD n ds)=some (.rt d)):bG n f ds=some d:=by
 unfold bG;rw[h];rfl
theorem J2(h:f (aD n ds)=some (.nx ρ)):bG n f ds=some .non:=by
 unfold bG;rw[h];rfl
theorem aG(h:f ρ=some (.nx ρ')):cN f g ρ=g ρ':=by
 unfold cN;rw[h];rfl
theorem wJ(h:f ρ=some (.rt d)):cN f g ρ=some (.rt d):=by
 unfold cN;rw[h];rfl
theorem Q4(h:c ρ=some false):qO c f g ρ=g ρ:=by
 unfold qO;rw[h];rfl
theorem a9(h:f ρ=some d):cP k f ρ=some (.nx (ρ.set k (some d))):=by
 unfold cP;rw[h];rfl
theorem RQ(h:f ρ=some d):BF f ρ=some (.rt d):=by
 unfold BF;rw[h];rfl
theorem dE{f:Lv}{g:Gv}{b rest:Sv}{ρ:cC}{items:List D}{q:Option Out}(B:f ρ=some items)(I:Nat->cC->Prop)(h0:I 0 ρ)(hs:∀i x ρ,items[i]?=some x->I i ρ->∃ρ',turn g b x ρ=some (.nx ρ')/\I (i+1) ρ')(k:∀ρ',I items.length ρ'->rest ρ'=q):cN (sT f g b) rest ρ=q:=by
 obtain⟨ρ',e,h⟩:=iT (g:=g) (b:=b) I h0 hs;rw[aG (by rw[q_for,B];exact e)];exact k ρ' h
open My (look put aR iX eA)
def kD(t:My.Tm):List Key×D:=(t.1.map TQ,.int t.2)
noncomputable def tupI(k:List Int):D:=.tup (k.map .int)
def dB(t:My.Tm):D:=.tup [tupI t.1,.int t.2]
theorem pN:∀k:List Int,EV (k.map .int)=some (k.map TQ)
 | []=>rfl
 | i::k=>by rw[TB,EV,pN k];rfl
@[simp] theorem asT_tupI(k:List Int):IQ (tupI k)=some (k.map TQ):=pN k
theorem LS(cs:List My.Tm)(k:List Int):fK (cs.map kD) (k.map TQ:List Key)=(look cs k).map D.int:=by
 induction cs with
 | nil=>rfl
 | cons t cs ih=>
  rw[TB];by_cases e:t.1=k
  ·have:(kD t).1=k.map TQ:=by show t.1.map TQ=_;rw[e]
   simp[fK,look,UV,this,e,kD]
  ·have:¬ (kD t).1=k.map TQ:=by show ¬ t.1.map TQ=_;rw[My.jK];exact e
   have a:fK (kD t::cs.map kD) (k.map TQ)=fK (cs.map kD) (k.map TQ):=by simp[fK,UV,this]
   rw[a,ih];simp[look,UV,e]
theorem LK(cs:List My.Tm)(k:List Int)(c:Int):putD (cs.map kD) (k.map TQ:List Key) (.int c)=(put cs k c).map kD:=by
 unfold putD put;have e:((cs.map kD).any λB=>decide (B.1=(k.map TQ:List Key)))=cs.any λt=>decide (t.1=k):=by
  rw[List.any_map];congr 1;funext t;exact decide_eq_decide.mpr (My.jK (a:=t.1) (b:=k))
 rw[e];by_cases h:(cs.any λt=>decide (t.1=k))=true
 ·rw[if_pos h,if_pos h,T7,T7]
  congr 1;funext t;show(if t.1.map TQ=(k.map TQ:List Key)then((t.1.map TQ:List Key),D.int c)else kD t)=kD (if t.1=k then(t.1,c)else t);by_cases z:t.1=k
  ·rw[if_pos z,if_pos (My.jK.mpr z)];rfl
  ·rw[if_neg z,if_neg (λq=>z (My.jK.mp q))]
 ·rw[if_neg h,if_neg h,U3]
  rfl
@[simp] theorem look_kD(cs:List My.Tm)(k:List Int):dU (.dT (cs.map kD)) (tupI k)=some ((look cs k).map D.int):=by
 show(IQ (tupI k)).map _=_;rw[asT_tupI,S4,LS]
theorem xP(k:List Int)(c:Int)(h:cs.length<=1000000):E7 (.dT (cs.map kD)) (tupI k) (.int c)=some (.dT ((put cs k c).map kD)):=by
 show(IQ (tupI k)).bind _=_;rw[asT_tupI,S3,if_pos (by rw[bA,S5];exact decide_eq_true h),LK]
theorem m7(cs:List My.Tm):intKeys (cs.map kD)=some (cs.map λt=>(t.1,D.int t.2)):=by
 have:=kZ (cs.map λt=>(t.1,D.int t.2));rw[T7]at this;exact this
theorem vJ(h:cs.length<64):nN (.dT (cs.map kD))=some (.lst ((bD cs).map dB)):=by
 show(intKeys (cs.map kD)).bind _=_;rw[m7,S3,if_pos (by rw[S5];exact h)];have:(bD (cs.map λt=>(t.1,D.int t.2)))=(bD cs).map λt=>(t.1,D.int t.2):=(dG D.int cs).symm
 rw[this,T7];rfl
theorem vO(h:cs.length<64)(h2:∀t∈cs,t.1≠[]):rT [.dT (cs.map kD)]=some (.lst ((bD cs).map λt=>tupI t.1)):=by
 show(intKeys (cs.map kD)).bind _=_;rw[m7,S3,if_pos]
 ·have:(bD (cs.map λt=>(t.1,D.int t.2)))=(bD cs).map λt=>(t.1,D.int t.2):=(dG D.int cs).symm
  rw[this,T7];rfl
 ·refine⟨by rw[S5];exact h,?_⟩
  rw[List.all_map];refine List.all_eq_true.mpr λt q=>?_
  have:=h2 t q;cases e:t.1 with
  | nil=>exact absurd e this
  | cons _ _=>simp[e]
theorem LV(B:0<c)(h:i<My.rsz a b c):a+(i:Int)*c<b:=by
 unfold My.rsz V4 at h;rw[if_pos (by lia)]at h;split at h
 ·have h1:(i:Int)<=(b-a-1)/c:=by lia
  have h2:(i:Int)*c<=(b-a-1)/c*c:=Int.mul_le_mul_of_nonneg_right h1 (by lia);have q:=Int.ediv_mul_le (b-a-1) (show c≠0 by lia)
  lia
 ·simp at h
theorem uU{ns:List Int}{k:Int}(h0:0<=k)(h:k<(ns.length:Int)):∃c,kH (ns.map D.int) k=some (.int c)/\ns[k.toNat]?=some c:=by
 obtain⟨j,rfl⟩:∃j:Nat,k=(j:Int):=⟨k.toNat,by lia⟩;have q:j<ns.length:=by lia
 exact⟨ns[j],fE (by simp[q]),by simp[q]⟩
noncomputable def qH:D->Option (List D)
 | .lst l=>some l
 | .tup l=>some l
 | _=>none
theorem FU{A:Av}{H:Hp}{K:S2}{d:D}{l:List D}{v:V}(h:qH d=some l)(r:Rep A H d v):∃t a xs,v=.ref a/\My.IM K t H a xs/\RepL A H l xs/\∀A' H',Rep A' H' d v->∃ys,My.IM K t H' a ys/\RepL A' H' l ys:=by
 cases d with
 | lst m=>
  cases h;obtain⟨a,xs,rfl,h1,F⟩:=RepB.lst_inv (.of r);refine⟨false,a,xs,rfl,.inl h1,F,λA' H' B=>?_⟩;obtain⟨G,ys,e,h2,q⟩:=RepB.lst_inv (.of B);cases e;exact⟨ys,.inl h2,q⟩
 | tup m=>
  cases h;obtain⟨a,xs,rfl,h1,F⟩:=RepB.tup_inv (.of r);refine⟨true,a,xs,rfl,.inl (.inl h1),F,λA' H' B=>?_⟩;obtain⟨G,ys,e,h2,q⟩:=RepB.tup_inv (.of B);cases e;exact⟨ys,.inl (.inl h2),q⟩
 | _=>cases h
@[simp] theorem q_seqL:qH (.lst l)=some l:=rfl
@[simp] theorem q_seqT:qH (.tup l)=some l:=rfl
end P
namespace P
end P
namespace P
open PySem PySem.Spec PyProof.Rows L2
@[simp] theorem q_chain:fH g g' fa fb fc ρ=(fa ρ).bind λx=>(fb ρ).bind λy=>(g x y).bind λz=>(xD z).bind λb=>if b=true then(fc ρ).bind λw=>g' y w else some (.bl false):=rfl
noncomputable def pick{α:Type}(l:List α)(lo hi st:Option Int):List α:=(sliceRange (V0 lo hi st l.length).1 (V0 lo hi st l.length).2.1 (V0 lo hi st l.length).2.2).filterMap (l[·]?)
section
variable {X:Cx}{O:List Nat}
open Classical in
def kB(d x:D):Option D:=match d with
 | .lst l=>if fJ x=true/\l.all fJ=true/\bA l.length=true then(l.findIdx? λy=>decide (y=x)).map λ(j:Nat)=>.int (j:Int)else none
 | _=>none
open Classical in
theorem B7(hu:X.A.units+64<cLine):NH X "list.index" (λv vs H Q=>∃A d x y d',vs=[y]/\Live A H/\RepB A H d v/\RepB A H x y/\kB d x=some d'/\∀v H',Ext A H H'->Rep A H' d' v->Q v H'):=by
 intro pins s σ H v vs u us Q I rv ru h;obtain⟨A,d,x,y,d',rfl,lv,rd,rx,e,q⟩:=h;obtain⟨w,rfl,Y⟩:=ru.one;cases d with
 | lst l=>
  simp only[kB]at e;split at e
  case isFalse=>cases e
  rename_i hc;obtain⟨j,ej,rfl⟩:=map_some e;obtain⟨a,xs,rfl,h1,r1⟩:=rd.lst_inv;cases rv;obtain⟨_,B,n,r,G,eo⟩:=Inv.lstR I h1;obtain⟨f,f1,f2⟩:=GP (Ar:=X.A.in1) I (by show X.A.units+1+60<cLine;lia) hc.1 rx Y hc.2.1 r1 r;obtain⟨hj,U,W⟩:=List.findIdx?_eq_some_iff_getElem.mp ej;have J:j<B.length:=by rw[<- G,r1.length];exact hj
  have hsz:=dD hc.2.2;have aa:(j:Int)<2^63-1:=by
   have:(S7:Nat)<2^62:=by decide
   lia
  refine W6 F.slot_list_index ⟨_,eo,rfl⟩ F.entry_list_index (F.args_list_index_2 _ _) (PySem.SeqAt.list_indexAt a B.toArray n none #[] w f j (by simpa using J) aa ?_ ?_) ⟨eo,λz hz=>f1 z (by simpa using hz),?_⟩
  ·rw[f2 j _ _ (UK hj) (by simp[J])]
   exact U
  ·intro m hm N
   have ab:m<l.length:=by lia
   have M:m<B.length:=by simpa using hm
   rw[f2 m _ _ (UK ab) (by simp[M])];have:=W m N;simpa using this
  ·exact⟨.int j,H,I.tok _,⟨_,rfl⟩,q _ H (Ext.refl _ _) (.int _)⟩
 | _=>cases e
theorem tV(W:X.A.units+64<cLine)(ho:PB X O o f)(J:PB X O e g)
  (U:∀ {r:V->List V->Hp->VK->Prop} {to:TE} {t:TA},MtR X "list.index" r->PE X o to->PA X [e] t->PE X (.Call (.Attribute o "index" apos) [e] [] cpos) (NG X.K "list" r to t)) (hs:S0 [e] X.env=(false,eval e X.env)::S0 [] X.env:=by rfl) :
  PD X O (.Call (.Attribute o "index" apos) [e] [] cpos) (aT kB f g):=PE.mono (U (B7 W) ho (bJ J dQ hs)) λσ H Q ⟨H0,A0,A,E,ρ,d,st,e,q⟩=>by
 obtain⟨x,ex,e⟩:=bind_some e;obtain⟨y,M,e⟩:=bind_some e;refine⟨H0,A0,A,E,ρ,x,st,ex,λv H1 F G=>⟨?_,H0,A0,A,E,ρ,y,st.mono F,M,λw H2 B r2=>⟨A,x,y,w,d,rfl,(st.mono (F.trans B)).live,G.ext B,r2,e,λv N Y r3=>q v N ((F.trans B).trans Y) r3⟩⟩⟩;cases x with
 | lst l=>obtain⟨a,xs,rfl,h1,_⟩:=G.lst_inv;exact .inl ⟨rfl,xs,.inl h1⟩
 | _=>cases e
end
end P
namespace My
open PySem PySem.Spec PyProof.Rows L2 PySem.SeqAt
section
variable {X:Cx}
theorem Inv.gone(I:Inv X pins σ H s)(f:g5 X pins H C)(hs:UE C s.heap h'):Inv X pins σ H {s with heap:=h'}:=by
 obtain⟨f0,J,f2,G,N,W⟩:=f;refine I.call' (s':={s with heap:=h'}) (ch:=[C]) rfl ⟨λb o e n F B=>?_,λb o e n F B=>?_,λ_ _ _ n _=>n,λb o e B=>?_,λ_ _ q=>q,λ_ _ _ q=>q,λ_ ps q=>⟨#[],by simpa using q⟩⟩ ?_ I.bare λb F=>?_
 ·exact(hs.2 b (λz=>B (z ▸ List.mem_singleton.mpr rfl))).trans e
 ·exact⟨o.slots,(hs.2 b (λz=>B (z ▸ List.mem_singleton.mpr rfl))).trans e⟩
 ·exact⟨o,(hs.2 b (λz=>B (z ▸ List.mem_singleton.mpr rfl))).trans e⟩
 ·intro b U e
  refine(I.hok b U e).stay (λc Y M q=>(hs.2 c ?_).trans q) (λ_ q=>q) λ_ _ q=>q
  rintro rfl;rcases M with z|z
  ·subst z;rw[f0]at e;cases e
  ·rw[f0]at z;cases z
 ·rw[List.mem_singleton.mp F]
  exact⟨G,J,N,W⟩
theorem FR(hN:X.N.Nodup)(ad:X.N[i]?=some x)(hx:Loc X.env.scope x)
  (hc:X.calm=true) (F:Clo X N scope cl) (hi:PI X tg iter wi) (hg:∀C s H fp,PG (aX X N scope cl C s H fp) tg g) (ht:∀C s H fp,BE (aX X N scope cl C s H fp) ifs tt) (he:∀C s H fp,PE (aX X N scope cl C s H fp) elt te)
  (hs:∀x,V5 iter X.env x=pure x:=by intro _;rfl) (ab:UM (.ListComp elt [⟨tg,iter,ifs,0⟩] scope pos) (some (.Name x pos')) spos.line X.env=pure true:=by rfl)
  (hf:X.fn x=true\/X.env.scope.names.lookup x=some .local:=by first|exact .inl rfl|exact .inr rfl) :
  PS X (.Assign [.Name x pos'] (.ListComp elt [⟨tg,iter,ifs,0⟩] scope pos) spos) (IG (ER wi g tt te (Start X N scope)) (qJ i)):=by
 intro pins s σ H D I h;obtain⟨ao,sS,hw⟩:=h;rw[exec_Assign_Name_used _ _ _ _ ab];refine SY (wpAny_standAt (SY ?_));show wpAny _ X.A (do let _ <- comprehension (.ListComp elt [⟨tg,iter,ifs,0⟩] scope pos) scope X.env _ (newList []) false (eval iter X.env) (some (VR (.Name x pos') X.env))) _ _ s;refine SY (US (wpAny_comprehension_free (use:=some (VR (.Name x pos') X.env)) (Q:=λ_ s'=>SP X pins D .next s') rfl hs F.clos F.kind F.names
  (bS (hi pins s σ H _ I hw) λv s1 h1=>bS h1 λam s2 h2=>?_)) (λ_ s' hq=>S1 (S1 hq)) λ_ _ e=>e)
 obtain⟨it,fp,tn,J,H2,e,I2,T,M,f2,q2⟩:=h2;subst e;refine pT (wi:=wi) (Q:=λv H1=>qJ i v σ H1 D.nx) (RR:=λU C=>compPost (model X.prog X.w) X.A X.xe (some (VR (.Name x pos') X.env)) (λ_ s'=>SP X pins D .next s') U C) hc F hg ht he I2 T M f2 sS q2 ?_
 intro s3 s5 H3 H5 al D1 I3 f3 Y q;obtain⟨m,hn,_⟩:=id Y.loc;have I6:Inv X pins σ H5 s5:=comp_back I3 f3 Y (Heap.SameBut.refl _ _);have G:g5 X pins H5 s3.heap.objs.size:=I3.fpOk (TF _) Y.free;show wpAny _ X.A (VR (.Name x pos') X.env (.ref D1)) _ _ s5;refine wpAny_assign_Name (p4 (v:=.ref D1) I6 hN ad hx rfl (λs7 I7 ⟨a,W,B⟩=>?_) hf);have ne:s3.heap.objs.size≠a:=λz=>by
  rcases B with B|B
  ·exact G.2.1 (z.trans B)
  ·exact G.2.2.2.2.1 x a B z.symm
 exact⟨m,Heap.Ns.sameBut hn W ne,λh' ac=>⟨_,H5,Inv.gone I7 G ac,q⟩⟩
end
end My
namespace P
open PySem PySem.Spec PyProof.Rows L2 PySem.SeqAt
section
variable {X:Cx}{O O':List Nat}{L:Lp}
theorem v7(U:PS X (.Assign [.Name x pos'] e pos) (IG (tD Rep O f) (qJ i)))(h:Sub O' (O.filter (· != i))=true):iY X L O (.Assign [.Name x pos'] e pos) (cP i f) O':=
 PS.mono U <| by
  rintro T σ H ⟨H0,A0,A,E,ρ,J,st,e,p⟩;obtain⟨d,G,rfl⟩:=map_some e;refine⟨H0,A0,A,E,ρ,d,st,G,λv H' x r=>?_⟩;have F:=(st.mono x).more r;obtain⟨A',B⟩:=F.shut (O':=O') λj N=>(Sub.er h N).1
  exact p A' _ H' ((B.put (B.ext _ (TK ..)) λz=>(Sub.er h z).2 rfl).less λq M=>TR _ M)
theorem NV:tD Rep O f σ H Q->tF O f σ H Q:=λ⟨H0,A0,A,E,ρ,d,st,e,q⟩=>
 ⟨H0,A0,A,E,ρ,d,st,e,λa H' x n B o=>q _ H' x ((o.av (A':=A) λb F=>.inl (.inl F)).rep B)⟩
theorem CW(hN:X.N.Nodup)(B:X.N[i]?=some x)(hx:Loc X.env.scope x)
  (W:X.calm=true) (Y:My.Clo X N scope cl) (F:dF X scope N ms) (hn:(ms.all λo=>match o with|some i=>!O.contains i|none=>true)=true) (hi:PDI X O tg iter it) (G:∀C s H fp,zE (My.aX X N scope cl C s H fp) [] tg g)
  (U:∀C s H fp,My.BE (My.aX X N scope cl C s H fp) ifs (tDT [] c)) (J:∀C s H fp,PD (My.aX X N scope cl C s H fp) [] elt f) (h:Sub O' (O.filter (· != i))=true:=by rfl) (hs:∀x,V5 iter X.env x=pure x:=by intro _;rfl)
  (q:UM (.ListComp elt [⟨tg,iter,ifs,0⟩] scope pos) (some (.Name x pos')) spos.line X.env=pure true:=by rfl) (M:X.fn x=true\/X.env.scope.names.lookup x=some .local:=by first|exact .inl rfl|exact .inr rfl) :
  iY X L O (.Assign [.Name x pos'] (.ListComp elt [⟨tg,iter,ifs,0⟩] scope pos) spos) (cP i (eU ms it g c f)) O':=
 v7 (PS.mono (My.FR hN B hx W Y hi G U J hs q M) λT σ H w=>u1 F hn _ _ _ (NV w)) h
end
end P
namespace My
open PySem PySem.Spec PyProof.Rows L2 PySem.SeqAt
end My
namespace P
open PySem PySem.Spec PyProof.Rows L2 PySem.SeqAt
end P
namespace P
open PySem PySem.Spec PyProof.Rows L2
theorem MN{f:Lv}{g:Gv}{b rest:Sv}{ρ:cC}{items:List D}{R:D->Prop}(q:f ρ=some items)(I:Nat->cC->Prop)(h0:I 0 ρ)(hs:∀i x ρ,items[i]?=some x->I i ρ->∃ρ',turn g b x ρ=some (.nx ρ')/\I (i+1) ρ')(k:∀ρ',I items.length ρ'->∃d,rest ρ'=some (.rt d)/\R d):∃d,cN (sT f g b) rest ρ=some (.rt d)/\R d:=by
 obtain⟨ρ',e,h⟩:=iT (g:=g) (b:=b) I h0 hs;rw[aG (by rw[q_for,q];exact e)];exact k ρ' h
theorem KQ{n:Nat}{ds:List D}{R:D->Prop}(h:∃d,f (aD n ds)=some (.rt d)/\R d):∃d,bG n f ds=some d/\R d:=by
 obtain⟨d,e,r⟩:=h;exact⟨d,aO e,r⟩
end P
namespace My
open PySem PySem.Spec PyProof.Rows L2 PySem.SeqAt
end My
namespace P
open PySem PySem.Spec PyProof.Rows L2 PySem.SeqAt
section
variable {X:Cx}
end
end P
namespace My
open PySem PySem.Spec PyProof.Rows L2 PySem.SeqAt
end My
namespace P
open PySem PySem.Spec PyProof.Rows L2 PySem.SeqAt
end P
namespace My
open PySem PySem.Spec PyProof.Rows L2
section
variable {X:Cx}
theorem CZ{ns:List Int}{q:List Value}(r:Vals (ns.map V.int) q){i:Nat}(h:q[i]?=some v):∃t,v=.int ((ns[i]?).getD 0) t:=by
 have F:=r.length;rw[S5]at F;have hi:i<ns.length:=by rw[F];exact(List.getElem?_eq_some_iff.mp h).1
 have e:(ns.map V.int)[i]?=some (.int ns[i]):=by simp[hi]
 obtain⟨u,B,G⟩:=r.get e;rw[h]at B;cases B;obtain⟨t,rfl⟩:=G;exact⟨t,by simp[hi]⟩
theorem HL:OpR X (UI .Add) (λx y H Q=>∃a b ys,x=.ref a/\y=.ref b/\SqT X.K H a []/\SqT X.K H b ys/\Q (.ref b) H):=by
 intro pins s σ H x y v u Q I rx ry h;obtain⟨a,b,ys,rfl,rfl,ha,hb,q⟩:=h;cases rx;cases ry;obtain⟨U,r1,p1,_⟩:=I.tuple ha;obtain⟨B,r2,p2,_⟩:=I.tuple hb;have e1:U=[]:=r1.nil_iff.mpr rfl;subst e1;obtain⟨⟨cls,dd,data,sl⟩,ho,hc,n,hd⟩:=p1;obtain⟨⟨G,ab,F,W⟩,M,Y,n2,ac⟩:=p2;have ad:cls=.type "tuple" := hc;have aa:data=.seq #[] n:=hd;have N:G=.type "tuple" := Y;have J:F=.seq B.toArray n2:=ac;subst ad aa N J;exact concat_meets ⟨_,ho,rfl⟩ ⟨_,M,rfl⟩ Z9 seq_tuple_add zaa zab (zac _ _)
  (tuple_addW0 a b #[] B.toArray n n2 dd ab sl W rfl) ⟨ho,M,.ref b,H,I,rfl,q⟩
def u0:V->List V->Hp->VK->Prop:=λx vs H Q=>∃l b xs zs,x=.ref l/\vs=[.ref b]/\H l=some (.lst xs)/\Rd H b (.lst zs)/\xs.length+zs.length<=S7/\Q .non (upd H l (.lst (xs++zs)))
theorem iO:NH X "list.extend" u0:=by
 intro pins s σ H x vs v us Q I rx rv h;obtain⟨l,b,xs,zs,rfl,rfl,M,Y,hz,q⟩:=h;cases rx;obtain⟨u,rfl,U⟩:=rv.one;cases U;obtain⟨z,G,n,r,hl,e⟩:=I.lstM M;obtain⟨z2,B,W,r2,ab,N⟩:=P.Inv.lstR I Y;have hsz:G.toArray.size+B.toArray.size<=S7:=by rw[TL,TL];lia
 have J:¬ (!G.toArray.isEmpty && zaf (G.toArray.size+B.toArray.size))=true:=by
  rw[CF hsz,Y5];exact TN
 refine W6 F.slot_list_extend ⟨_,e,rfl⟩ F.entry_list_extend (F.args_list_extend_2 _ _)
  (AutoSeq1.list_extend_list_list_0 l G.toArray n b B.toArray W J (by rw[TL];lia) (by lia)) ⟨e,N,?_⟩
 refine⟨.non,_,I.lset (its':=G++B) M e (by simp) (r.append r2) ?_,rfl,q⟩;rw[T8]
 lia
end
end My
namespace P
open PySem PySem.Spec PyProof.Rows L2
theorem aA{q B:Type}(a:q)(f:q->Option B):(some a).bind f=f a:=by rw[S3]
theorem aF{q B:Type}(a:q)(f:q->B):(some a).map f=some (f a):=by rw[S4]
section
variable {X:Cx}{O O':List Nat}{L:Lp}
noncomputable def E5:List D->Option D
 | [.int i]=>some (.int i)
 | [.bl b]=>some (.int (if b then 1 else 0))
 | _=>none
theorem K8:eV X (.type "int") E5:=CallR.mono AL <| by
 rintro xs H Q ⟨A,ds,d,F,r,e,q⟩;unfold E5 at e;split at e
 ·cases e
  obtain⟨v,rfl,B⟩:=r.one;cases B.int_inv;exact .inl ⟨_,rfl,q _ H (Ext.refl _ _) (.int _)⟩
 ·cases e
  obtain⟨v,rfl,B⟩:=r.one;cases B.bl_inv;exact .inr ⟨_,rfl,q _ H (Ext.refl _ _) (.int _)⟩
 ·cases e
@[simp] theorem q_intB:E5 [.bl b]=some (.int (if b then 1 else 0)):=rfl
@[simp] theorem q_intI:E5 [.int i]=some (.int i):=rfl
theorem lA:∀ns:List Int,fF (ns.map .int)=some ns
 | []=>rfl
 | n::ns=>by rw[TB,fF,lA ns];rfl
theorem RepL.rep(r:RepL A H ds vs):∀k:Nat,RepL A H (V7 k ds).flatten (V7 k vs).flatten
 | 0=>.nil
 | k+1=>by rw[Y0,Y0,Y1,Y1];exact r.append (RepL.rep r k)
def aY(x y:D):Option D:=match x,y with
 | .tup l,.tup m=>if bA (l.length+m.length)then some (.tup (l++m))else none
 | x,y=>qK x y
theorem bB:fR X (UI .Add) aY:=OpR.mono (OpR.or KD My.HL) <| by
 rintro x y H Q ⟨A,dx,N,d,G,F,B,e,q⟩;unfold aY at e;split at e
 ·rename_i l m
  cases l with
  | nil=>
   by_cases hz:bA (([]:List D).length+m.length)=true
   ·rw[if_pos hz]at e
    cases e;obtain⟨a,xs,rfl,h1,J⟩:=F.tup_inv;obtain⟨b,ys,rfl,h2,M⟩:=B.tup_inv;cases J;exact .inr ⟨a,b,ys,rfl,rfl,.inl (.inl h1),.inl (.inl h2),q _ H (Ext.refl _ _) (.tup h2 M)⟩
   ·rw[if_neg hz]at e;cases e
  | cons a l=>
   refine .inl ⟨A,_,_,d,G,F,B,?_,q⟩;rw[<- e];rfl
 ·exact .inl ⟨A,_,_,d,G,F,B,e,q⟩
@[simp] theorem q_addAI:aY (.int i) (.int j)=some (.int (i+j)):=rfl
@[simp] theorem q_addAT:aY (.tup l) (.tup m)=if bA (l.length+m.length)then some (.tup (l++m))else none:=rfl
@[simp] theorem q_addAL:aY (.lst l) (.lst m)=if bA (l.length+m.length)then some (.lst (l++m))else none:=rfl
@[simp] theorem q_addAS:aY (.str l) (.str m)=if bA (l.length+m.length)then some (.str (l++m))else none:=rfl
def MW(i:Nat)(f:Ev):Sv:=λρ=>(aC i ρ).bind λx=>match x with
 | .lst l=>(f ρ).bind λd=>match d with
  | .lst m=>if bA (l.length+m.length)then some (.nx (ρ.set i (some (.lst (l++m)))))else none
  | _=>none
 | _=>none
theorem iK(ho:PE X o (kE i))(he:PD X O e f)(G:mem O i=true)(hp:PE X (.Call (.Attribute o "extend" apos) [e] [] cpos) (NG X.K "list" My.u0 (kE i) (y6 (tD Rep O f) MT)))
  (hs:UM (.Call (.Attribute o "extend" apos) [e] [] cpos) none pos.line X.env=pure false:=by rfl) (h:Sub O' O=true:=by rfl):iY X L O (.Expr (.Call (.Attribute o "extend" apos) [e] [] cpos) pos) (MW i f) O':=
 PS.mono (rA hp hs) <| by
  rintro T σ H ⟨H0,A0,A,E,ρ,N,st,e,p⟩;obtain⟨x,ex,e⟩:=bind_some e;cases x with
  | lst l=>
   obtain⟨d,Y,e⟩:=bind_some e;cases d with
   | lst m=>
    dsimp only at e;by_cases hz:bA (l.length+m.length)=true
    ·rw[if_pos hz]at e
     cases e;obtain⟨a,F,q,U,W⟩:=st.own i _ (bM ex) (fI G);cases W with
     | lst h4 r4=>
      refine⟨_,F,.inl ⟨rfl,_,SqL.of h4⟩,H0,A0,A,E,ρ,_,st,Y,λv H' x r=>?_⟩;obtain⟨b,zs,rfl,hb,J⟩:=RepB.lst_inv (.of r);refine⟨a,b,_,zs,rfl,rfl,x.ow _ _ q h4,hb,by rw[r4.length,J.length];exact dD hz,?_⟩;have M:=x.ow _ _ q h4;obtain⟨A',B⟩:=((st.mono x).write (o:=.lst _) (bM ex) (fI G) F q U M trivial (.lst aM (((r4.ext x).append J).put q M trivial))).shut (Sub.mem h);exact p A' σ _ B
    ·rw[if_neg hz]at e;cases e
   | _=>cases e
  | _=>cases e
end
theorem HH{P:S6}{w:World}{K:S2}{mg:Str->Option Value}{base:Heap}{x:Str}{st:Stmt}{N ps:List Str}{k:Nat}(G:My.DefAt K mg x st ps)(S:FnScope N ps (aK st)):Fn P w K mg base x (k+1) ps (λ_=>none):=
 My.BodyOk.ok (k:=k) (N:=N) (λW J A F s H vs Q E U ⟨M,ds,d,Y,r,e,B,q⟩=>nomatch B) G S (λvs H Q E ⟨M,ds,d,_,_,e,B,_⟩=>nomatch B)
def w9(n:Nat)(b:(List D->Option D)->Sv):Nat->List D->Option D
 | 0=>λ_=>none
 | m+1=>bG n (b (w9 n b m))
end P
namespace My
open PySem PySem.Spec PyProof.Rows L2
open AutoSeq1 (wpAny_loadPart')
theorem zM(l:Addr)(items:Array Value)(n:Nat)(F:Option Addr)(J:Array (Option Value)) :
  Meets (VV.«enumerate.__new__» ⟨[.type "enumerate",.ref l],[]⟩) (λ_ R s=>s.heap.get? l=some {cls:=.type "tuple",dict:=F,data:=.seq items n,slots:=J} /\
   R (.ok (.ret (.ref (s.heap.push {cls:=.type "tuple_iterator",data:=.fields #[.ref l,.int 0 0]}).objs.size)))
    {s with heap:=(s.heap.push {cls:=.type "tuple_iterator",data:=.fields #[.ref l,.int 0 0]}).push {cls:=.type "enumerate",data:=.fields #[.none,.bool false,.ref s.heap.objs.size,UH 0,.none,.none]} }):=
 .of_wp λprog w A R s h=>by
  obtain⟨M,g,d,tk,os⟩:=s;obtain⟨q,h⟩:=h;have G:=sub_enumerate;have B:Heap.IsTuple (Shared.heap ⟨M,g,d,tk,os⟩) l items:=⟨_,q,rfl,n,rfl⟩
  wp_walk using V9 q
  refine wpAny_stack_any λst=>S1 ?_
  split
  ·rename_i c _ _ _ _ _
   cases(c == VP "enumerate")
   ·wp_walk using V9 q,XT B
    exact⟨_,rfl,h⟩
   ·wp_walk using V9 q,XT B
    exact⟨_,rfl,h⟩
  ·wp_walk using V9 q,XT B
   exact⟨_,rfl,h⟩
section
variable {prog:S6}{w:World}{A:TH}{E:Value->SZ->Prop}{s:SZ}
theorem zP(hl:SSq t s.heap l xs)
  (h:∀h',VO h' (s.heap.objs.size+1) s.heap.objs.size 0 .none->SIt t h' s.heap.objs.size l 0->(∀b o,s.heap.get? b=some o->h'.get? b=some o)->Q (.ref (s.heap.objs.size+1)) {s with heap:=h'}) :
  wpAny (model prog w) A (call (.type "enumerate") [.ref l]) Q E s:=by
 obtain⟨⟨cls,J,data,W⟩,U,Y,n,hd⟩:=hl;have N:cls=.type (R5 t):=Y;have M:data=.seq xs n:=hd;subst N M;have hz:(s.heap.push (RV t l)).objs.size=s.heap.objs.size+1:=X8 ..;have fin:VO ((s.heap.push (RV t l)).push {cls:=.type "enumerate",data:=.fields #[.none,.bool false,.ref s.heap.objs.size,UH 0,.none,.none]}) (s.heap.objs.size+1) s.heap.objs.size 0 .none:=by
  have:=TV (s.heap.push (RV t l)) (o:={cls:=.type "enumerate",data:=.fields #[.none,.bool false,.ref s.heap.objs.size,UH 0,.none,.none]}) rfl;rw[hz]at this;exact this
 have q:=h _ fin ⟨_,TC _ (TV _ rfl),rfl,rfl⟩ λb o x=>TC _ (TC _ x)
 cases t with
 | false=>
  refine callType_new F.called_enumerate (by decide) (F.typeCall_enumerate_1 _) (F.newCall_enumerate_1 _) (λB=>F.args_object_init_2 B _) F.entry_enumerate_new (meets_enumerate_newL l xs n J W) ⟨U,?_⟩;have G:(s.heap.push {cls:=.type "list_iterator",data:=.fields #[.ref l,.int 0 0]}).objs.size=s.heap.objs.size+1:=hz;show _/\_;rw[G];exact⟨⟨_,fin,rfl⟩,q⟩
 | true=>
  refine callType_new F.called_enumerate (by decide) (F.typeCall_enumerate_1 _) (F.newCall_enumerate_1 _) (λB=>F.args_object_init_2 B _) F.entry_enumerate_new (zM l xs n J W) ⟨U,?_⟩;have G:(s.heap.push {cls:=.type "tuple_iterator",data:=.fields #[.ref l,.int 0 0]}).objs.size=s.heap.objs.size+1:=hz;show _/\_;rw[G];exact⟨⟨_,fin,rfl⟩,q⟩
theorem AN{t:Bool}{e it l:Addr}{i:Nat}{items:Array Value}{x al:Value}{Q:Value->SZ->Prop}
  (he:VO s.heap e it i al) (ax:SIt t s.heap it l i) (hl:SSq t s.heap l items) (hx:items[i]?=some x) (ak:e≠it)
  (hQ:∀h', IsEnumOut h' e it ((i:Int)+1) x s.heap.objs.size -> SIt t h' it l (i+1) ->
   h'.get? s.heap.objs.size=some {cls:=.type "tuple",data:=.seq #[.int i s.toks,x]}->h'.objs.size=s.heap.objs.size+1->
   (∀b o,b≠e->b≠it->s.heap.get? b=some o->h'.get? b=some o)->Q (.ref s.heap.objs.size) {s with heap:=h',toks:=s.toks+1}) :
  wpAny (model prog w) A (VV.«enumerate.__next__» ⟨[.ref e],[]⟩) (λfin s'=>∃v,fin=.done (.ret v)/\Q v s') E s:=by
 obtain⟨hp,g,d,tk,os⟩:=s;show wpAny _ _ (field (.ref e) 2 >>= _) _ _ _;refine SY (UP he rfl (x:=.ref it) rfl ?_);refine SY (next_item ax hl hx λU ai B=>?_);replace B:UE it hp U:=B;have aa:VO U e it i al:=(B.2 e ak).trans he;show wpAny _ _ (field (.ref e) 3 >>= _) _ _ ⟨U,g,d,tk,os⟩;refine SY (UP aa rfl (x:=UH i) rfl ?_);show wpAny _ _ (field (.ref e) 4 >>= _) _ _ ⟨U,g,d,tk,os⟩;refine SY (UP aa rfl (x:=.none) rfl ?_);show wpAny _ _ (mkInt i >>= _) _ _ ⟨U,g,d,tk,os⟩;refine SY (wpAny_mkInt ?_);show wpAny _ _ (XE (.ref e) 3 (UH ((i:Int)+1)) >>= _) _ _ ⟨U,g,d,tk+1,os⟩;refine SY (VN aa (by simp) λad ac N=>?_);replace N:UE e U ad:=N;replace ac:VO ad e it ((i:Int)+1) al:=ac;show wpAny _ _ (XE (.ref e) 4 .none >>= _) _ _ ⟨ad,g,d,tk+1,os⟩;refine SY (VN ac (by simp) λW ab G=>?_);replace G:UE e ad W:=G;replace ab:VO W e it ((i:Int)+1) al:=ab;show wpAny _ _ (newTuple [.int i tk,x] >>= _) _ _ ⟨W,g,d,tk+1,os⟩;refine SY (ZI ?_);have Y:VO (W.push {cls:=.type "tuple",data:=.seq #[.int i tk,x]}) e it ((i:Int)+1) al:=TC _ ab;generalize hh₄:W.push {cls:=.type "tuple",data:=.seq #[.int i tk,x]}=h₄ at Y;have hsz:W.objs.size=hp.objs.size:=by rw[G.1,N.1,B.1]
 have aw:e<hp.objs.size:=S8 he;have aq:h₄.get? hp.objs.size=some {cls:=.type "tuple",data:=.seq #[.int i tk,x]}:=by rw[<- hh₄,<- hsz];exact TV _ rfl
 have as:h₄.objs.size=hp.objs.size+1:=by rw[<- hh₄,X8,hsz]
 have ar:∀b o,b≠e->b≠it->hp.get? b=some o->h₄.get? b=some o:=λb o ah au hb=>by
  rw[<- hh₄];exact TC _ (G.extBut b o ah (N.extBut b o ah (B.extBut b o au hb)))
 have ap:SIt t h₄ it l (i+1):=by
  rw[<- hh₄];exact ai.to λo q=>TC _ (G.extBut it o (T3 ak) (N.extBut it o (T3 ak) q))
 show wpAny _ _ (zaI (.ref e) >>= _) _ _ ⟨h₄,g,d,tk+1,os⟩;rw[hsz];clear hh₄ ab G ac N aa B ai hsz W ad U;refine SY ?_
 ·unfold zaI
  refine SY (UP Y rfl (x:=.none) rfl (S1 ?_));simp only[if_true];refine SY (wpAny_rule ?_);refine SY (UP Y rfl (x:=al) rfl ?_);refine SY (VN Y (by simp) λaj af M=>?_);replace M:UE e h₄ aj:=M;replace af:VO aj e it ((i:Int)+1) x:=af;show wpAny _ _ (zaJ (.ref e) (.ref hp.objs.size) >>= _) _ _ ⟨aj,g,d,tk+1,os⟩;refine SY ?_
  ·unfold zaJ
   refine SY (VN af (by simp) λan ae J=>?_);replace J:UE e aj an:=J;replace ae:IsEnumOut an e it ((i:Int)+1) x hp.objs.size:=ae;refine VN ae (by simp) λam ag F=>?_
   replace F:UE e an am:=F;replace ag:IsEnumOut am e it ((i:Int)+1) x hp.objs.size:=ag;refine SY (XG (S1 ⟨_,rfl,hQ am ag ?_ ?_ ?_ ?_⟩))
   ·exact ap.to λo q=>F.extBut it o (T3 ak) (J.extBut it o (T3 ak) (M.extBut it o (T3 ak) q))
   ·exact F.extBut _ _ (UG aw) (J.extBut _ _ (UG aw) (M.extBut _ _ (UG aw) aq))
   ·rw[F.1,J.1,M.1,as]
   ·exact λb o ah au hb=>F.extBut b o ah (J.extBut b o ah (M.extBut b o ah (ar b o ah au hb)))
theorem AO{t:Bool}{e it l:Addr}{i:Nat}{items:Array Value}{x G:Value}{Q:Option Value->SZ->Prop}
  (J:VO s.heap e it i G) (q:SIt t s.heap it l i) (U:SSq t s.heap l items) (N:items[i]?=some x) (B:e≠it)
  (M:∀h', IsEnumOut h' e it ((i:Int)+1) x s.heap.objs.size -> SIt t h' it l (i+1) ->
   h'.get? s.heap.objs.size=some {cls:=.type "tuple",data:=.seq #[.int i s.toks,x]}->h'.objs.size=s.heap.objs.size+1->
   (∀b o,b≠e->b≠it->s.heap.get? b=some o->h'.get? b=some o)->Q (some (.ref s.heap.objs.size)) {s with heap:=h',toks:=s.toks+1}) :
  wpAny (model prog w) A (UN (.ref e)) Q E s:=by
 have hT:s.TypeIs (.ref e) "enumerate" := ⟨_,J,rfl⟩;unfold UN;exact SY (XD (VY (name:=U5 "__next__") hT ZQ
  (U1 ZQ hT F.entry_enumerate_next
   (AN J q U N B λh' a b c d k=>S1 (M h' a b c d k)) (F.args_enumerate_next_1 _))))
theorem BV{t:Bool}{i:Nat}{items:Array Value}{Q:Option Value->SZ->Prop}(N:A.handled=none)
  (J:VO s.heap e it i old) (q:SIt t s.heap it l i) (hl:SSq t s.heap l items) (Y:items[i]?=none)
  (W:∀h',X7 it s.heap h'->Q none {s with heap:=h'}):wpAny (model prog w) A (UN (.ref e)) Q E s:=by
 have hT:s.TypeIs (.ref e) "enumerate" := ⟨_,J,rfl⟩;unfold UN;refine SY (XD (VY (name:=U5 "__next__") hT ZQ
  (U1 ZQ hT F.entry_enumerate_next ?_ (F.args_enumerate_next_1 _))))
 show wpAny _ _ (field (.ref e) 2 >>= _) _ _ _;refine SY (UP J rfl (x:=.ref it) rfl ?_);refine SY (next_end N q hl Y λh' x B G=>?_);obtain⟨o,M,U⟩:=G;refine SY (zan (T := "StopIteration") (b:=true) ⟨o,M,U⟩ isSubtype_stop ?_);exact S1 (W _ B)
end
def R7(K:S2)(t:Bool)(l:Addr):It:=
 ⟨λi H => ∃xs, IM K t H l xs /\ i<xs.length, λi H x H' => ∃p u, x = .ref p /\ H p = none /\ H' = upd H p (.tup [.int (i:Int), u]) /\ ∀xs, IM K t H l xs -> xs[i]? = some u,
  λi H=>∃xs,IM K t H l xs/\xs.length<=i⟩
theorem A3{P:S6}{w:World}{K:S2}{Y:List Expr}{x1}{tp:Pos}(t:Bool){e it l:Addr}(aa:e≠it) :
  Turn P w K (.Tuple Y x1 tp) (R7 K t l) [e,it] e (λi h=>(∃J,VO h e it (i:Nat) J)/\SIt t h it l i) where
 mem:=by simp
 obj:=by
  rintro i h ⟨⟨J,M⟩,⟨o1,e1,_,d1⟩⟩ c B;simp only[T9,UA,or_false]at B;rcases B with rfl|rfl
  ·exact⟨_,M,λv q=>by cases q⟩
  ·exact⟨o1,e1,λv q=>by rw[d1]at q;cases q⟩
 keep:=λi h h' ⟨⟨J,M⟩,U⟩ k=>⟨⟨J,k e (by simp) _ M⟩,U.to λo q=>k it (by simp) o q⟩
 item:=by
  intro X hP hw hK B i pins s σ H E I hf st hg;subst hP hw hK;obtain⟨⟨J,M⟩,U⟩:=st;obtain⟨xs,q1,af⟩:=hg;obtain⟨ab,r1,p1⟩:=wQ I q1;have e1:xs[i]?=some xs[i]:=by simp[af]
  obtain⟨u,eu,ru⟩:=r1.get e1;refine AO M U p1 (x:=u) (by simpa using eu) aa λh' a1 a2 a3 a4 N=>⟨_,rfl,?_⟩
  refine wpAny_letOwnedTupleGo_enum (s:={s with heap:=h',toks:=s.toks+1}) a1 λh2 ag sb=>?_
  have zz:∀c,c∈[e,it]->c<s.heap.objs.size:=λc B=>by
   simp only[T9,UA,or_false]at B;rcases B with rfl|rfl
   ·exact S8 M
   ·obtain⟨o,q,_⟩:=U;exact S8 q
  have W:∀c o,c≠e->h'.get? c=some o->h2.get? c=some o:=λc o B q=>sb.extBut _ _ B q
  have I1:Inv X pins σ H {s with heap:=h2,toks:=s.toks+1}:=mT I hf λc o B q=>by
   simp only[T9,UA,or_false,not_or]at B;exact W c o B.1 (N c o B.1 B.2 q)
  have F:H s.heap.objs.size=none:=I.fresh;have al:h2.get? s.heap.objs.size=some {cls:=.type "tuple",data:=.seq #[.int i s.toks,u]}:=W _ _ (UG (zz e (by simp))) a3;have I2:Inv X pins σ (upd H s.heap.objs.size (.tup [.int (i:Int),xs[i]])) {s with heap:=h2,toks:=s.toks+1}:=by
   have ai:HOk X.prog X.w (upd H s.heap.objs.size (.tup [.int (i:Int),xs[i]])) h2:=λc ob q=>by
    by_cases B:c=s.heap.objs.size
    ·subst B;rw[aM]at q;cases q
     exact⟨by show 2<=S7;decide,[.int i s.toks,u],.cons ⟨_,rfl⟩ (.cons ru .nil),_,al,rfl,0,rfl,rfl⟩
    ·rw[aJ B]at q
     exact(I1.hok c ob q).stay (λ_ _ _ q=>q) (λd q=>by rw[aJ (bI q F)];exact q) λd ao q=>by rw[aJ (bI q F)];exact q
   refine I.call' (s':={s with heap:=h2,toks:=s.toks+1}) (ch:=[e,it]) rfl ⟨λc o q _ _ G=>?_,λc o q _ _ G=>⟨o.slots,?_⟩,λc o q n G=>by rw[aJ (TY (S8 q))];exact n,λc o q G=>⟨o,?_⟩,λc ao q=>by rw[aJ (bI q F)];exact q,λc o' u' q=>by rw[aJ (bI q F)];exact q,λc ps q=>⟨#[],by rw[aJ (bI q F),q];simp⟩⟩ ai I.bare λb hb=>?_
   ·simp only[T9,UA,or_false,not_or]at G
    exact W c o G.1 (N c o G.1 G.2 q)
   ·simp only[T9,UA,or_false,not_or]at G
    exact W c o G.1 (N c o G.1 G.2 q)
   ·simp only[T9,UA,or_false,not_or]at G
    exact W c o G.1 (N c o G.1 G.2 q)
   ·obtain⟨_,f1,_,f3,f4,f5⟩:=hf b hb
    exact⟨f3,f1,f4,f5⟩
  refine⟨.ref s.heap.objs.size,_,I2,rfl,⟨_,_,rfl,F,rfl,λaw g1=>by rw[<- FQ I q1 g1];exact e1⟩,⟨⟨_,ag⟩,a2.to λo q=>W _ o (T3 aa) q⟩,λc B=>?_⟩;rw[aJ (TY (zz c B))];exact(hf c B).1
 done:=by
  intro X hP hw hK B i pins s σ H E I hf st hg;subst hP hw hK;obtain⟨⟨J,M⟩,U⟩:=st;obtain⟨xs,q1,aq⟩:=hg;obtain⟨ab,r1,p1⟩:=wQ I q1;have n1:=r1.length;refine BV (I.ok.hd B) M U p1 (by simp;lia) λh' N=>⟨rfl,mT (t':=s.toks) I hf λc o B q=>?_⟩
  simp only[T9,UA,or_false,not_or]at B;exact N c o B.2 q
 self:=λ_ _ _ _ _ st h=>let ⟨⟨_,M⟩,_⟩:=st;wpAny_pyIter_enum M h
theorem boot_enumerate:TZ "enumerate" = some (.type "enumerate"):=by first|rfl|decide +kernel
def NY(K:S2)(ta:TA):TI:=λσ H R=>ta σ H λvs H1=>∃t l xs,vs=[.ref l]/\IM K t H1 l xs/\R (R7 K t l) H1
theorem HK{X:Cx}{B:List Expr}{x1}{tp:Pos}{a:Expr}{ta:TA}{p pos:Pos}(Y:Gl X "enumerate")(hm:X.mg "enumerate" = none)(ha:PA X [a] ta)(hs:S0 [a] X.env=[(false,eval a X.env)]:=by rfl) :
  PI X (.Tuple B x1 tp) (.Call (.Name "enumerate" p) [a] [] pos) (NY X.K ta):=by
 intro pins s σ H R I h;refine Call_ (kA I Y hm boot_enumerate (YQ (bS (ha pos pins s σ H _ I h) λus M ⟨vs,H1,F,r1,J⟩=>?_) (by rw[hs];rfl) rfl));obtain⟨t,l,xs,rfl,J,q⟩:=J;obtain⟨u,rfl,ru⟩:=vals1 r1;cases ru;obtain⟨W,_,p1⟩:=wQ F J;refine zP p1 λh' U N k=>?_
 refine wpAny_pyIter_enum U ?_;have D:M.heap.objs.size+1≠M.heap.objs.size:=by lia
 refine⟨_,[_,_],_,_,H1,rfl,F.kept (t':=M.toks) k,A3 t D,⟨⟨_,U⟩,N⟩,λc G=>F.fpOk ?_ (F.hok.fresh ?_),q⟩
 ·simp only[T9,UA,or_false]at G
  rcases G with rfl|rfl <;> lia
 ·simp only[T9,UA,or_false]at G
  rcases G with rfl|rfl <;> lia
end My
namespace P
open PySem PySem.Spec PyProof.Rows L2
noncomputable def gM:Nat->List D->List D
 | _,[]=>[]
 | k,x::xs=>.tup [.int (k:Int),x]::gM (k+1) xs
def zA(f:Lv):Lv:=λρ=>(f ρ).bind λds=>match ds with
 | [a]=>(qH a).map (gM 0)
 | _=>none
theorem j3:∀ {xs:List D} {k i:Nat} {d:D},(gM k xs)[i]?=some d->∃x,xs[i]?=some x/\d=.tup [.int ((k+i:Nat):Int),x]
 | [],k,i,d,h=>by simp[gM]at h
 | x::xs,k,0,d,h=>by simp[gM]at h;exact⟨x,rfl,h.symm⟩
 | x::xs,k,i+1,d,h=>by
  obtain⟨y,B,q⟩:=j3 (xs:=xs) (k:=k+1) (i:=i) (by simpa[gM]using h);exact⟨y,by simpa using B,by rw[q];congr 4;lia⟩
theorem pP:∀(xs:List D) (k:Nat),(gM k xs).length=xs.length
 | [],_=>rfl
 | x::xs,k=>by simp[gM,pP xs]
theorem B3{J}(hg:Gl X "enumerate")(hm:X.mg "enumerate" = none)(ha:vC X O [a] f)(hs:S0 [a] X.env=[(false,eval a X.env)]:=by rfl) :
  PDI X O (.Tuple elts J tp) (.Call (.Name "enumerate" p) [a] [] pos) (zA f):=PI.mono (My.HK hg hm ha hs) λσ H R ⟨H0,A0,A,E,ρ,items,st,e,q⟩=>by
 obtain⟨ds,Y,e⟩:=bind_some e;refine⟨H0,A0,A,E,ρ,ds,st,Y,λvs H1 J r1=>?_⟩;split at e
 case h_2=>cases e
 rename_i da;obtain⟨xs,e2,rfl⟩:=map_some e;obtain⟨v,rfl,U⟩:=r1.one;obtain⟨t1,G,us,rfl,q1,_,k1⟩:=FU (K:=X.K) e2 U;refine⟨t1,G,us,rfl,q1,q _ H1 [.rep da (.ref G)] J (λp hp=>?_) ?_⟩
 ·rw[List.mem_singleton.mp hp];exact U
 ·intro A' H' lv hE i
  have a1:Rep A' H' da (.ref G):=hE (.rep da (.ref G)) (TK ..);obtain⟨B,M,F⟩:=k1 A' H' a1;refine⟨λhi=>⟨B,M,by rw[F.length];rw[pP]at hi;exact hi⟩,λd hd=>?_⟩;obtain⟨x,ex,rfl⟩:=j3 hd;obtain⟨u,W,ru⟩:=F.get' ex;refine⟨⟨B,M,(List.getElem?_eq_some_iff.mp W).1⟩,λx' H2 ⟨p,u',e4,n,e5,e6⟩=>?_⟩;subst e4 e5;have N:=e6 B M;rw[W]at N;cases N;rw[Nat.zero_add];exact⟨Ext.new n,.tup aM (.cons (.int _) (.cons (ru.ext (Ext.new n)) .nil))⟩
@[simp] theorem q_enum:zA f ρ=(f ρ).bind λds=>match ds with
 | [a]=>(qH a).map (gM 0)
 | _=>none:=rfl
end P
namespace P
open L2
structure Ro where
 j:Int
 k:Int
 a:Int
 b:Int
 p:Int
noncomputable def fl{α:Type}(h:Nat->Ro->List α):Nat->List Ro->List α
 | _,[]=>[]
 | m,r::rs=>h m r++fl h (m+1) rs
noncomputable def sg(q:Nat->Ro->Int):Nat->List Ro->Int
 | _,[]=>0
 | m,r::rs=>q m r+sg q (m+1) rs
end P
namespace P
open PySem PySem.Spec PyProof.Rows L2
theorem gT{n:Nat}(h:n<=1000000):cK [.int (n:Int)]=some (bL 0 1 n):=by
 show(if lJ (n:Int)then _ else _)=_;rw[if_pos (by simp only[lJ,UF,decide_eq_true_eq];lia)];simp
theorem LN(h:aC k ρ=some (.lst l))(q:f ρ=some d)(hz:bA l.length=true):sQ k f ρ=some (.nx (ρ.set k (some (.lst (l++[d]))))):=by
 rw[q_app,h];show((f ρ).bind λd=>if bA l.length then _ else none)=_;rw[q];show(if bA l.length then _ else none)=_;rw[if_pos hz]
theorem v6(h0:0<=y)(h:y<=1000000):cK [.int y]=some (bL 0 1 y.toNat):=by
 show(if lJ y then _ else _)=_;rw[if_pos (by simp only[lJ,UF,decide_eq_true_eq];lia)]
theorem zI(B:1<=c)(q:c<1000)(J:0<=a)(F:a<=1000)(M:0<=b)(G:b<=1000):∃m:Nat,lQ [.int a,.int b,.int c]=some (bL a c m)/\∀i:Nat,i<m->a+(i:Int)*c<b:=
 ⟨My.rsz a b c, by
  show(if c≠0/\c.natAbs<1000/\W8 a b c=true then some (bL a c (My.rsz a b c))else none)=_;rw[if_pos ⟨by lia,by lia,My.zL B (by lia) (by lia) (by lia) (by lia) (by lia)⟩],λi hi=>LV (by lia) hi⟩
noncomputable def dY(r:Ro):D:=.tup [.int r.j,.int r.k,.int r.a,.int r.b,.int r.p]
end P
namespace My
open PySem PySem.Spec PyProof.Rows L2
noncomputable def PN(a:Bool):String:=if a=true then "str_ascii_iterator" else "str_iterator"
noncomputable def RY(x:Str):It:=⟨λi H=>i<x.cps.size,λi H y H'=>H'=H/\∃c,x.cps[i]?=some c/\y=.str ⟨#[c]⟩,λi H=>x.cps.size<=i⟩
theorem B4{P:S6}{w:World}{K:S2}{tg:Expr}(a:Bool)(x:Str)(t:Tok)(it:Addr):Turn P w K tg (RY x) [it] it (λi h=>h.IsStrIter it (PN a) x t i) where
 mem:=by simp
 obj:=λi h st b q=>by
  have e:b=it:=by simpa using q
  subst e;obtain⟨o,e,c,d⟩:=st;exact⟨o,e,λv z=>by rw[d]at z;cases z⟩
 keep:=λi h h' st k=>let ⟨o,ho,r⟩:=st;⟨o,k it (by simp) o ho,r⟩
 item:=by
  intro X hP hw hK hc i pins s σ H E I J st W;subst hP hw hK;obtain⟨f0,M,f2,G,N,U⟩:=J it (by simp);have hi:i<x.cps.size:=W;have F:x.cps[i]?=some x.cps[i]:=by simp[hi]
  cases a with
  | true=>
   refine wpAny_pyNext_ascii_item st F λh' B sb=>?_
   have Y:Inv X pins σ H {s with heap:=h',toks:=s.toks+1}:=I.turned (t':=s.toks+1) (λb o q e=>(sb.2 b q).trans e) f0 M G N U;obtain⟨o,e,c,d⟩:=id B;exact⟨_,rfl,oK (s:={s with heap:=h',toks:=s.toks+1}) e c d (by decide) ⟨.str ⟨#[x.cps[i]]⟩,H,Y,⟨_,rfl⟩,⟨rfl,_,F,rfl⟩,B,λb q=>(J b q).1⟩⟩
  | false=>
   refine wpAny_pyNext_wide_item st F λh' B sb=>?_
   have Y:Inv X pins σ H {s with heap:=h',toks:=s.toks+1}:=I.turned (t':=s.toks+1) (λb o q e=>(sb.2 b q).trans e) f0 M G N U;obtain⟨o,e,c,d⟩:=id B;exact⟨_,rfl,oK (s:={s with heap:=h',toks:=s.toks+1}) e c d (by decide) ⟨.str ⟨#[x.cps[i]]⟩,H,Y,⟨_,rfl⟩,⟨rfl,_,F,rfl⟩,B,λb q=>(J b q).1⟩⟩
 done:=by
  intro X hP hw hK hc i pins s σ H E I J st W;subst hP hw hK;obtain⟨f0,M,f2,G,N,U⟩:=J it (by simp);have hi:x.cps.size<=i:=W;have F:x.cps[i]?=none:=by simp[hi]
  cases a with
  | true=>exact wpAny_pyNext_ascii_end (I.ok.hd hc) st F λh' eb=>⟨rfl,I.turned (t':=s.toks) (λb o q e=>eb b o q e) f0 M G N U⟩
  | false=>exact wpAny_pyNext_wide_end (I.ok.hd hc) st F λh' eb=>⟨rfl,I.turned (t':=s.toks) (λb o q e=>eb b o q e) f0 M G N U⟩
 self:=λ_ _ _ _ _ st h=>by
  cases a with
  | true=>exact wpAny_pyIter_striter_ascii st h
  | false=>exact wpAny_pyIter_striter_wide st h
def RS(tl:TE):TI:=λσ H R=>tl σ H λx H1=>∃y,x=.str y/\R (RY y) H1
section
variable {X:Cx}{tg:Expr}
theorem K0{l:Expr}{tl:TE}(M:PE X l tl):PI X tg l (RS tl):=by
 intro pins s σ H R I h;refine bS (M pins s σ H _ I h) λv B ⟨x,H1,F,J,G⟩=>?_
 obtain⟨y,rfl,q⟩:=G;obtain⟨t,rfl⟩:=J;have fin:∀a:Bool,PIE X pins σ tg R (.ref B.heap.objs.size) {B with heap:=B.heap.push {cls:=.type (PN a),data:=.fields #[.str y t,.int 0 0]} }:=λa=>by
  refine⟨B.heap.objs.size,[B.heap.objs.size],_,_,H1,rfl,F.kept (t':=B.toks) λb o e=>TC _ e,B4 a y t _,⟨_,TV _ rfl,rfl,rfl⟩,λb N=>?_,q⟩;have e:b=B.heap.objs.size:=by simpa using N
  subst e;exact F.fpOk (TF _) (F.hok.fresh (TF _))
 cases ha:y.cps.all (·<128)
 ·exact wpAny_pyIter_wide ha (fin false)
 ·exact wpAny_pyIter_ascii ha (fin true)
theorem AA:OpR X (TJ .LtE) (λx y H Q=>∃i j,x=.str i/\y=.str j/\Q (.bl (!decide (j.cps.toList<i.cps.toList))) H):=by
 intro pins s σ H x y v u Q I F B h;obtain⟨i,j,rfl,rfl,q⟩:=h;obtain⟨t,rfl⟩:=F;obtain⟨t',rfl⟩:=B;exact PySem.P.le_str ⟨.bl _,H,I,rfl,q⟩
theorem K7{bs:List Bool}{q:List Value}(r:Vals (bs.map V.bl) q):TruthOf P w A (λi v=>q.toArray[i]?=some v) (λi=>(bs[i]?).getD false):=by
 intro i v s Q E B F;have B:q[i]?=some v:=by simpa using B
 have J:=r.length;rw[S5]at J;have hi:i<bs.length:=by rw[J];exact(List.getElem?_eq_some_iff.mp B).1
 have e:(bs.map V.bl)[i]?=some (.bl bs[i]):=by simp[hi]
 obtain⟨u,G,M⟩:=r.get e;rw[B]at G;cases G;cases M;have:(bs[i]?).getD false=bs[i]:=by simp[hi]
 dsimp only at F;rw[this]at F;exact VB F
theorem range_all(bs:List Bool):(UZ bs.length).all (λi=>(bs[i]?).getD false)=bs.all id:=by
 rw[XW,X3,X3];constructor
 ·intro h b q
  obtain⟨i,hi,rfl⟩:=List.getElem_of_mem q;have:=h i (List.mem_range.mpr hi);simpa[hi]using this
 ·intro h i hi
  have hi:=List.mem_range.mp hi;simpa[hi]using h bs[i] (zaq hi)
theorem zU(hc:X.calm=true):CallR X (.builtin "all") (λxs H Q=>∃(p:Addr) (bs:List Bool),xs=[.ref p]/\SqL X.K H p (bs.map V.bl)/\Q (.bl (bs.all id)) H):=by
 intro pins s σ H xs us Q I r h;obtain⟨p,bs,rfl,W,q⟩:=h;obtain⟨u,rfl,rx⟩:=vals1 r;cases rx;obtain⟨F,M,Y,hz⟩:=I.list W;have J:s.heap.IsList p F.toArray:=Y.isList;obtain⟨o,N,aa,n,hd⟩:=id J;have G:p≠s.heap.objs.size:=TY (S8 N);refine call_all_walk (wpAny_pyIter_list J ?_);refine⟨s.heap.objs.size,_,_,_,_,_,_,rfl,Walks.list (prog:=X.prog) (w:=X.w) (A:=X.A.in1) (I.ok.hd hc) s.heap.objs.size p G F.toArray,⟨⟨_,TV _ rfl,rfl,rfl⟩,J.at λo e=>TC _ e⟩,K7 M,λh' tk hm=>?_⟩;have U:∀b o,s.heap.get? b=some o->h'.get? b=some o:=λb o e=>hm b o (λhb=>absurd (S8 e) ((List.mem_singleton.mp hb) ▸ U7 _)) (TC _ e)
 have B:=M.length;rw[S5]at B;refine⟨.bl (bs.all id),H,I.kept (t':=tk) U,?_,q⟩;rw[TL,<- B,range_all];rfl
theorem uL:∀ {ss:List Str} {its:List Value},Vals (ss.map V.str) its->StrsAre its ss
 | [],_,.nil=>.nil
 | x::ss,_,.cons r t=>by
  obtain⟨k,rfl⟩:=r;exact .cons x k (uL t)
def rJoin(K:S2):V->List V->Hp->VK->Prop:=λx vs H Q=>∃(sep:Str) (p:Addr) (ss:List Str),x=.str sep/\vs=[.ref p]/\SqL K H p (ss.map V.str)/\(ss.map (·.length)).sum+ss.length*sep.length<=16777216/\Q (.str (Txt.join sep ss)) H
theorem jL:NH X "str.join" (rJoin X.K):=by
 intro pins s σ H x vs v W Q I N U h;obtain⟨sep,p,ss,rfl,rfl,J,hz,q⟩:=h;obtain⟨t,rfl⟩:=N;obtain⟨u,rfl,G⟩:=U.one;cases G;obtain⟨B,F,M,_⟩:=I.list J;exact join_list (items:=B.toArray) M.isList (by simpa using uL F) hz λt' k=>⟨.str (Txt.join sep ss),H,I.kept (t':=k) λ_ _ e=>e,⟨_,rfl⟩,q⟩
end
end My
namespace P
open PySem PySem.Spec PyProof.Rows L2
section
variable {X:Cx}{O O':List Nat}{L:Lp}
noncomputable def EX:List D->Option (List Bool)
 | []=>some []
 | .bl b::l=>(EX l).map (b::·)
 | _=>none
theorem tY:∀ {ds:List D} {ns:List Bool} {vs:List V},EX ds=some ns->RepL A H ds vs->vs=ns.map V.bl
 | [],_,_,e,.nil=>by cases e;rfl
 | d::ds,ns,_,e,.cons h t=>by
  cases d with
  | bl b=>
   obtain⟨m,q,rfl⟩:=map_some e;cases RepB.bl_inv (.of h);rw[tY q t];rfl
  | _=>cases e
theorem uK:∀bs:List Bool,EX (bs.map .bl)=some bs
 | []=>rfl
 | b::bs=>by rw[TB,EX,uK bs];rfl
def xB:List D->Option D
 | [.lst l]=>(EX l).map λbs=>.bl (bs.all id)
 | _=>none
theorem wD(G:X.calm=true):eV X (.builtin "all") xB:=CallR.mono (My.zU G) <| by
 rintro xs H Q ⟨A,ds,d,N,r,e,q⟩;unfold xB at e;split at e
 ·obtain⟨bs,B,rfl⟩:=map_some e
  obtain⟨v,rfl,J⟩:=r.one;obtain⟨a,M,rfl,h1,F⟩:=J.lst_inv;rw[tY B F]at h1;exact⟨a,bs,rfl,.inl h1,q _ H (Ext.refl _ _) (.bl _)⟩
 ·cases e
@[simp] theorem q_all{bs:List Bool}:xB [.lst (bs.map .bl)]=some (.bl (bs.all id)):=by unfold xB;simp only[uK];rfl
noncomputable def E3:List D->Option (List Str)
 | []=>some []
 | .str b::l=>(E3 l).map (b::·)
 | _=>none
theorem uJ:∀ {ds:List D} {ns:List Str} {vs:List V},E3 ds=some ns->RepL A H ds vs->vs=ns.map V.str
 | [],_,_,e,.nil=>by cases e;rfl
 | d::ds,ns,_,e,.cons h t=>by
  cases d with
  | str b=>
   obtain⟨m,q,rfl⟩:=map_some e;cases RepB.str_inv (.of h);rw[uJ q t];rfl
  | _=>cases e
theorem pJ:∀bs:List Str,E3 (bs.map .str)=some bs
 | []=>rfl
 | b::bs=>by rw[TB,E3,pJ bs];rfl
def gO:D->D->Option D
 | .str sep,.lst l=>(E3 l).bind λss=>if(ss.map (·.length)).sum+ss.length*sep.length<=16777216 then some (.str (Txt.join sep ss))else none
 | _,_=>none
theorem jN(ho:PB X O o fo)(G:PB X O e fe)(M:∀ {to:TE} {t:TA},PE X o to->PA X [e] t->PE X (.Call (.Attribute o "join" apos) [e] [] cpos) (NG X.K "str" (My.rJoin X.K) to t))(hs:S0 [e] X.env=(false,eval e X.env)::S0 [] X.env:=by rfl):PD X O (.Call (.Attribute o "join" apos) [e] [] cpos) (aT gO fo fe):=
 PE.mono (M ho (nX G rG hs)) <| by
  rintro σ H Q ⟨H0,A0,A,E,ρ,d,st,e,q⟩;obtain⟨x,ex,e⟩:=bind_some e;obtain⟨y,J,e⟩:=bind_some e;refine⟨H0,A0,A,E,ρ,x,st,ex,λv H1 F N=>?_⟩;unfold gO at e;split at e
  ·rename_i sep l _
   obtain⟨ss,es,e⟩:=bind_some e;by_cases hz:(ss.map (·.length)).sum+ss.length*sep.length<=16777216
   ·rw[if_pos hz]at e
    cases e;cases N.str_inv;refine⟨rfl,H0,A0,A,E,ρ,[.lst l],st.mono F,by unfold aE a6;rw[J];rfl,λvs H2 W Y=>?_⟩;obtain⟨w,rfl,B⟩:=Y.one;obtain⟨p,us,rfl,h1,U⟩:=B.lst_inv;rw[uJ es U]at h1;exact⟨sep,p,ss,rfl,rfl,.inl h1,hz,q _ H2 (F.trans W) (.str _)⟩
   ·rw[if_neg hz]at e;cases e
  ·cases e
theorem KP(h:(ss.map (·.length)).sum+ss.length*sep.length<=16777216):gO (.str sep) (.lst (ss.map .str))=some (.str (Txt.join sep ss)):=by
 unfold gO;simp only[pJ,Option.bind];rw[if_pos h]
noncomputable def u7:D->D->Option D
 | .int i,.int j=>some (.bl (decide (i<=j)))
 | .str i,.str j=>some (.bl (!decide (j.cps.toList<i.cps.toList)))
 | _,_=>none
theorem J4:fR X (TJ .LtE) u7:=OpR.mono (OpR.or OG My.AA) <| by
 rintro x y H Q ⟨A,dx,G,d,J,F,B,e,q⟩;unfold u7 at e;split at e
 ·cases e
  cases F.int_inv;cases B.int_inv;exact .inl ⟨_,_,rfl,rfl,q _ H (Ext.refl _ _) (.bl _)⟩
 ·cases e
  cases F.str_inv;cases B.str_inv;exact .inr ⟨_,_,rfl,rfl,q _ H (Ext.refl _ _) (.bl _)⟩
 ·cases e
@[simp] theorem q_leAI:u7 (.int i) (.int j)=some (.bl (decide (i<=j))):=rfl
@[simp] theorem q_leAS:u7 (.str i) (.str j)=some (.bl (!decide (j.cps.toList<i.cps.toList))):=rfl
def sL(x y:D):Option D:=match x,y with
 | .str i,.str j=>some (.bl (!(XX j i 0 j.length 1).isEmpty))
 | x,y=>NJ x y
def jO(x y:D):Option D:=match x,y with
 | .str i,.str j=>some (.bl (!(!(XX j i 0 j.length 1).isEmpty)))
 | x,y=>sI x y
theorem DF(J:X.A.units+64<cLine):fR X (TJ .In) sL:=OpR.mono (OpR.or (OT J) z5) <| by
 rintro x y H Q ⟨A,dx,M,d,G,F,B,e,q⟩;unfold sL at e;split at e
 ·cases e
  cases F.str_inv;cases B.str_inv;exact .inr ⟨_,_,rfl,rfl,q _ H (Ext.refl _ _) (.bl _)⟩
 ·exact .inl ⟨A,_,_,d,G,F,B,e,q⟩
theorem zX(J:X.A.units+64<cLine):fR X (TJ .NotIn) jO:=OpR.mono (OpR.or (BY J) qQ) <| by
 rintro x y H Q ⟨A,dx,M,d,G,F,B,e,q⟩;unfold jO at e;split at e
 ·cases e
  cases F.str_inv;cases B.str_inv;exact .inr ⟨_,_,rfl,rfl,q _ H (Ext.refl _ _) (.bl _)⟩
 ·exact .inl ⟨A,_,_,d,G,F,B,e,q⟩
noncomputable def signs(x:Str):List D:=x.cps.toList.map λc=>.str ⟨#[c]⟩
theorem LR:xA (My.RY x) [] (signs x):=by
 intro A H N U i;have B:(signs x).length=x.cps.size:=by simp[signs]
 refine⟨λhi=>by rw[B]at hi;exact hi,λd q=>?_⟩;have hi:i<x.cps.size:=by rw[<- B];exact(List.getElem?_eq_some_iff.mp q).1
 refine⟨hi,λy H' ⟨e,c,J,F⟩=>?_⟩;subst e F;have:d=.str ⟨#[c]⟩:=by
  unfold signs at q;rw[TX]at q;obtain⟨M,G,rfl⟩:=map_some q;have:x.cps[i]?=some M:=by rw[<- XM];exact G
  rw[J]at this;cases this;rfl
 subst this;exact⟨Ext.refl _ _,.str _⟩
def fP(f:Ev):Lv:=λρ=>(f ρ).bind λd=>match d with
 | .lst l=>some l
 | .tup l=>some l
 | .dT l=>some (l.map λp=>.tup (p.1.map A5))
 | .str x=>some (signs x)
 | _=>none
@[simp] theorem q_lSeqA:fP f ρ=(f ρ).bind λd=>match d with
 | .lst l=>some l
 | .tup l=>some l
 | .dT l=>some (l.map λp=>.tup (p.1.map A5))
 | .str x=>some (signs x)
 | _=>none:=rfl
theorem tZ(h:PD X O e f):PDI X O tg e (fP f):=PI.mono (PI.or (FX h) (My.K0 h)) <| by
 rintro σ H R ⟨H0,A0,A,E,ρ,items,st,e,q⟩;obtain⟨d,B,e⟩:=bind_some e;cases d with
 | str x=>
  cases e;refine .inr ⟨H0,A0,A,E,ρ,_,st,B,λv H1 F J=>?_⟩;cases RepB.str_inv (.of J);exact⟨x,rfl,q _ H1 [] F (λp G=>nomatch G) LR⟩
 | lst l=>exact .inl ⟨H0,A0,A,E,ρ,items,st,by unfold E2;rw[B];exact e,q⟩
 | tup l=>exact .inl ⟨H0,A0,A,E,ρ,items,st,by unfold E2;rw[B];exact e,q⟩
 | dT l=>exact .inl ⟨H0,A0,A,E,ρ,items,st,by unfold E2;rw[B];exact e,q⟩
 | _=>cases e
end
structure GTup(K:S2)(mg:Str->Option Value)(x:Str)(ss:List Str):Prop where
 ex:∃a,mg x=some (.ref a)/\∃(o:Obj) (its:Array Value) (n:Nat),K.lookup a=some o/\o.cls=.type "tuple" /\ o.data=.seq its n/\its.size<=S7/\Vals (ss.map V.str) its.toList
structure GInt(mg:Str->Option Value)(x:Str)(i:Int):Prop where
 ex:∃t,mg x=some (.int i t)
section
variable {X:Cx}{O:List Nat}
theorem gZ(g:GInt X.mg x i)(B:Gl X x)(F:(x == ("__debug__" : Str))=false:=by decide):PD X O (.Name x p) (eC (.int i)):=by
 obtain⟨t,e⟩:=g.ex;exact PE.mono (rH (v:=.int i) B e ⟨t,rfl⟩ F) λσ H Q ⟨H0,A0,A,E,ρ,d,st,e,q⟩=>by cases e;exact q _ H (Ext.refl _ _) (.int _)
noncomputable def IF(neg:Bool)(ss:List Str):D->Option D
 | .str s=>some (.bl (if neg then !ss.contains s else ss.contains s))
 | _=>none
theorem uH(s:Str):∀ss:List Str,inV (.str s) (ss.map V.str)=ss.contains s
 | []=>rfl
 | y::ss=>by
  have ih:=uH s ss;unfold inV at ih ⊢;rw[TB,VF,ih,List.contains_cons];congr 1;show decide (y=s)=(s == y);by_cases h:y=s
  ·subst h;simp
  ·have:¬ s=y:=λz=>h z.symm
   simp[h,this]
theorem pA:∀ss:List Str,(ss.map V.str).all jQ=true
 | []=>rfl
 | y::ss=>by rw[TB,WS,pA ss];rfl
theorem F2{neg:Bool}{ss:List Str}{f:Ev}{a:Addr}{K:S2}(B:∃(o:Obj) (its:Array Value) (n:Nat),K.lookup a=some o/\o.cls=.type "tuple" /\ o.data=.seq its n/\its.size<=S7/\Vals (ss.map V.str) its.toList){σ:L2.St}{H:Hp}{Q:VK}(h:tD Rep O (qF (IF neg ss) f) σ H Q):NF (R4 K neg) (tD RepB O f) (tC (.ref a)) σ H Q:=by
 obtain⟨H0,A0,A,E,ρ,d,st,e,q⟩:=h;obtain⟨x,ex,e⟩:=bind_some e;refine⟨H0,A0,A,E,ρ,x,st,ex,λv H1 F G=>?_⟩;cases x with
 | str s=>
  cases e;cases G.str_inv;refine⟨a,ss.map V.str,rfl,.inr (.inr B),rfl,pA ss,?_⟩;rw[uH];exact q _ H1 F (.bl _)
 | _=>cases e
theorem HU(g:GTup X.K X.mg x ss)(q:Gl X x)(B:PB X O e f)(J:(x == ("__debug__" : Str))=false:=by decide)(M:VT .In (.Name x p)=false:=by rfl):oP X O (.Compare e [.In] [.Name x p] pos) (eN (qF (IF false ss) f)):=by
 obtain⟨a,F,G⟩:=g.ex;exact PT.mono (xV zZ B (rH (v:=.ref a) q F rfl J) M) λσ H Q h=>F2 G (gH h)
end
@[simp] theorem q_inG:IF neg ss (.str s)=some (.bl (if neg then !ss.contains s else ss.contains s)):=rfl
@[simp] theorem q_eqS:jW (.str a) (.str b)=some (.bl (decide (a=b))):=by
 unfold jW FA;rw[if_pos (.inl rfl)];by_cases h:a=b
 ·subst h;simp
 ·have h2:¬ D.str a=D.str b:=λz=>h (by injection z)
  simp[h]
@[simp] theorem q_neS:FB (.str a) (.str b)=some (.bl (!decide (a=b))):=by
 unfold FB FA;rw[if_pos (.inl rfl)];by_cases h:a=b
 ·subst h;simp
 ·have h2:¬ D.str a=D.str b:=λz=>h (by injection z)
  simp[h]
theorem PD.pe(h:PD X O e f):PE X e (tD Rep O f):=h
noncomputable def isStar:Expr->Bool
 | .Starred ..=>true
 | _=>false
theorem cH(h:isStar e=false):S0 (e::es) env=(false,eval e env)::S0 es env:=by
 cases e <;> first|rfl|cases h
theorem gW:∀ {es:List Expr},(es.all λe=>!isStar e)=true->(TU pos (S0 es env)).any (·.1)=false
 | [],_=>by simp[S0,TU]
 | e::es,h=>by
  rw[WS,UF]at h;have q:isStar e=false:=by cases z:isStar e;rfl;rw[z]at h;exact absurd h.1 (by decide)
  have ih:=gW (pos:=pos) (env:=env) (es:=es) h.2;rw[cH q];simp only[TU,TB,VF,Bool.false_or]at ih ⊢;exact ih
end P
namespace My
open PySem PySem.Spec PyProof.Rows L2 PySem.SeqAt
noncomputable def ND(val:Nat->Int):Nat->Nat->Int->Int
 | 0,_,m=>m
 | k+1,j,m=>ND val k (j+1) (if val j>m then val j else m)
section
variable {prog:S6}{w:World}{A:TH}{R:Result->SZ->Prop}{I S:Addr}{fp wr:List Addr}{n:Nat}{P:Nat->Value->Prop}{St:Nat->Heap->Prop}{kw:List (Str×Value)}
theorem j4(W:Walks prog w A.in1 I fp wr n P St)(val:Nat->Int)(hv:∀j v,P j v->∃t,v=.int (val j) t)(U:S∉fp):∀(k j:Nat) (s:SZ) (m:Int) (t:Tok) (c:Nat),n-j=k->j<=n->St j s.heap->
  s.heap.get? S=some {cls:=.type "list",dict:=none,data:=.seq #[.int m t,.int m t] c,slots:=#[]}->
  (∀t' h' tk,(∀b o,b∉wr->b≠S->s.heap.get? b=some o->h'.get? b=some o)->R (.ok (.ret (.int (ND val k j m) t'))) {s with heap:=h',toks:=tk})->
  VD (model prog w) A (.builtin "max.loop" ⟨[.ref I,.none,.ref S],kw⟩) R s
 | k,j,s,m,t,c,hk,hj,st,gS,fin=>by
  have nw:S∉wr:=λz=>U (W.sub _ z)
  have nm:(V1 "max" ++ V1 ".loop" : String) = "max.loop" := by decide
  refine XH PySem.F.entry_max_loop ?_;rw[XI XN _];show wpAny _ A.in1 (seqItems? (.ref S) >>= λ_=>_) _ _ s;refine SY (ZO gS rfl ?_);show wpAny _ A.in1 (tryCatch (UN (.ref I)) _ >>= λ_=>_) _ _ s
  match k,hk,fin with
  | 0,hk,fin=>
   have e:j=n:=by lia
   refine SY (ZR (W.done s _ _ (e ▸ st) λh1 tk same=>?_));have G:=same S _ nw gS;show wpAny _ A.in1 (YA S (λ_=>#[]) >>= λ_=>_) _ _ _;refine SY (XJ G rfl (SY (XG (S1 ?_))));exact fin t _ tk λb o nb B J=>(VZ _ _ (T3 B)).trans (same b o nb J)
  | k+1,hk,fin=>
   have lt:j<n:=by lia
   refine SY (ZR (W.item j s _ _ lt st λv h1 tk pv N same=>?_));have G:=same S _ nw gS;obtain⟨u,rfl⟩:=hv j v pv;show wpAny _ A.in1 (tryCatch (holding [.int (val j) u,.int (val j) u] (richCompare .Gt (.int (val j) u) (.int m t) >>= λ_=>_)) _ >>= λ_=>_) _ _ _;refine SY (ZR (U8 (SY ?_)));refine richCompare_gives (op:=.Gt) (typeIs_int _ _ u) (typeIs_int _ _ t) PySem.F.slot_int_gt PySem.F.entry_int_gt (PySem.F.args_int_gt_2 _ _) (gives_int_gt _ _ u t) (λz=>nomatch z) ?_;refine SY (U8 (VB ?_));refine SY (XG (S1 ?_));by_cases Y:val j>m
   ·rw[decide_eq_true Y]
    simp only[if_true];refine SY (XJ G rfl (SY (XG ?_)));rw[nm];refine S1 ⟨WK XN _,j4 W val hv U k (j+1) _ (val j) u _ (by lia) lt (W.frame _ _ _ N λb bf o J=>?_) (WI _ G rfl) λt' h2 M q=>?_⟩
    ·exact(VZ _ _ (λz:S=b=>U (z ▸ bf))).trans J
    ·have:=fin t' h2 M λb o nb B J=>q b o nb B ((VZ _ _ (T3 B)).trans (same b o nb J))
     rw[ND,if_pos Y]at this;exact this
   ·rw[decide_eq_false Y]
    simp only[WA,if_false];refine SY (XG ?_);rw[nm];refine S1 ⟨WK XN _,j4 W val hv U k (j+1) _ m t c (by lia) lt N G λt' h2 M q=>?_⟩;have:=fin t' h2 M λb o nb B J=>q b o nb B (same b o nb J)
    rw[ND,if_neg Y]at this;exact this
end
noncomputable def wZ(d:Int):List Int->Int
 | []=>d
 | x::xs=>xs.foldl (λm y=>if y>m then y else m) x
theorem uS(ns:List Int):∀(k j:Nat) (m:Int),ns.length-j=k->ND (λi=>(ns[i]?).getD 0) k j m=(ns.drop j).foldl (λm y=>if y>m then y else m) m
 | 0,j,m,h=>by
  rw[List.drop_eq_nil_iff.mpr (by lia)];rfl
 | k+1,j,m,h=>by
  have q:j<ns.length:=by lia
  rw[ND,ZP q,ZL,uS ns k (j+1) _ (by lia)];simp[q]
section
variable {X:Cx}
end
end My
namespace P
open PySem PySem.Spec PyProof.Rows L2
section
variable {X:Cx}{O:List Nat}
end
end P
namespace My
open PySem PySem.Spec PyProof.Rows L2 PySem.SeqAt
section
variable {prog:S6}{w:World}{A:TH}{E:Value->SZ->Prop}{s:SZ}
end
section
variable {X:Cx}{pins:List (Addr×Obj)}{σ:L2.St}{H:Hp}{s:SZ}{a:Addr}{y v:V}{u r:Value}{A:TH}{E:Value->SZ->Prop}
end
section
variable {X:Cx}{pins:List (Addr×Obj)}{σ:L2.St}{A:TH}{R:Result->SZ->Prop}{it d:Addr}{fp:List Addr}{n:Nat}{P:Nat->Value->Prop}{St:Nat->Heap->Prop}{H2:Hp}
end
section
variable {X:Cx}
end
section
variable {X:Cx}
end
end My
namespace P
open PySem PySem.Spec PyProof.Rows L2
section
variable {X:Cx}{A:Av}{H:Hp}
end
end P
namespace My
open PySem PySem.Spec PyProof.Rows L2 PySem.SeqAt
section
variable {X:Cx}
end
end My
namespace P
open PySem PySem.Spec PyProof.Rows L2
section
variable {X:Cx}{O:List Nat}
end
section
variable {X:Cx}{O:List Nat}{e:Expr}{es:List Expr}
theorem vA(q:PD X O e f)(B:vC X O es g)(hs:isStar e=false:=by rfl):vC X O (e::es) (aE f g):=CM q B (cH hs)
theorem BG(q:PB X O e f)(B:lM X O es g)(hs:isStar e=false:=by rfl):lM X O (e::es) (aE f g):=nX q B (cH hs)
theorem lc(h:Len g n):Len (aE f g) (n+1):=B6 h
theorem l0:Len a6 0:=HC
variable {x:Str}{id T:String}{g:List D->Option D}{f:Lv}{p pos:Pos}
theorem cB(J:eV X (.builtin id) g)(N:X.mg x=none)(G:TZ x=some (.builtin id))(F:lM X O (e::es) f)(B:Gl X x:=by rfl)(M:x ≠ "__name__" := by decide)(q:(x == ("__debug__" : Str))=false:=by decide)(hs:isStar e=false:=by rfl)(U:(es.all λe=>!isStar e)=true:=by rfl) :
  PD X O (.Call (.Name x p) (e::es) [] pos) (aP g f):=DA J B N G F M q (cH hs) (gW U)
theorem IR(J:eV X (.type T) g)(N:X.mg x=none)(G:TZ x=some (.type T))(F:lM X O (e::es) f)(B:Gl X x:=by rfl)(M:x ≠ "__name__" := by decide)(q:(x == ("__debug__" : Str))=false:=by decide)(hs:isStar e=false:=by rfl)(U:(es.all λe=>!isStar e)=true:=by rfl) :
  PD X O (.Call (.Name x p) (e::es) [] pos) (aP g f):=zV J B N G F M q (cH hs) (gW U)
theorem fB(J:qI X (.builtin id) g)(N:X.mg x=none)(G:TZ x=some (.builtin id))(F:lM X O (e::es) f)(B:Gl X x:=by rfl)(M:x ≠ "__name__" := by decide)(q:(x == ("__debug__" : Str))=false:=by decide)(hs:isStar e=false:=by rfl)(U:(es.all λe=>!isStar e)=true:=by rfl) :
  PF X O (.Call (.Name x p) (e::es) [] pos) (aP g f):=CG J B N G F M q (cH hs) (gW U)
theorem SD(J:qI X (.type T) g)(N:X.mg x=none)(G:TZ x=some (.type T))(F:lM X O (e::es) f)(B:Gl X x:=by rfl)(M:x ≠ "__name__" := by decide)(q:(x == ("__debug__" : Str))=false:=by decide)(hs:isStar e=false:=by rfl)(U:(es.all λe=>!isStar e)=true:=by rfl) :
  PF X O (.Call (.Name x p) (e::es) [] pos) (aP g f):=zO J B N G F M q (cH hs) (gW U)
theorem cD(O':Fn X.prog X.w X.K X.mg X.base x k ps F)(J:Room k X.A)(G:vC X O (e::es) f)(M:Len f ps.length)(B:Gl X x:=by rfl)(q:(x == ("__debug__" : Str))=false:=by decide)(hs:isStar e=false:=by rfl)(N:(es.all λe=>!isStar e)=true:=by rfl) :
  PD X O (.Call (.Name x p) (e::es) [] pos) (aP F f):=HR O' J B G M q (cH hs) (gW N)
theorem cn{L:Lp}{B O2 O3:List Nat}{st:Stmt}{q:List Stmt}{f g:Sv}(h:iY X L B st f O2)(k:c7 X L O2 q g O3):c7 X L B (st::q) (cN f g) O3:=BK h k
end
def SG(P:S6)(w:World)(K:S2)(mg:Str->Option Value)(base:Heap)(N:List Str)(x:Str)(st:Stmt)(k:Nat)(b:Sv):Prop:=
 ∀(fa:Addr) (cdv:Value) (A:TH) (outer:List Env) (s:SZ) (H:Hp) (E:XK),Room k (A.deeper (UT x (aK st) s.heap.objs.size fa cdv))->∃g,c7 (kC xC P w K mg base N x (aK st) fa cdv A outer s H E).nox ⟨[],[]⟩ [] (bP st) g []/\g=b
end P
namespace My
open PySem PySem.Spec PyProof.Rows L2 PySem.SeqAt
theorem args_max1(a:Value):argsOk "max" ⟨[a],[]⟩:=by unfold argsOk;kernel_rfl
section
variable {prog:S6}{w:World}{A:TH}{R:Result->SZ->Prop}{I S:Addr}{fp wr:List Addr}{n:Nat}{P:Nat->Value->Prop}{St:Nat->Heap->Prop}
theorem vV(W:Walks prog w A.in1 I fp wr n P St)(val:Nat->Int)(Y:∀j v,P j v->∃t,v=.int (val j) t)(J:S∉fp)(st:St 0 s.heap)
  (gS:s.heap.get? S=some {cls:=.type "list",dict:=none,data:=.seq #[] c,slots:=#[]}) (lt:0<n)
  (fin:∀t' h' tk,(∀b o,b∉wr->b≠S->s.heap.get? b=some o->h'.get? b=some o)->R (.ok (.ret (.int (ND val (n-1) 1 (val 0)) t'))) {s with heap:=h',toks:=tk}) :
  VD (model prog w) A (.builtin "max.loop" ⟨[.ref I,.none,.ref S],[]⟩) R s:=by
 have nw:S∉wr:=λz=>J (W.sub _ z)
 have nm:(V1 "max" ++ V1 ".loop" : String) = "max.loop" := by decide
 refine XH PySem.F.entry_max_loop ?_;rw[XI XN _];show wpAny _ A.in1 (seqItems? (.ref S) >>= λ_=>_) _ _ s;refine SY (ZO gS rfl ?_);show wpAny _ A.in1 (tryCatch (UN (.ref I)) _ >>= λ_=>_) _ _ s;refine SY (ZR (W.item 0 s _ _ lt st λv h1 tk pv M same=>?_));have G:=same S _ nw gS;obtain⟨u,rfl⟩:=Y 0 v pv;show wpAny _ A.in1 (YA S (λ_=>#[.int (val 0) u,.int (val 0) u]) >>= λ_=>_) _ _ _;refine SY (XJ G rfl ?_);rw[nm];refine S1 ⟨WK XN _,j4 W val Y J (n-1) 1 _ (val 0) u _ rfl lt (W.frame _ _ _ M λb bf o N=>?_) (WI _ G rfl) λt' h2 U q=>?_⟩
 ·exact(VZ _ _ (λz:S=b=>J (z ▸ bf))).trans N
 ·exact fin t' h2 U λb o nb B N=>q b o nb B ((VZ _ _ (T3 B)).trans (same b o nb N))
end
section
variable {X:Cx}
theorem vP(hc:X.calm=true)(I:Inv X pins σ H s)(hq:SqT X.K H p (ns.map V.int))(hn:ns≠[])(q:Q (.int (wZ 0 ns)) H) :
  wpAny (model X.prog X.w) X.A (call (.builtin "max") [.ref p]) (EP X pins σ Q) X.xe s:=by
 have nm:(V1 "max" ++ V1 ".loop" : String) = "max.loop" := by decide
 obtain⟨B,Y,pl,hz⟩:=I.tuple hq;have N:s.heap.IsTuple p B.toArray:=pl;obtain⟨o,U,ab,n,hd⟩:=id N;have M:p≠s.heap.objs.size:=TY (S8 U);have W:=Walks.tuple (prog:=X.prog) (w:=X.w) (A:=X.A.in1) (I.ok.hd hc) s.heap.objs.size p M B.toArray;refine kmk_tree PySem.F.kind_max PySem.F.plain_max PySem.F.entry_max (args_max1 _) ?_;show wpAny _ X.A.in1 (zaK "max" ["key", "default"] 0 ⟨[],[]⟩ >>= λ_=>_) _ _ s;refine SY (ZD (show zaK "max" ["key", "default"] 0 ⟨[],[]⟩=pure [none,none]from rfl) ?_);refine SY (S1 (SY (XT N (SY (ZK ?_ (U6 _))))));rw[nm];refine S1 ⟨WK XN _,?_⟩;have G:=Y.length;rw[S5]at G;have sz:B.toArray.size=ns.length:=by rw[TL];exact G.symm
 have keep:∀h':Heap,(∀b o,b∉[s.heap.objs.size]->b≠(s.heap.push {cls:=.type "tuple_iterator",data:=.fields #[.ref p,.int 0 0]}).objs.size->((s.heap.push {cls:=.type "tuple_iterator",data:=.fields #[.ref p,.int 0 0]}).push (T6 "list" #[] 0)).get? b=some o->h'.get? b=some o)->∀b o,s.heap.get? b=some o->h'.get? b=some o:=λh' k b o e=>by
  have lt:=S8 e;refine k b o (λz=>TY lt (List.mem_singleton.mp z)) ?_ (TC _ (TC _ e));rw[size_push'];exact TY (Nat.lt_succ_of_lt lt)
 have J:0<B.toArray.size:=by
  rw[sz];exact List.length_pos_iff.mpr hn
 refine vV W (λi=>(ns[i]?).getD 0) (λi v hP=>CZ Y (by simpa using hP)) (S:=(s.heap.push {cls:=.type "tuple_iterator",data:=.fields #[.ref p,.int 0 0]}).objs.size) ?_ ?_ (TV _ rfl) J λt' h' tk same=>?_
 ·rw[size_push']
  intro z;rcases List.mem_cons.mp z with z|z
  ·exact UG (Nat.lt_succ_self _) z
  ·exact U7 _ (W7 (Nat.lt_succ_self _) ((List.mem_singleton.mp z) ▸ S8 U))
 ·exact⟨⟨_,TC _ (TV _ rfl),rfl,rfl⟩,N.at λo e=>TC _ (TC _ e)⟩
 ·refine⟨.int (wZ 0 ns),H,I.kept (t':=tk) (keep h' same),⟨t',?_⟩,q⟩
  rw[sz];cases ns with
  | nil=>exact absurd rfl hn
  | cons x xs=>
   rw[uS (x::xs) _ 1 _ (by simp)];rfl
theorem KA(F:∀v s,¬ X.xe v s)(G:PSs X body t):PS X (.Try body (h₀::hs) [] [] pos) t:=λpins s σ H D I hw=>
 wpAny_Try_except (US (G pins s σ H D I hw) (λf B q=>by
  cases f with
  | next=>exact S1 q
  | _=>exact q) λv B z=>absurd z (F v B))
end
end My
namespace P
open PySem PySem.Spec PyProof.Rows L2
section
variable {X:Cx}{O O':List Nat}{L:Lp}
theorem rP(q:∀v s,¬ X.xe v s)(B:c7 X L O body f O'):iY X L O (.Try body (h₀::hs) [] [] pos) f O':=My.KA q B
def u5:List D->Option D
 | [.tup l]=>(fF l).bind λns=>if ns=[]then none else some (.int (My.wZ 0 ns))
 | _=>none
theorem GK(M:X.calm=true):eV X (.builtin "max") u5:=by
 intro pins s σ H xs N Q I r h;obtain⟨A,ds,d,U,J,e,q⟩:=h;unfold u5 at e;split at e
 ·rename_i l
  obtain⟨ns,B,e⟩:=bind_some e;split at e
  ·cases e
  ·rename_i hn
   cases e;obtain⟨v,rfl,h1⟩:=J.one;obtain⟨a,ys,rfl,h2,G⟩:=h1.tup_inv;rw[eZ B G]at h2;obtain⟨u,rfl,F⟩:=vals1 r;cases F;exact My.vP M I (.inl (.inl h2)) hn (q _ H (Ext.refl _ _) (.int _))
 ·cases e
@[simp] theorem q_max1:u5 [.tup (.int n::ns.map .int)]=some (.int (My.wZ 0 (n::ns))):=by
 have e:fF (.int n::ns.map .int)=some (n::ns):=lA (n::ns);show(fF (.int n::ns.map .int)).bind _=_;rw[e];rfl
end
end P
namespace My
open PySem PySem.Spec PyProof.Rows L2
def xK(r J U:R2)(ta tb tc td:TE):TE:=λσ H Q=>ta σ H λx H1=>tb σ H1 λy H2=>r x y H2 λz q=>∃k,z=.bl k /\
 (if k=true then tc σ q λB W=>J y B W λN F=>∃G,N=.bl G/\(if G=true then td σ F λu M=>U B u M Q else Q (.bl false) F)else Q (.bl false) q)
theorem zT(ho:OpR X (TJ op) r)(J:OpR X (TJ op') r')(G:OpR X (TJ op3) q)(ha:PE X a ta)(hb:PE X b tb)(hc:PE X c tc)(hd:PE X d td)
  (hm:W0 [op,op',op3] [b,c,d]=false:=by with_unfolding_all rfl):PT X (.Compare a [op,op',op3] [b,c,d] pos) (EM (xK r r' q ta tb tc td)):=by
 intro pins s σ H Q I h;refine isTrue_chain (bS (ha pins s σ H _ I h) λv s1 ⟨x,H1,I1,r1,q1⟩=>test_link (bS (hb pins s1 σ H1 _ I1 q1) λu s2 ⟨y,H2,I2,U,q2⟩=>
  bS (ho pins s2 σ H2 x y v u _ I2 r1 U q2) λd s3 ⟨z,Y,M,q,k,e,q3⟩=>?_)) hm
 subst e;cases q;refine VB ?_;cases k with
 | false=>
  obtain⟨k',F,B⟩:=q3;cases F;exact ite_ff ⟨Y,M,B⟩
 | true=>
  refine ite_tt (test_link (bS (hc pins s3 σ Y _ M q3) λw' s4 ⟨y',H4,I4,N,q4⟩=>bS (J pins s4 σ H4 y y' u w' _ I4 U N q4) λd2 s5 ⟨z2,H5,W,r5,k2,e2,q5⟩=>?_));subst e2;cases r5;refine VB ?_;cases k2 with
  | false=>
   obtain⟨k',F,B⟩:=q5;cases F;exact ite_ff ⟨H5,W,B⟩
  | true=>
   refine ite_tt (test_last (bS (hd pins s5 σ H5 _ W q5) λw2 s6 ⟨z',H6,I6,r6,q6⟩=>bS (G pins s6 σ H6 y' z' w' w2 _ I6 N r6 q6) λd' s7 ⟨z3,H7,I7,r7,k3,e3,q7⟩=>?_));subst e3;cases r7;exact VB ⟨H7,I7,q7⟩
end My
namespace P
open PySem PySem.Spec PyProof.Rows L2
section
variable {X:Cx}{O:List Nat}
def l6(g g' J:D->D->Option D)(B M q fd:Ev):Ev:=λρ=>(B ρ).bind λx=>(M ρ).bind λy=>(g x y).bind λz=>(xD z).bind λb=>if b=true then(q ρ).bind λw=>(g' y w).bind λF=>(xD F).bind λG=>if G=true then(fd ρ).bind λu=>J w u else some (.bl false)else some (.bl false)
@[simp] theorem q_chain3:l6 g g' g3 fa fb fc fd ρ=(fa ρ).bind λx=>(fb ρ).bind λy=>(g x y).bind λz=>(xD z).bind λb=>if b=true then(fc ρ).bind λw=>(g' y w).bind λq=>(xD q).bind λB=>if B=true then(fd ρ).bind λu=>g3 w u else some (.bl false)else some (.bl false):=rfl
theorem vI(h:tD Rep O (l6 g g' g3 fa fb fc fd) σ H Q):My.xK (rD g) (rD g') (rD g3) (tD RepB O fa) (tD RepB O fb) (tD RepB O fc) (tD RepB O fd) σ H Q:=by
 obtain⟨H0,A0,A,E,ρ,d,st,e,q⟩:=h;obtain⟨x,ex,e⟩:=bind_some e;obtain⟨y,ey,e⟩:=bind_some e;obtain⟨z,ez,e⟩:=bind_some e;obtain⟨b,eb,e⟩:=bind_some e;rw[eQ eb]at ez;refine⟨H0,A0,A,E,ρ,x,st,ex,λv H1 J r1=>⟨H0,A0,A,E,ρ,y,st.mono J,ey,λw H2 W r2=>⟨A,x,y,_,(st.mono (J.trans W)).live,r1.ext W,r2,ez,λz H3 x3 r3=>⟨b,RepB.bl_inv (.of r3),?_⟩⟩⟩⟩;have F:=(J.trans W).trans x3;cases b with
 | false=>rw[if_neg TN]at e ⊢;cases e;exact q _ H3 F (.bl _)
 | true=>
  rw[if_pos rfl]at e ⊢;obtain⟨u,eu,e⟩:=bind_some e;obtain⟨z2,G,e⟩:=bind_some e;obtain⟨b2,N,e⟩:=bind_some e;rw[eQ N]at G;refine⟨H0,A0,A,E,ρ,u,st.mono F,eu,λz' H4 M Y=>⟨A,y,u,_,(st.mono (F.trans M)).live,r2.ext (x3.trans M),Y,G,λz2 H5 x5 r5=>⟨b2,RepB.bl_inv (.of r5),?_⟩⟩⟩;have B:=(F.trans M).trans x5;cases b2 with
  | false=>rw[if_neg TN]at e ⊢;cases e;exact q _ H5 B (.bl _)
  | true=>
   rw[if_pos rfl]at e ⊢;obtain⟨t,et,e⟩:=bind_some e;exact⟨H0,A0,A,E,ρ,t,st.mono B,et,λz6 H6 U r6=>⟨A,u,t,d,(st.mono (B.trans U)).live,Y.ext (x5.trans U),r6,e,λz7 H7 x7 r7=>q z7 H7 ((B.trans U).trans x7) r7⟩⟩
theorem vR(N:fR X (TJ op) g)(B:fR X (TJ op') g')(q:fR X (TJ op3) g3)(F:PB X O a fa)(U:PB X O b fb)(G:PB X O c fc)(J:PB X O d fd)
  (M:W0 [op,op',op3] [b,c,d]=false:=by with_unfolding_all rfl):oP X O (.Compare a [op,op',op3] [b,c,d] pos) (eN (l6 g g' g3 fa fb fc fd)):=PT.mono (My.zT N B q F U G J M) λσ H Q h=>vI (gH h)
end
end P
namespace My
open PySem PySem.Spec PyProof.Rows L2
def M6(i j:Int):Prop:=(-(10^250*10^250)<i/\i<10^250*10^250)/\-(10^250*10^250)<j/\j<10^250*10^250
theorem uT(h1:-(10^250*10^250)<i)(h2:i<10^250*10^250):Builtin.Int.intBits i<=2^20:=by
 have h:i.natAbs<10^250*10^250:=by lia
 have e:(10:Nat)^250*10^250<=2^(4*250+4*250):=by
  rw[Nat.pow_add,Nat.pow_mul];have:(10:Nat)^250<=(2^4)^250:=Nat.pow_le_pow_left (by decide) 250;exact Nat.mul_le_mul this this
 exact UD (PyProof.Rows.intBits_le (UR h e)) (by decide)
end My
namespace P
open PySem PySem.Spec PyProof.Rows L2
instance:∀i j,Decidable (My.M6 i j):=λi j=>by unfold My.M6;infer_instance
end P
namespace My
open PySem PySem.Spec PyProof.Rows L2 PySem.SeqAt
section
variable {X:Cx}
end
end My
namespace P
open PySem PySem.Spec PyProof.Rows L2
section
variable {X:Cx}{O Oi:List Nat}
end
end P
namespace My
open PySem PySem.Spec PySem.Calls PySem.W PySem.Builtin PySem.Builtin.ObjectAttr PySem.Builtin.Getset_descriptor
section
variable {prog:S6}{w:World}{A:TH}{E:Value->SZ->Prop}{h:Heap}{g:Array GenState}{d:Drawn}{t:Nat}{os:OsState}{a C:Addr}{o:Obj}{K:Frag}
end
end My
namespace My
open PySem PySem.Spec PyProof.Rows L2 PySem.SeqAt
section
variable {l:List Env}{fs fr:List Addr}{h0 h1 h:Heap}{e C:Addr}{H H1:Hp}{P:S6}{w:World}
end
section
variable {X:Cx}{pins:List (Addr×Obj)}{σ:L2.St}{H:Hp}{s:SZ}{ea:Addr}{oe:Obj}
end
end My
namespace My
open PySem PySem.Spec PyProof.Rows L2 PySem.SeqAt PySem.W
section
variable {X:Cx}{pins:List (Addr×Obj)}{σ:L2.St}{H:Hp}{s:SZ}
theorem any_cons{K:S2}{t c:Value}{cs:List Value}(h:XY K t c=some false)(r:ZS K t cs=some false):ZS K t (c::cs)=some false:=by
 unfold ZS;rw[h];exact r
end
end My
namespace P
open PySem PySem.Spec PyProof.Rows L2
section
variable {X:Cx}{L:Lp}{O O2 O':List Nat}
end
section
variable {X:Cx}{O:List Nat}
end
end P
namespace My
open PySem PySem.Spec PyProof.Rows L2 PySem.SeqAt
section
variable {X:Cx}
def SI(cs:List V):TA:=λ_ H Q=>Q cs H
def PO(X:Cx)(B:Addr)(es:List Expr):Prop:=∃cs:List V,PA X es (SI cs)/\(cs.length=es.length)/\∀q,Vals cs q->ZS X.K (.ref B) q=some false
end
end My
namespace P
open PySem PySem.Spec PyProof.Rows L2
section
variable {X:Cx}{L:Lp}{O O':List Nat}
end
end P
namespace My
open PySem PySem.Spec PyProof.Rows L2 PySem.SeqAt
end My
namespace P
open PySem PySem.Spec PyProof.Rows L2
section
variable {X:Cx}{L:Lp}{O O':List Nat}
end
section
variable {X:Cx}{L:Lp}{O O' O2:List Nat}
def IE(n:Nat)(f:Sv)(ds:List D):Option D:=(f (aD n ds)).bind λo=>match o with
 | .rt d=>some d
 | _=>none
end
section
variable {X:Cx}{L:Lp}{O O' O2:List Nat}{Z:List Nat}
def dCat:D->D->Option D
 | .lst l,.lst m=>if bA (l.length+m.length)=true then some (.lst (l++m))else none
 | _,_=>none
theorem KM(N:PB X O a fa)(hb:PB X O b fb):PF X O (.BinOp a .Add b pos) (aT dCat fa fb):=
 PE.mono (IV x9 N hb) <| by
  rintro σ H Q ⟨H0,A0,A,E,ρ,d,st,e,q⟩;obtain⟨x,ex,e⟩:=bind_some e;obtain⟨y,U,e⟩:=bind_some e;refine⟨H0,A0,A,E,ρ,x,st,ex,λv H1 B W=>⟨H0,A0,A,E,ρ,y,st.mono B,U,λw H2 F r2=>?_⟩⟩;unfold dCat at e;split at e
  ·rename_i _ l m _
   by_cases hz:bA (l.length+m.length)=true
   ·rw[if_pos hz]at e
    cases e;obtain⟨a,xs,rfl,h1,J⟩:=(W.ext F).lst_inv;obtain⟨b,ys,rfl,h2,M⟩:=r2.lst_inv;have Y:=(st.mono B).mono F;exact⟨a,b,xs,ys,rfl,rfl,h1,h2,by rw[J.length,M.length];exact dD hz,λp G=>q p _ ((B.trans F).trans (Ext.new G)) ((B.trans F).free G) (λz=>Y.live p z G) (.lst aM ((J.append M).fresh G))⟩
   ·rw[if_neg hz]at e;cases e
  ·cases e
end
end P
namespace My
open PySem PySem.Spec PyProof.Rows L2
section
variable {X:Cx}
end
end My
namespace P
open PySem PySem.Spec PyProof.Rows L2
section
variable {X:Cx}
end
section
variable {X:Cx}{L:Lp}{O O':List Nat}{Z:List Nat}
mutual
def noL:D->Bool
 | .non=>true | .bl _=>true | .int _=>true | .str _=>true
 | .tup l=>IH l
 | _=>false
def IH:List D->Bool
 | []=>true
 | d::l=>noL d && IH l
end
mutual
theorem Rep.noL{A A':Av}{H H':Hp}(tp:∀b xs,H b=some (.tup xs)->H' b=some (.tup xs)){d:D}{v:V}:Rep A H d v->noL d=true->Rep A' H' d v
 | .non,_=>.non
 | .bl b,_=>.bl b
 | .int i,_=>.int i
 | .str s,_=>.str s
 | .tup h r,n=>.tup (tp _ _ h) (RepL.noL tp r (by rw[P.noL]at n;exact n))
 | .lst _ _ _,n=>by rw[P.noL]at n <;> first|cases n|simp
 | .dK _ _ _ _,n=>by rw[P.noL]at n <;> first|cases n|simp
 | .dT _ _ _ _,n=>by rw[P.noL]at n <;> first|cases n|simp
theorem RepL.noL{A A':Av}{H H':Hp}(tp:∀b xs,H b=some (.tup xs)->H' b=some (.tup xs)){ds:List D}{vs:List V}:RepL A H ds vs->IH ds=true->RepL A' H' ds vs
 | .nil,_=>.nil
 | .cons h t,n=>by
  rw[P.IH,UF]at n;exact .cons (Rep.noL tp h n.1) (RepL.noL tp t n.2)
end
end
end P
namespace My
open PySem PySem.Spec PyProof.Rows L2
def A6(i j:Int):Prop:=M6 i j\/(-(2^64)<i/\i<2^64)\/(-(2^64)<j/\j<2^64)
theorem GQ{X:Cx}:OpR X (UI .Mult) (rI A6 λi j=>.int (i*j)):=P6 λ_ _ _ _ _ _ _ B q=>mul_int q (by
 rcases B with h|h|h
 ·exact IntMulOk.of_bits (uT h.1.1 h.1.2) (uT h.2.1 h.2.2)
 ·exact .of_left (intBits_le_64 h.1 h.2)
 ·exact .of_right (intBits_le_64 h.1 h.2))
end My
namespace P
open PySem PySem.Spec PyProof.Rows L2
instance:∀i j,Decidable (My.A6 i j):=λi j=>by unfold My.A6;infer_instance
def DP:D->D->Option D:=E9 λi j=>if My.A6 i j then some (.int (i*j))else none
open Classical in
def bF:D->D->Option D:=E9 λi j=>if My.A6 i j then some (.int (i*j))else none
theorem yB:bF=DP:=by
 unfold bF DP;congr 1
theorem bR{X:Cx}:fR X (UI .Mult) bF:=by rw[yB];exact sC My.GQ
theorem DQ{i j:Int}(h:My.A6 i j):bF (.int i) (.int j)=some (.int (i*j)):=by
 rw[yB];exact if_pos h
theorem kF{i j:Int}(h:-(2^64)<i)(h2:i<2^64):bF (.int i) (.int j)=some (.int (i*j)):=DQ (.inr (.inl ⟨h,h2⟩))
theorem EY{i j:Int}(h:-(2^64)<j)(h2:j<2^64):bF (.int i) (.int j)=some (.int (i*j)):=DQ (.inr (.inr ⟨h,h2⟩))
structure SO(z:Nat)(A:Av)(a:Addr)(l:List D)(σ:L2.St)(H:Hp)(ρ:cC):Prop where
 live:Live A H
 len:σ.length=ρ.length
 aa:A a
 sz:σ[z]?=some (some (.ref a))
 rz:ρ[z]?=some (some (.lst l))
 own:Own A H (.lst l) a
 val:∀i d,ρ[i]?=some (some d)->i≠z->∃v,σ[i]?=some (some v)/\Rep A H d v
section
variable {X:Cx}{z:Nat}{A:Av}{a:Addr}{l:List D}{σ:L2.St}{H H':Hp}{ρ:cC}
theorem SO.mono(s:SO z A a l σ H ρ)(x:Ext A H H'):SO z A a l σ H' ρ:=
 ⟨(λb q => by
   cases e:H b with
   | none=>exact absurd e (s.live b q)
   | some u=>rw[x.ow b u q e];exact λw=>nomatch w),s.len,s.aa,s.sz,s.rz,Own.ext x s.aa s.own,(λi d h n=>by obtain⟨v,e,r⟩:=s.val i d h n;exact⟨v,e,r.ext x⟩)⟩
def dA(z:Nat)(f:Ev):Ev:=λρ=>f (ρ.set z none)
theorem SO.st(s:SO z A a l σ H ρ):ST H A A [] [] σ H (ρ.set z none):=
 ⟨Ext.refl _ _, λ_ h => h, s.live, s.live, by rw[W5];exact s.len, λi d h _ => by
  by_cases q:i=z
  ·subst q
   have lt:i<ρ.length:=by
    have:=(List.getElem?_eq_some_iff.mp h).1
    rwa [W5]at this
   rw[YM lt]at h;cases h
  ·rw[WZ (T3 q)]at h
   exact s.val i d h q,(λj d _ h=>nomatch h),(λj k d d' a h=>nomatch h),(λq B=>nomatch B)⟩
theorem SO.put(s:SO z A a l σ H ρ){i:Nat}{d:D}{v:V}(r:Rep A H d v)(n:i≠z):SO z A a l (σ.set i (some v)) H (ρ.set i (some d)):=
 ⟨s.live,(by rw[W5,W5];exact s.len),s.aa,(by rw[fG (T3 n)];exact s.sz),(by rw[WZ n];exact s.rz),s.own,(λj e h B=>by
   by_cases q:j=i
   ·subst q
    have lt:j<ρ.length:=by
     have:=(List.getElem?_eq_some_iff.mp h).1
     rwa [W5]at this
    rw[YM lt]at h;cases h;exact⟨v,sig_set (by rw[s.len];exact lt),r⟩
   ·rw[WZ (T3 q)]at h
    rw[fG q];exact s.val j e h B)⟩
inductive tO(z:Nat)(f:Sv)(T:Ends)(σ:L2.St)(H:Hp):Prop
 | mk (A:Av) (a:Addr) (l:List D) (ρ:cC) (d:D) (so:SO z A a l σ H ρ) (e:f ρ=some (.rt d)) (q:∀v H',Ext A H H'->Rep A H' d v->T.rt v H'):tO z f T σ H
theorem JY{e:Expr}{pos:Pos}{f:Ev}(F:PD X [] e f):PSs X [.Return (some e) pos] (tO z (BF (dA z f))):=PSs.mono (xN (DH F)) <| by
 rintro T σ H ⟨A,a,l,ρ,d,B,e,q⟩;obtain⟨d',J,G⟩:=map_some e;cases G;exact⟨H,A,A,[],_,d,B.st,J,q⟩
theorem oE{y:Str}{e:Expr}{i:Nat}{f:Ev}{g:Sv}{rest:List Stmt}{pos pos':Pos}(hN:X.N.Nodup)(hi:X.N[i]?=some y)(hx:Loc X.env.scope y)(n:i≠z)(G:PD X [] e f)(J:PSs X rest (tO z g))(hs:UM e (some (.Name y pos')) pos.line X.env=pure false:=by rfl)
  (U:X.fn y=true\/X.env.scope.names.lookup y=some .local:=by first|exact .inl rfl|exact .inr rfl):PSs X (.Assign [.Name y pos'] e pos::rest) (tO z (cN (cP i (dA z f)) g)):=
 PSs.mono (nK (rU hN hi hx G hs U) J) <| by
  rintro T σ H ⟨A,a,l,ρ,d,F,e,q⟩;obtain⟨o,Y,e⟩:=bind_some e;obtain⟨d1,M,rfl⟩:=map_some Y;exact⟨H,A,A,[],_,d1,F.st,M,λv H1 B W=>⟨A,a,l,_,d,(F.mono B).put W n,e,λw H2 x2 r2=>q w H2 (B.trans x2) r2⟩⟩
def sE(i z:Nat)(F:List D->Option D)(f0 B q:Ev)(g:Sv):Sv:=λρ=>(dA z f0 ρ).bind λd0=>(aC z ρ).bind λdz=>(dA z B ρ).bind λd2=>(dA z q ρ).bind λd3=>(F [d0,dz,d2,d3]).bind λd=>if noL d=true then g (ρ.set i (some d))else none
theorem G9{x y:Str}{k:Nat}{ps:List Str}{F:List D->Option D}{e0 J G B:Expr}{rest:List Stmt}{f0 f2 f3:Ev}{i:Nat}{g:Sv}{p cpos pos pos':Pos}(FD:Fn X.prog X.w X.K X.mg X.base x k ps F)(ao:ps.length=4)(hr:Room k X.A)(hg:Gl X x)(h0:PD X [] e0 f0)(h1:PE X J (kE z))(h2:PD X [] G f2)(h3:PD X [] B f3)
  (hN:X.N.Nodup) (hi:X.N[i]?=some y) (hx:Loc X.env.scope y) (n:i≠z) (Y:PSs X rest (tO z g)) (aj:(x == ("__debug__" : Str))=false:=by decide)
  (q0:S0 [e0,J,G,B] X.env=(false,eval e0 X.env)::S0 [J,G,B] X.env:=by rfl) (q1:S0 [J,G,B] X.env=(false,eval J X.env)::S0 [G,B] X.env:=by rfl) (q2:S0 [G,B] X.env=(false,eval G X.env)::S0 [B] X.env:=by rfl) (q3:S0 [B] X.env=(false,eval B X.env)::S0 [] X.env:=by rfl)
  (an:(TU cpos (S0 [J,G,B] X.env)).any (·.1)=false:=by rfl) (hs:UM (.Call (.Name x p) [e0,J,G,B] [] cpos) (some (.Name y pos')) pos.line X.env=pure false:=by rfl) (hf:X.fn y=true\/X.env.scope.names.lookup y=some .local:=by first|exact .inl rfl|exact .inr rfl) :
  PSs X (.Assign [.Name y pos'] (.Call (.Name x p) [e0,J,G,B] [] cpos) pos::rest) (tO z (sE i z F f0 f2 f3 g)):=
 PSs.mono (nK (rU hN hi hx (My.jF FD hr hg (bJ h0 (bJ h1 (bJ h2 (bJ h3 dQ q3) q2) q1) q0) aj q0 an) hs hf) Y) <| by
  rintro T σ H ⟨A,a,l,ρ,d,M,e,q⟩;obtain⟨d0,e0,ea⟩:=bind_some e;obtain⟨dz,ez,eb⟩:=bind_some ea;obtain⟨d2,G,ec⟩:=bind_some eb;obtain⟨d3,B,ed⟩:=bind_some ec;obtain⟨r,eF,ef⟩:=bind_some ed;clear e ea eb ec ed;by_cases nl:noL r=true
  case neg=>rw[if_neg nl]at ef;cases ef
  rw[if_pos nl]at ef;have ab:=bM ez;rw[M.rz]at ab;cases ab;refine⟨H,A,A,[],_,d0,M.st,e0,λv0 H1 x1 r0=>⟨_,M.sz,H1,A,A,[],_,d2,(M.mono x1).st,G,λv2 H2 x2 r2=>⟨H2,A,A,[],_,d3,((M.mono x1).mono x2).st,B,λv3 H3 x3 r3=>?_⟩⟩⟩;have U:=((M.mono x1).mono x2).mono x3;have up:∀b,(A b/\b≠a)->A b\/H3 b=none:=λb W=>.inl W.1
  refine⟨λb=>A b/\b≠a,[d0,.lst l,d2,d3],r,λb W=>U.live b W.1,.cons ((r0.ext (x2.trans x3)).av up) (.cons ((U.own.av up).rep (λw=>w.2 rfl)) (.cons ((r2.ext x3).av up) (.cons (r3.av up) .nil))),by rw[ao];rfl,eF,λv H4 x4 r4=>?_⟩;have am:Ext A H3 H4:=⟨x4.rd,x4.kp,λb u W hu=>by
   by_cases w:b=a
   ·subst w
    cases U.own with
    | lst h _=>rw[h]at hu;cases hu;exact x4.kp _ _ trivial h
   ·exact x4.ow b u ⟨W,w⟩ hu,x4.fz⟩
  have al:Rep A H4 r v:=r4.noL (λb xs W=>W) nl;have ac:=(x1.trans x2).trans (x3.trans am);exact⟨A,a,l,_,d,(M.mono ac).put al n,ef,λw H5 x5 r5=>q w H5 (ac.trans x5) r5⟩
def SF(F:List D->Option D):Sp:=λvs H Q _=>∃(A:Av) (a:Addr) (l:List D) (v0 v1 v2 v3:V) (d0 d1 d2 d3 d:D),vs=[v0,v1,v2,v3,.ref a]/\Live A H/\A a/\Own A H (.lst l) a/\Rep A H d0 v0/\Rep A H d1 v1/\Rep A H d2 v2/\Rep A H d3 v3/\F [d0,d1,d2,d3,.lst l]=some d/\∀v H',Ext A H H'->Rep A H' d v->Q v H'
def RX(P:S6)(w:World)(K:S2)(mg:Str->Option Value)(base:Heap)(x:Str)(k:Nat)(ps:List Str)(F:List D->Option D):Prop:=ps.length=5/\My.Ok P w K mg base x k ps (SF F)
theorem LM{P:S6}{w:World}{K:S2}{mg:Str->Option Value}{base:Heap}{x y0 Y U N W:Str}{st:Stmt}{M:List Str}{k:Nat}{f:Sv}(Df:My.DefAt K mg x st [y0,Y,U,N,W])(S:FnScope (y0::Y::U::N::W::M) [y0,Y,U,N,W] (aK st))
  (h:∀(fa:Addr) (G:Value) (A:TH) (F:List Env) (s:SZ) (H:Hp) (E:XK),Room k (A.deeper (UT x (aK st) s.heap.objs.size fa G))->∃g,PSs (kC xC P w K mg base (y0::Y::U::N::W::M) x (aK st) fa G A F s H E).nox (bP st) (tO 4 g)/\g=f) :
  RX P w K mg base x (k+1) [y0,Y,U,N,W] (IE (M.length+5) f):=by
 refine⟨rfl,My.BodyOk.ok (λfa G A F s H vs Q E hr J=>?_) Df S (λvs H Q E J=>by obtain⟨A,a,l,v0,v1,v2,v3,d0,d1,d2,d3,d,rfl,_⟩:=J;rfl)⟩;obtain⟨A1,a,l,v0,v1,v2,v3,d0,d1,d2,d3,d,rfl,lv,aa,ow,r0,r1,r2,r3,eF,q⟩:=J;obtain⟨o,eo,e2⟩:=bind_some eF;cases o with
 | nx _=>cases e2
 | bk _=>cases e2
 | ct _=>cases e2
 | rt d'=>
  cases e2;obtain⟨g,hg,rfl⟩:=h fa G A F s H E hr;have es:L2.start (y0::Y::U::N::W::M) [v0,v1,v2,v3,.ref a]=some v0::some v1::some v2::some v3::some (.ref a)::V7 M.length none:=by
   unfold L2.start;simp
  have er:aD (M.length+5) [d0,d1,d2,d3,.lst l]=some d0::some d1::some d2::some d3::some (.lst l)::V7 M.length none:=by
   unfold aD;simp
  rw[er]at eo;refine⟨_,hg,A1,a,l,_,d,?_,eo,q⟩;rw[es];refine⟨lv,by simp,aa,rfl,rfl,ow,λi dd B n=>?_⟩
  match i,B,n with
  | 0,B,_=>cases B;exact⟨v0,rfl,r0⟩
  | 1,B,_=>cases B;exact⟨v1,rfl,r1⟩
  | 2,B,_=>cases B;exact⟨v2,rfl,r2⟩
  | 3,B,_=>cases B;exact⟨v3,rfl,r3⟩
  | 4,_,n=>exact absurd rfl n
  | i+5,B,_=>
   have B:(V7 M.length (none:Option D))[i]?=some (some dd):=B;rw[Z6]at B;split at B
   ·cases B
   ·cases B
noncomputable def JD:List D->Bool
 | [_,_,_,_,.lst _]=>true
 | _=>false
def wC(F:List D->Option D)(q:Lv):Ev:=λρ=>(q ρ).bind λds=>if JD ds=true then F ds else none
theorem BL{O:List Nat}{x:Str}{k:Nat}{ps:List Str}{F:List D->Option D}{e0 Y N G B:Expr}{f0 f1 f2 f3:Ev}{p cpos:Pos}(FO:RX X.prog X.w X.K X.mg X.base x k ps F)(hr:Room k X.A)(hg:Gl X x)(h0:PD X O e0 f0)(h1:PD X O Y f1)(h2:PD X O N f2)(h3:PD X O G f3)(h4:PE X B (kE z))(hO:mem O z=true)(ak:(x == ("__debug__" : Str))=false:=by decide)
  (q0:S0 [e0,Y,N,G,B] X.env=(false,eval e0 X.env)::S0 [Y,N,G,B] X.env:=by rfl) (q1:S0 [Y,N,G,B] X.env=(false,eval Y X.env)::S0 [N,G,B] X.env:=by rfl) (q2:S0 [N,G,B] X.env=(false,eval N X.env)::S0 [G,B] X.env:=by rfl) (q3:S0 [G,B] X.env=(false,eval G X.env)::S0 [B] X.env:=by rfl) (q4:S0 [B] X.env=(false,eval B X.env)::S0 [] X.env:=by rfl)
  (al:(TU cpos (S0 [Y,N,G,B] X.env)).any (·.1)=false:=by rfl) :
  PD X O (.Call (.Name x p) [e0,Y,N,G,B] [] cpos) (wC F (aE f0 (aE f1 (aE f2 (aE f3 (aE (aC z) a6)))))):=
 PE.mono (My.jF FO.2 hr hg (bJ h0 (bJ h1 (bJ h2 (bJ h3 (bJ h4 dQ q4) q3) q2) q1) q0) ak q0 al) <| by
  rintro σ H Q ⟨H0,A0,A,E,ρ,d,st,e,q⟩;obtain⟨ds,el,eF⟩:=bind_some e;obtain⟨d0,e0,el⟩:=bind_some el;obtain⟨l1,M,el⟩:=bind_some el;cases el;obtain⟨d1,Y,M⟩:=bind_some M;obtain⟨l2,U,M⟩:=bind_some M;cases M;obtain⟨d2,N,U⟩:=bind_some U;obtain⟨l3,W,U⟩:=bind_some U;cases U;obtain⟨d3,G,W⟩:=bind_some W;obtain⟨l4,J,W⟩:=bind_some W;cases W;obtain⟨d4,B,J⟩:=bind_some J;obtain⟨l5,am,J⟩:=bind_some J;cases J;cases am;by_cases hF:JD [d0,d1,d2,d3,d4]=true
  case neg=>rw[if_neg hF]at eF;cases eF
  rw[if_pos hF]at eF;obtain⟨l,rfl⟩:∃l,d4=.lst l:=by
   cases d4 with
   | lst l=>exact⟨l,rfl⟩
   | _=>cases hF
  obtain⟨a,a1,a2,a3,a4⟩:=st.own z _ (bM B) (fI hO);refine⟨H0,A0,A,E,ρ,d0,st,e0,λv0 H1 x1 r0=>⟨H0,A0,A,E,ρ,d1,st.mono x1,Y,λv1 H2 x2 r1=>⟨H0,A0,A,E,ρ,d2,(st.mono x1).mono x2,N,λv2 H3 x3 r2=>⟨H0,A0,A,E,ρ,d3,((st.mono x1).mono x2).mono x3,G,λv3 H4 x4 r3=>⟨_,a1,?_⟩⟩⟩⟩⟩;have aa:=(x1.trans x2).trans (x3.trans x4);exact⟨A,a,l,v0,v1,v2,v3,d0,d1,d2,d3,d,rfl,(st.mono aa).live,a2,Own.ext aa a2 a4,r0.ext (x2.trans (x3.trans x4)),r1.ext (x3.trans x4),r2.ext x4,r3,eF,λv H5 x5 r5=>q v H5 (aa.trans x5) r5⟩
end
end P
namespace My
open PySem PySem.Spec PyProof.Rows L2
end My
namespace P
open PySem PySem.Spec PyProof.Rows L2
section
variable {X:Cx}{O:List Nat}
end
end P
namespace My
open PySem PySem.Spec PyProof.Rows L2
section
variable {X:Cx}
end
end My
namespace P
open PySem PySem.Spec PyProof.Rows L2
section
variable {X:Cx}{O:List Nat}
end
variable {X:Cx}{O:List Nat}{e:Expr}
end P
namespace My
open PySem PySem.Spec PyProof.Rows L2
section
variable {prog:S6}{w:World}{A:TH}{E:Value->SZ->Prop}{s:SZ}
end
end My
namespace P
open PySem PySem.Spec PyProof.Rows L2
def Fe(K:S2)(x:Str)(st:Stmt)(f:Addr):Prop:=∃fd,Fun K x x st f fd
theorem Fe.mk{K:S2}{x:Str}{st:Stmt}{f:Addr}{M:Value}{od G:Option Addr}{F:Array (Option Value)}{kV B J q ct:Value}(l:K.lookup f=some ⟨M,od,.func (VE x x (cY st) (bP st) (aK st) .none kV B J G q ct),F⟩)(c:W3 K q x=true)(k:WG K (.ref f)=true):Fe K x st f:=⟨_,D6 l c k⟩
theorem Fe.d{K:S2}{mg:Str->Option Value}{x:Str}{st:Stmt}{f:Addr}{ps:List Str}(h:Fe K x st f)(a:mg x=some (.ref f))(q:∀(kV doc pm:Value) (an:Option Addr) (cdv ct:Value) (us:List Value),us.length=ps.length->bindArgs (VE x x (cY st) (bP st) (aK st) .none kV doc pm an cdv ct) ⟨us,[]⟩=pure (ps.zip us)):My.DefAt K mg x st ps:=let ⟨fd,F⟩:=h;⟨⟨f,fd,F,F.binds q,a⟩⟩
section
variable {X:Cx}{L:Lp}{O O':List Nat}
theorem c0{B O3:List Nat}{st:Stmt}{q:List Stmt}{f g:Sv}(h:iY X L B st f [])(k:c7 X L [] q g O3):c7 X L B (st::q) (cN f g) O3:=cn h k
theorem ss(i:Nat)(q:X.N.Nodup)(B:PD X O e f)(hi:X.N[i]?=some x:=by rfl)(F:Loc X.env.scope x:=by exact UQ rfl)(h:Sub O' (O.filter (· != i))=true:=by rfl)(hs:UM e (some (.Name x pos')) pos.line X.env=pure false:=by rfl)(G:X.fn x=true\/X.env.scope.names.lookup x=some .local:=by first|exact .inl rfl|exact .inr rfl):iY X L O (.Assign [.Name x pos'] e pos) (cP i f) O':=yS q hi F B h hs G
theorem gc(h1:zE X O e g)(h2:w8 X O es k)(a:(VS (e::es) X.env).map (·.2)=VR e X.env::(VS es X.env).map (·.2):=by rfl):w8 X O (e::es) (b8 g k):=AH (λx y=>BH x y a) h1 h2
theorem gu(n:Nat)(h:w8 X O es k)(q:X.calm=true:=by rfl)(a:(VS es X.env).length=n:=by rfl)(b:List.findIdx? (λx=>x.fst) (VS es X.env)=none:=by rfl):zE X O (.Tuple es j pos) (jP n k):=IA (MI q h a b)
theorem tc(B:fR X (TJ op) g)(q:PB X O a fa)(F:PB X O b fb)(h1:op≠CmpOp.In:=by decide)(h2:op≠CmpOp.NotIn:=by decide):oP X O (.Compare a [op] [b] pos) (eN (aT g fa fb)):=lY B q F (wF _ h1 h2)
end
end P
namespace My
open PySem PySem.Spec PyProof.Rows L2
section
variable {X:Cx}
end
end My
namespace P
open PySem PySem.Spec PyProof.Rows L2
section
variable {X:Cx}
end
end P
namespace HT
open PySem PySem.Spec PyProof.Rows
section
open PySem.SeqAt
open PySem.AutoSeq1 (wpAny_loadPart')
open PySem.MeetsSeq PySem.MeetsSeq2 PySem.MeetsSeq3
end
section
variable {prog:S6}{w:World}{A:TH}{E:Value->SZ->Prop}{s:SZ}
end
end HT
namespace P
open PySem PySem.Spec PyProof.Rows L2
section
variable {X:Cx}
end
section
variable {X:Cx}
end
noncomputable def mon:List Int->List Int->Int
 | e::es,v::vs=>v^e.toNat*mon es vs
 | _,_=>1
def ev(vs:List Int)(F:List My.Tm):Int:=(F.map λt=>t.2*mon t.1 vs).sum
noncomputable def pw(S:Nat->Int)(a:Int):Nat->Int
 | 0=>0
 | n+1=>pw S a n+a^n*S n
noncomputable def la(k:List Int):Int:=(k.getLast?).getD 0
section
variable {X:Cx}{L:Lp}{O O':List Nat}
theorem cO(O2:List Nat){B O3:List Nat}{st:Stmt}{q:List Stmt}{f g:Sv}(h:iY X L B st f O2)(k:c7 X L O2 q g O3):c7 X L B (st::q) (cN f g) O3:=cn h k
theorem vM(i:Nat)(h:X.N[i]?=some x:=by eq_refl)(n:i∉O:=by decide)(F:JN X.env.scope x:=by first|exact UQ rfl|exact VL (UQ rfl)|exact VL (VL rfl))(q:(x == ("__debug__" : Str))=false:=by eq_refl)(B:(x == ("__classdict__" : Str))=false:=by eq_refl):PD X O (.Name x p) (aC i):=cF i (pv i h F q B) n
theorem gN(i:Nat){x:Str}{pos:Pos}(q:X.N.Nodup:=by assumption)(hi:X.N[i]?=some x:=by eq_refl)(B:Loc X.env.scope x:=by first|exact UQ rfl|exact VL rfl)(F:X.fn x=true\/X.env.scope.names.lookup x=some .local:=by first|exact .inl rfl|exact .inr rfl|assumption)(n:O.contains i=false:=by rfl):zE X O (.Name x pos) (aL i):=uG (yD q hi B F) n
theorem wt{x1}(h:vC X O es g)(B:Len g es.length)(q:Nat.ble es.length 100=true:=by rfl):PD X O (.Tuple es x1 pos) (iV g):=sD h (λρ ds k=>by rw[B ρ ds k];exact zar q)
theorem wl(h:vC X O es g)(B:Len g es.length)(q:Nat.ble es.length 100=true:=by rfl):PF X O (.List es pos) (sR g):=JX h (λρ ds k=>by rw[B ρ ds k];exact zar q)
theorem wE(O':Fn X.prog X.w X.K X.mg X.base x k ps F)(J:Room j X.A)(G:vC X O (e::es) f)(N:Len f ps.length)(M:k<=j)(B:Gl X x:=by rfl)(q:(x == ("__debug__" : Str))=false:=by decide)(hs:isStar e=false:=by rfl)(U:(es.all λe=>!isStar e)=true:=by rfl):PD X O (.Call (.Name x p) (e::es) [] pos) (aP F f):=cD O' (J.mono M) G N B q hs U
theorem QX{e:Expr}{es:List Expr}{f:Lv}{p pos:Pos}(q:X.mg "len" = none)(F:lM X O (e::es) f)(B:Gl X "len")(hs:isStar e=false)(G:((es:List Expr).all λe=>!isStar e)=true):PD X O (.Call (.Name "len" p) (e::es) [] pos) (aP dW f):=cB DX q My.boot_len F B (by decide) (by decide) hs G
theorem Q8{e:Expr}{es:List Expr}{f:Lv}{p pos:Pos}(q:X.mg "tuple" = none)(F:lM X O (e::es) f)(B:Gl X "tuple")(hs:isStar e=false)(G:((es:List Expr).all λe=>!isStar e)=true):PD X O (.Call (.Name "tuple" p) (e::es) [] pos) (aP cW f):=IR dO q My.boot_tuple F B (by decide) (by decide) hs G
theorem QW{e:Expr}{es:List Expr}{f:Lv}{p pos:Pos}(q:X.mg "list" = none)(F:lM X O (e::es) f)(B:Gl X "list")(hs:isStar e=false)(G:((es:List Expr).all λe=>!isStar e)=true):PF X O (.Call (.Name "list" p) (e::es) [] pos) (aP qM f):=SD G0 q My.boot_list F B (by decide) (by decide) hs G
theorem RF{e:Expr}{es:List Expr}{f:Lv}{p pos:Pos}(F:X.calm=true)(G:X.mg "all" = none)(B:lM X O (e::es) f)(q:Gl X "all")(hs:isStar e=false)(J:((es:List Expr).all λe=>!isStar e)=true):PD X O (.Call (.Name "all" p) (e::es) [] pos) (aP xB f):=cB (wD F) G My.boot_all B q (by decide) (by decide) hs J
theorem N5{q:Expr}{e:Expr}{es:List Expr}{f:Lv}{p pos:Pos}(G:X.calm=true)(J:X.mg "min" = none)(F:lM X O [e,q] f)(B:Gl X "min")(hs:isStar e=false)(M:(([q]:List Expr).all λe=>!isStar e)=true):PD X O (.Call (.Name "min" p) [e,q] [] pos) (aP EO f):=cB (GA G) J My.boot_min F B (by decide) (by decide) hs M
theorem N8{q:Expr}{e:Expr}{es:List Expr}{f:Lv}{p pos:Pos}(G:X.calm=true)(J:X.mg "max" = none)(F:lM X O [e,q] f)(B:Gl X "max")(hs:isStar e=false)(M:(([q]:List Expr).all λe=>!isStar e)=true):PD X O (.Call (.Name "max" p) [e,q] [] pos) (aP zD f):=cB (GJ G) J My.boot_max F B (by decide) (by decide) hs M
theorem NQ{e:Expr}{es:List Expr}{f:Lv}{p pos:Pos}(F:X.calm=true)(G:X.mg "max" = none)(B:lM X O [e] f)(q:Gl X "max")(hs:isStar e=false)(J:(([]:List Expr).all λe=>!isStar e)=true):PD X O (.Call (.Name "max" p) [e] [] pos) (aP u5 f):=cB (GK F) G My.boot_max B q (by decide) (by decide) hs J
theorem NM{e:Expr}{f:Ev}{p p2 pos:Pos}(G:PB X O e f)(M:X.mg "isinstance" = none)(B:X.mg "int" = none)(F:Gl X "isinstance")(q:Gl X "int")(h1:S0 [e,.Name "int" p2] X.env=(false,eval e X.env)::S0 [.Name "int" p2] X.env)(h2:(TU pos (S0 [.Name "int" p2] X.env)).any (·.1)=false)(J:S0 [.Name "int" p2] X.env=(false,eval (.Name "int" p2) X.env)::S0 [] X.env):PD X O (.Call (.Name "isinstance" p) [e,.Name "int" p2] [] pos) (w4 "int" f):=rX G4 F M q B My.boot_int G (by decide) (by decide) h1 h2 J
theorem KZ{e:Expr}{f:Ev}{p p2 pos:Pos}(G:PB X O e f)(M:X.mg "isinstance" = none)(B:X.mg "bool" = none)(F:Gl X "isinstance")(q:Gl X "bool")(h1:S0 [e,.Name "bool" p2] X.env=(false,eval e X.env)::S0 [.Name "bool" p2] X.env)(h2:(TU pos (S0 [.Name "bool" p2] X.env)).any (·.1)=false)(J:S0 [.Name "bool" p2] X.env=(false,eval (.Name "bool" p2) X.env)::S0 [] X.env):PD X O (.Call (.Name "isinstance" p) [e,.Name "bool" p2] [] pos) (w4 "bool" f):=rX BI F M q B My.boot_bool G (by decide) (by decide) h1 h2 J
theorem HM{e:Expr}{f:Ev}{p p2 pos:Pos}(G:PB X O e f)(M:X.mg "isinstance" = none)(B:X.mg "tuple" = none)(F:Gl X "isinstance")(q:Gl X "tuple")(h1:S0 [e,.Name "tuple" p2] X.env=(false,eval e X.env)::S0 [.Name "tuple" p2] X.env)(h2:(TU pos (S0 [.Name "tuple" p2] X.env)).any (·.1)=false)(J:S0 [.Name "tuple" p2] X.env=(false,eval (.Name "tuple" p2) X.env)::S0 [] X.env):PD X O (.Call (.Name "isinstance" p) [e,.Name "tuple" p2] [] pos) (w4 "tuple" f):=rX kit_tuple F M q B My.boot_tuple G (by decide) (by decide) h1 h2 J
theorem OW{e:Expr}{f:Ev}{p p2 pos:Pos}(G:PB X O e f)(M:X.mg "isinstance" = none)(B:X.mg "str" = none)(F:Gl X "isinstance")(q:Gl X "str")(h1:S0 [e,.Name "str" p2] X.env=(false,eval e X.env)::S0 [.Name "str" p2] X.env)(h2:(TU pos (S0 [.Name "str" p2] X.env)).any (·.1)=false)(J:S0 [.Name "str" p2] X.env=(false,eval (.Name "str" p2) X.env)::S0 [] X.env):PD X O (.Call (.Name "isinstance" p) [e,.Name "str" p2] [] pos) (w4 "str" f):=rX GM F M q B My.boot_str G (by decide) (by decide) h1 h2 J
theorem R9{e:Expr}{lo hi:Option Expr}{p2 pos:Pos}{f:Ev}{a b:Ov}(B:PB X O e f)(F:JL X O lo a)(q:JL X O hi b):PD X O (.Subscript e (.Slice lo hi none p2) pos) (FC iW f a b):=uM O7 B F q
theorem SL{a b:Expr}{pos:Pos}{q B:Ev}(G:X.A.units+1<cLine)(F:PB X O a q)(J:PB X O b B)(hs:qZ b:=by exact λ_ _=>rfl):PD X O (.Subscript a b pos) (aT aN q B):=xR G F J hs
theorem Q0{a b:Expr}{pos:Pos}{q B:Ev}{j:Nat}(G:Room j X.A)(F:PB X O a q)(M:PB X O b B)(J:VT .In b=false):oP X O (.Compare a [.In] [b] pos) (eN (aT sL q B)):=lY (DF G.units) F M J
theorem QS{a b:Expr}{pos:Pos}{q B:Ev}{j:Nat}(G:Room j X.A)(F:PB X O a q)(M:PB X O b B)(J:VT .NotIn b=false):oP X O (.Compare a [.NotIn] [b] pos) (eN (aT jO q B)):=lY (zX G.units) F M J
theorem SA{a b:Expr}{op:CmpOp}{pos:Pos}{g:D->D->Option D}{q B:Ev}(G:fR X (TJ op) g)(F:PB X O a q)(J:PB X O b B)(h1:op≠CmpOp.In)(h2:op≠CmpOp.NotIn):PD X O (.Compare a [op] [b] pos) (aT g q B):=EC G F J (wF _ h1 h2)
theorem SV{o e:Expr}{apos cpos:Pos}{q B:Ev}(W:PB X O o q)(J:PB X O e B)(N:WT o "join" X.env (eval o X.env)=eval o X.env)(M:((((TU cpos (S0 [e] X.env)).all λx=>!x.fst) && (backToKw cpos (X1 [] X.env)).all λx=>x.fst.isSome) && decide (([e].length+([]:List VI).length+if([]:List VI).isEmpty=true then 0 else 1)<30))=true)(G:(apos.endLine == cpos.line)=true)(F:S0 [e] X.env=(false,eval e X.env)::S0 [] X.env)(U:((TU cpos (S0 [] X.env)).any λx=>x.fst)=false):PD X O (.Call (.Attribute o "join" apos) [e] [] cpos) (aT gO q B):=jN W J (λa b=>fQ XO YD YE My.jL a b N M G F U) F
theorem SQ{o:Expr}{f:Ev}{p pos apos cpos:Pos}{j:Nat}(J:Room j X.A)(N:X.mg "sorted" = none)(U:PB X O o f)(M:X.calm=true)(B:Gl X "sorted")(h1:WT o "items" X.env (eval o X.env)=eval o X.env)(h2:(apos.endLine == cpos.line)=true)(G:S0 [.Call (.Attribute o "items" apos) [] [] cpos] X.env=(false,eval (.Call (.Attribute o "items" apos) [] [] cpos) X.env)::S0 [] X.env)(q:(TU pos (S0 [] X.env)).any (·.1)=false):PF X O (.Call (.Name "sorted" p) [.Call (.Attribute o "items" apos) [] [] cpos] [] pos) (qF nN f):=vX M J.units B N U (λh=>J3 PySem.F.slot_dict_items PySem.F.type_dict_items My.CB h h1 h2) G q
theorem SW{j:Nat}(q:Room j X.A):fR X (TJ .Eq) jW:=NS q.units
theorem SM{j:Nat}(q:Room j X.A):fR X (TJ .NotEq) FB:=OX q.units
theorem SN{j:Nat}(q:Room j X.A):fR X (TJ .Lt) JK:=DZ q.units0
def At(l:List Str)(x:Str)(i:Nat):Prop:=l[i]?=some x
theorem at_(i:Nat){l:List Str}{x:Str}(h:l[i]?=some x:=by eq_refl):At l x i:=h
theorem vB{i:Nat}{x:Str}{p:Pos}(h:At X.N x i)(F:JN X.env.scope x)(q:(x == ("__debug__" : Str))=false)(B:(x == ("__classdict__" : Str))=false):PB X O (.Name x p) (aC i):=dP i (pv i h F q B)
theorem vD{i:Nat}{x:Str}{p:Pos}(h:At X.N x i)(n:O.contains i=false)(F:JN X.env.scope x)(q:(x == ("__debug__" : Str))=false)(B:(x == ("__classdict__" : Str))=false):PD X O (.Name x p) (aC i):=cF i (pv i h F q B) (by simpa using n)
theorem gV{i:Nat}{x:Str}{pos:Pos}(h:At X.N x i)(n:O.contains i=false)(q:X.N.Nodup)(B:Loc X.env.scope x)(F:X.fn x=true\/X.env.scope.names.lookup x=some .local):zE X O (.Name x pos) (aL i):=uG (yD q h B F) n
theorem a7(i:Nat)(B:PD X O e f:=by trivial)(q:X.N.Nodup:=by assumption)(hi:X.N[i]?=some x:=by rfl)(F:Loc X.env.scope x:=by first|exact UQ rfl|exact VL rfl)(h:Sub O' (O.filter (· != i))=true:=by rfl)(hs:UM e (some (.Name x pos')) pos.line X.env=pure false:=by rfl)(G:X.fn x=true\/X.env.scope.names.lookup x=some .local:=by first|exact .inl rfl|exact .inr rfl):iY X L O (.Assign [.Name x pos'] e pos) (cP i f) O':=yS q hi F B h hs G
theorem dR(i:Nat)(q:PF X O e f:=by trivial)(G:X.N.Nodup:=by assumption)(hi:X.N[i]?=some x:=by rfl)(J:Loc X.env.scope x:=by first|exact UQ rfl|exact VL rfl)(h:Sub O' (i::O)=true:=by rfl)(F:O.contains i=false:=by rfl)(hs:UM e (some (.Name x pos')) pos.line X.env=pure false:=by rfl)(B:X.fn x=true\/X.env.scope.names.lookup x=some .local:=by first|exact .inl rfl|exact .inr rfl):iY X L O (.Assign [.Name x pos'] e pos) (cP i f) O':=C7 G hi J q h F hs B
theorem jS(i:Nat)(q:PD X O e f:=by trivial)(G:PE X o (kE i):=by exact pv _)(N:mem O i=true:=by rfl)(U:WT o "append" X.env (eval o X.env)=eval o X.env:=by rfl)(M:((((TU cpos (S0 [e] X.env)).all λx=>!x.fst) && (backToKw cpos (X1 [] X.env)).all λx=>x.fst.isSome) && decide (([e].length+([]:List VI).length+if([]:List VI).isEmpty=true then 0 else 1)<30))=true:=by rfl)(J:(apos.endLine == cpos.line)=true:=by rfl)(B:S0 [e] X.env=(false,eval e X.env)::S0 [] X.env:=by rfl)(W:((TU cpos (S0 [] X.env)).any λx=>x.fst)=false:=by rfl)(hs:UM (.Call (.Attribute o "append" apos) [e] [] cpos) none pos.line X.env=pure false:=by rfl)(h:Sub O' O=true:=by rfl):iY X L O (.Expr (.Call (.Attribute o "append" apos) [e] [] cpos) pos) (sQ i f) O':=vL G q N (fQ XQ PySem.F.slot_list_append PySem.F.type_list_append p7 G (bJ (PD.pe q) dQ (hs:=B)) U M J B W) hs h
theorem aU(q:PD X O e f:=by trivial):c7 X L O [.Return (some e) pos] (BF f) O':=aS (FW q)
theorem RD(q:c7 X L O a f O')(F:c7 X L O b k O')(B:oP X O c g:=by trivial):iY X L O (.If c a b pos) (qO g f k) O':=wK B q F
theorem eB(q:c7 X L O a f O')(B:oP X O c g:=by trivial)(h:Sub O' O=true:=by rfl):iY X L O (.If c a [] pos) (qO g f IU) O':=wK B q (xQ h)
theorem Q3{st:Stmt}:c7 X L O [st] ID O':=aS AJ
theorem bU{c:Expr}{st:Stmt}{pos:Pos}{g:Bv}(q:oP X O c g:=by trivial)(h:Sub O' O=true:=by rfl):iY X L O (.If c [st] [] pos) (qO g ID IU) O':=wK q Q3 (xQ h)
theorem cQ(q B:List Nat)(N:c7 X ⟨B,q⟩ q body b q)(hi:PDI X O tg iter f:=by trivial)(F:zE X q tg g:=by trivial)(M:PassesOwn (model X.prog X.w) X.A X.env X.xe:=by exact PassesOwn.never)(J:X.calm=true:=by rfl)(h1:Sub q O=true:=by rfl)(h2:Sub O' q=true:=by rfl)(G:Sub O' B=true:=by rfl)(hs:∀x,V5 iter X.env x=pure x:=by intro _;rfl):iY X L O (.For tg iter body [] pos) (sT f g b) O':=FF M J hi F N h1 h2 G hs
theorem ET(i:Nat)(J:PD X O value fe:=by trivial)(G:PB X O k fk:=by trivial)(M:X.A.units+1<cLine:=by assumption)(N:PE X o (kE i):=by exact pv _)(F:mem O i=true:=by rfl)(h:Sub O' O=true:=by rfl)(hs:UM value (some (.Subscript o k pos')) pos.line X.env=pure false:=by rfl)(q:swapsWithSole [.Subscript o k pos'] value pos.line X.env=pure false:=by rfl)(hw:swappedStores [.Subscript o k pos'] value X.env=pure none:=by rfl)
  (B:∀ {to ti:TE} {t:EZ},PE X o to->PE X k ti->II X t->PG X (.Subscript o k pos') (MR to ti t):=by intro _ _ _ a b c;exact D0 a b c):iY X L O (.Assign [.Subscript o k pos'] value pos) (MQ i fk fe) O':=GX M N G J F h hs q hw B
theorem oB(q:PB X O e f:=by trivial)(hs:UM e none pos.line X.env=pure false:=by rfl)(h:Sub O' O=true:=by rfl):iY X L O (.Expr e pos) (EQ f) O':=CO q hs h
theorem bN(σ:SZ)(N:List Str)(ms:List (Option Nat))(hi:PDI X O tg iter it:=by trivial)(B:∀C s H fp,N.Nodup->zE (My.aX X N scope (gQ X.env.cells scope.names []) C s H fp) [] tg g:=by intros;trivial)(J:∀C s H fp,My.BE (My.aX X N scope (gQ X.env.cells scope.names []) C s H fp) ifs (tDT [] c):=by intros;trivial)(F:∀C s H fp,PD (My.aX X N scope (gQ X.env.cells scope.names []) C s H fp) [] elt f:=by intros;trivial)
  (Y:X.env.cells=W1 (σ.heap.objs.size+1) X.env.scope.names []:=by rfl) (q:dF X scope N ms:=by repeat' first|exact VH|exact rfl|exact UQ rfl|constructor) (W:N.Nodup:=by decide)
  (M:X.calm=true:=by rfl) (G:scope.kind=.function:=by rfl) (h:EU scope.names X.env.scope.names=true:=by rfl) (U:(ms.all λo=>match o with|some i=>!O.contains i|none=>true)=true:=by rfl) (hs:∀x,V5 iter X.env x=pure x:=by intro _;rfl):PF X O (.ListComp elt [⟨tg,iter,ifs,0⟩] scope pos) (eU ms it g c f):=HJ M (EG G h Y) q U hi (λC s H fp=>B C s H fp W) J F hs
theorem gI(i:Nat)(σ:SZ)(N:List Str)(ms:List (Option Nat))(hi:PDI X O tg iter it:=by trivial)(J:∀C s H fp,N.Nodup->zE (My.aX X N scope (gQ X.env.cells scope.names []) C s H fp) [] tg g:=by intros;trivial)(ht:∀C s H fp,My.BE (My.aX X N scope (gQ X.env.cells scope.names []) C s H fp) ifs (tDT [] c):=by intros;trivial)(M:∀C s H fp,PD (My.aX X N scope (gQ X.env.cells scope.names []) C s H fp) [] elt f:=by intros;trivial)
  (hx:X.env.cells=W1 (σ.heap.objs.size+1) X.env.scope.names []:=by rfl) (G:dF X scope N ms:=by repeat' first|exact VH|exact rfl|exact UQ rfl|constructor) (hN:N.Nodup:=by decide)
  (hc:X.calm=true:=by rfl) (W:scope.kind=.function:=by rfl) (h:EU scope.names X.env.scope.names=true:=by rfl) (hn:(ms.all λo=>match o with|some i=>!O.contains i|none=>true)=true:=by rfl) (hs:∀x,V5 iter X.env x=pure x:=by intro _;rfl)
  (Y:X.N.Nodup:=by assumption) (F:X.N[i]?=some x:=by rfl) (hl:Loc X.env.scope x:=by first|exact UQ rfl|exact VL rfl) (q:Sub O' (O.filter (· != i))=true:=by rfl) (B:UM (.ListComp elt [⟨tg,iter,ifs,0⟩] scope pos) (some (.Name x pos')) spos.line X.env=pure true:=by rfl) (U:X.fn x=true\/X.env.scope.names.lookup x=some .local:=by first|exact .inl rfl|exact .inr rfl) :
  iY X L O (.Assign [.Name x pos'] (.ListComp elt [⟨tg,iter,ifs,0⟩] scope pos) spos) (cP i (eU ms it g c f)) O':=CW Y F hl hc (EG W h hx) G hn hi (λC s H fp=>J C s H fp hN) ht M q hs B U
end
theorem fx{Q:S6}{w:World}{K:S2}{mg:Str->Option Value}{base:Heap}{x:Str}{k:Nat}{ps:List Str}{F:List D->Option D}(B:List D->Option D)(h:Fn Q w K mg base x k ps F)(e:F=B:=by rfl):Fn Q w K mg base x k ps B:=e ▸ h
noncomputable def M0:List Str->(List Value->Prop)->Prop
 | [],Q=>Q []
 | _::ps,Q=>∀u,M0 ps λus=>Q (u::us)
theorem FV{ps:List Str}{Q:List Value->Prop}(h:M0 ps Q){q:List Value}(e:q.length=ps.length):Q q:=by
 induction ps generalizing q Q with
 | nil=>rw[List.length_eq_zero_iff.mp e];exact h
 | cons a ps ih=>
  cases q with
  | nil=>cases e
  | cons u q=>exact ih (h u) (Nat.succ.inj e)
def Bd(st:Stmt)(x:Str)(ps:List Str):Prop:=∀(kV doc pm:Value) (an:Option Addr) (cdv ct:Value),M0 ps λq=>bindArgs (VE x x (cY st) (bP st) (aK st) .none kV doc pm an cdv ct) ⟨q,[]⟩=pure (ps.zip q)
def De(K:S2)(x:Str)(st:Stmt):Prop:=∃f,WC K UC x=some (some (.ref f))/\Fe K x st f
def Des(K:S2)(tp:Nat->Stmt)(t:List (Str×Nat×List Str)):Prop:=∀p∈t,De K p.1 (tp p.2.1)
theorem Des.nil{K:S2}{tp:Nat->Stmt}:Des K tp []:=λ_ h=>nomatch h
theorem Des.cons{K:S2}{tp:Nat->Stmt}{x:Str}{i:Nat}{ps:List Str}{t:List (Str×Nat×List Str)}{f:Addr}{M:Value}{od G:Option Addr}{F:Array (Option Value)}{kV B J q ct:Value}(a:WC K UC x=some (some (.ref f)))(l:K.lookup f=some ⟨M,od,.func (VE x x (cY (tp i)) (bP (tp i)) (aK (tp i)) .none kV B J G q ct),F⟩)(c:W3 K q x=true)(k:WG K (.ref f)=true)(r:Des K tp t):Des K tp ((x,i,ps)::t):=
 ZT.2 ⟨⟨f,a,Fe.mk l c k⟩,r⟩
def Bds(tp:Nat->Stmt)(t:List (Str×Nat×List Str)):Prop:=∀p∈t,Bd (tp p.2.1) p.1 p.2.2
theorem Bds.nil:Bds tp []:=λ_ h=>nomatch h
theorem Bds.cons(a:Bd (tp i) x ps)(r:Bds tp t):Bds tp ((x,i,ps)::t):=ZT.2 ⟨a,r⟩
theorem Des.d{K:S2}{h:Heap}{mg:Str->Option Value}{tp:Nat->Stmt}{t:List (Str×Nat×List Str)}(X:K.In h)(G:h.Ns UC mg)(D:Des K tp t)(B:Bds tp t):∀p∈t,My.DefAt K mg p.1 (tp p.2.1) p.2.2:=λp J=>let ⟨_,a,e⟩:=D p J;e.d (YF X G a) λkV q N M F ct U=>FV (B p J kV q N M F ct)
def Nos(K:S2)(t:List Str):Prop:=∀x∈t,WC K UC x=some none
theorem Nos.nil{K:S2}:Nos K []:=λ_ h=>nomatch h
theorem Nos.cons{K:S2}{x:Str}{t:List Str}(a:WC K UC x=some none)(r:Nos K t):Nos K (x::t):=ZT.2 ⟨a,r⟩
def Gis(K:S2)(t:List (Str×Int)):Prop:=∀p∈t,∃k,WC K UC p.1=some (some (.int p.2 k))
theorem Gis.nil{K:S2}:Gis K []:=λ_ h=>nomatch h
theorem Gis.cons{K:S2}{x:Str}{n:Int}{k:Tok}{t:List (Str×Int)}(a:WC K UC x=some (some (.int n k)))(r:Gis K t):Gis K ((x,n)::t):=ZT.2 ⟨⟨k,a⟩,r⟩
theorem Gis.d{K:S2}{h:Heap}{mg:Str->Option Value}{t:List (Str×Int)}(X:K.In h)(G:h.Ns UC mg)(D:Gis K t):∀p∈t,GInt mg p.1 p.2:=λp q=>let ⟨_,a⟩:=D p q;⟨⟨_,YF X G a⟩⟩
theorem oC{w:List D}{c:Int}(h0:0<=c)(h1:c<=(w.length:Int)):cutD w none (some c)=w.take c.toNat/\cutD w (some c) none=w.drop c.toNat:=by
 have F:HT.sIx w.length w.length (some c)=c.toNat:=by
  show(if c<0 then _ else min c.toNat w.length)=_;rw[if_neg (by lia)];lia
 have q:HT.sIx w.length 0 (some c)=c.toNat:=by
  show(if c<0 then _ else min c.toNat w.length)=_;rw[if_neg (by lia)];lia
 have G:HT.sIx w.length 0 none=0:=rfl;have B:HT.sIx w.length w.length none=w.length:=rfl;unfold cutD;rw[F,q,G,B];constructor
 ·simp
 ·rw[List.take_of_length_le (by simp)]
section
variable {ρ ρ':cC}{f g:Ev}{a b:Bv}{l:Lv}{x y d r:D}{xs:List D}{i j:Int}{k:Nat}{s t:Sv}{o:Option Out}
theorem KN(h:ρ[k]?=some (some x)):aC k ρ=some x:=by unfold aC;rw[h];rfl
theorem RO:eC x ρ=some x:=rfl
theorem aI{w:D->D->Option D}(B:f ρ=some x)(q:g ρ=some y)(F:w x y=some r):aT w f g ρ=some r:=by unfold aT;rw[B,aA,q,aA,F]
theorem aH{F:List D->Option D}(h:l ρ=some xs)(k:F xs=some r):aP F l ρ=some r:=by unfold aP;rw[h,aA,k]
theorem aB(h:f ρ=some x)(k:l ρ=some xs):aE f l ρ=some (x::xs):=by unfold aE;rw[h,aA,k,aA]
theorem wW(h:l ρ=some xs):iV l ρ=some (.tup xs):=by unfold iV;rw[h,aF]
theorem eL(h:l ρ=some xs):sR l ρ=some (.lst xs):=by unfold sR;rw[h,aF]
theorem gP(h:f ρ=some (.int i)):jT f ρ=some (some i):=by unfold jT;rw[h,aA];rfl
theorem lK{w:D->Option Int->Option Int->Option D}{u v:Ov}{p q:Option Int}(G:f ρ=some x)(B:u ρ=some p)(J:v ρ=some q)(F:w x p q=some r):FC w f u v ρ=some r:=by unfold FC;rw[G,aA,B,aA,J,aA,F]
theorem L5(h:f ρ=some (.int i)):MV f ρ=some (.int (-i)):=by unfold MV;rw[h,aA];rfl
theorem cE{c:Bool}(h:f ρ=some (.bl c)):eN f ρ=some c:=by unfold eN;rw[h,aA];rfl
theorem D3{c:Bool}(h:a ρ=some c):E8 a ρ=some (!c):=by unfold E8;rw[h,aF]
noncomputable def P3{α:Type}(c:Bool)(u v:α):α:=if c=true then u else v
theorem PC{q:Type}{c:Bool}{u v w:q}(h:c=true)(k:u=w):P3 c u v=w:=(if_pos h).trans k
theorem A8{q:Type}{c:Bool}{u v w:q}(h:c=false)(k:v=w):P3 c u v=w:=(if_neg (by rw[h];exact nofun)).trans k
theorem KI{c:Bool}{z:Option Bool}(h:a ρ=some c)(k:P3 c (b ρ) (some false)=z):oY a b ρ=z:=by unfold oY;rw[h,aA];exact k
theorem u6{c:Bool}{z:Option Bool}(h:a ρ=some c)(k:P3 c (some true) (b ρ)=z):QA a b ρ=z:=by unfold QA;rw[h,aA];exact k
theorem NU{c:Bool}(h:a ρ=some c)(k:P3 c (s ρ) (t ρ)=o):qO a s t ρ=o:=by unfold qO;rw[h,aA];exact k
def sq(p:Out)(t:Sv):Option Out:=match p with
 | .nx ρ=>t ρ
 | p=>some p
theorem KJ{p:Out}(h:s ρ=some p)(k:sq p t=o):cN s t ρ=o:=by unfold cN;rw[h,aA];exact k
theorem N2(k:t ρ=o):sq (.nx ρ) t=o:=k
theorem c6(h:f ρ=some x):BF f ρ=some (.rt x):=RQ h
theorem s_iff(h:a ρ=some false)(k:t ρ=o):qO a s t ρ=o:=(Q4 h).trans k
theorem MA{w:Gv}(h:f ρ=some x)(k:w x ρ=some ρ'):MY f w ρ=some (.nx ρ'):=by unfold MY;rw[h,aA,k,aF]
theorem wY(h:aC k ρ=some (.lst xs))(e:f ρ=some x)(z:xs.length<=1000000):sQ k f ρ=some (.nx (ρ.set k (some (.lst (xs++[x]))))):=by
 unfold sQ;rw[h,aA];show(f ρ).bind _=_;rw[e,aA];exact if_pos (decide_eq_true z)
theorem eK{u v:List D}(z:u.length+v.length<=1000000):aY (.lst u) (.lst v)=some (.lst (u++v)):=if_pos (decide_eq_true z)
theorem GH{u:List D}(z:u.length+1<=1000000):aY (.lst u) (.lst [x])=some (.lst (u++[x])):=eK z
theorem OE(h:kH xs i=some x):aN (.lst xs) (.int i)=some x:=h
theorem J8(h:kH xs i=some x):aN (.tup xs) (.int i)=some x:=h
theorem bE{ms:List (Option Nat)}{w:Gv}{ds:List D}(h:l ρ=some xs)(z:xs.length<=1000000)(e:aV w a f xs (qP ms ρ)=some ds):eU ms l w a f ρ=some (.lst ds):=by unfold eU;rw[h,aA];exact(if_pos (decide_eq_true z)).trans (by rw[e,aF])
theorem K3{w:Gv}:aV w a f [] ρ=some []:=rfl
theorem cI{w:Gv}{ds:List D}(h:w x ρ=some ρ')(k:a ρ'=some true)(e:f ρ'=some y)(r:aV w a f xs ρ'=some ds):aV w a f (x::xs) ρ=some (y::ds):=by rw[aV,h,aA,k,aA,if_pos rfl,e,aA,r,aA]
theorem EN{w:Gv}(h:w x ρ=some ρ')(k:s ρ'=o):turn w s x ρ=o:=by unfold turn;rw[h,aA,k]
theorem J6{w:Gv}(h:l ρ=some xs)(k:eM w s xs ρ=o):sT l w s ρ=o:=by unfold sT;rw[h,aA,k]
theorem L7{w:Gv}:eM w s [] ρ=some (.nx ρ):=rfl
theorem F8{w:Gv}(h:turn w s x ρ=some (.nx ρ'))(k:eM w s xs ρ'=o):eM w s (x::xs) ρ=o:=by
 unfold turn at h;obtain⟨ρ1,q,B⟩:=bind_some h;unfold eM;rw[q,aA,B,aA];exact k
theorem G7{ys:List D}(h:l ρ=some [x])(e:(qH x).map (gM 0)=some ys):zA l ρ=some ys:=by unfold zA;rw[h,aA];exact e
theorem dS(h:f ρ=some (.lst xs)):fP f ρ=some xs:=by unfold fP;rw[h,aA]
theorem NX{w:List D->Option (List D)}{ys:List D}(h:l ρ=some xs)(k:w xs=some ys):lR w l ρ=some ys:=by unfold lR;rw[h,aA,k]
theorem JT{u:Ev}{w:List D}(B:f ρ=some (.lst w))(q:g ρ=some (.int i))(F:u ρ=some (.lst [x]))(h0:0<=i)(h1:i<w.length)(G:w.length<=1000) :
  aT aY (aT aY (FC iW f oM (jT g)) u) (FC iW f (jT (aT aY g (eC (.int 1)))) oM) ρ=some (.lst (w.take i.toNat++x::w.drop (i.toNat+1))):=by
 obtain⟨n,rfl⟩:=YG h0;refine(aI (aI (lK B rfl (gP q) rfl) F (eK ?_)) (lK B (gP (aI q rfl rfl)) rfl rfl) (eK ?_)).trans ?_
 all_goals rw[(oC h0 (by lia)).1]
 ·simp;lia
 ·rw[(oC (by lia) (by lia)).2];simp;lia
 ·rw[(oC (by lia) (by lia)).2];simp
end
def hide(p:Addr)(H:Hp):Hp:=λb=>if b=p then none else H b
section
variable {A A0:Av}{H H0 H':Hp}{p:Addr}
theorem hide_ne{b:Addr}(n:b≠p):hide p H b=H b:=if_neg n
theorem lX{b:Addr}{u:HO}(n:b≠p)(h:Rd H b u):Rd (hide p H) b u:=by
 rcases h with h|⟨o,h⟩
 ·exact .inl (by rw[hide_ne n];exact h)
 ·exact .inr ⟨o,by rw[hide_ne n];exact h⟩
mutual
theorem Rep.hide(q:A p)(B:∀xs,H p≠some (.tup xs)){d:D}{v:V}:Rep A H d v->Rep A (hide p H) d v
 | .non=>.non
 | .bl b=>.bl b
 | .int i=>.int i
 | .str s=>.str s
 | .tup h r=>.tup (by rw[hide_ne (λz=>by subst z;exact B _ h)];exact h) (RepL.hide q B r)
 | .lst n h r=>.lst n (lX (λz=>n (z ▸ q)) h) (RepL.hide q B r)
 | .dK n h e r=>.dK n (lX (λz=>n (z ▸ q)) h) e (RepL.hide q B r)
 | .dT n h e r=>.dT n (lX (λz=>n (z ▸ q)) h) e (RepL.hide q B r)
theorem RepL.hide(q:A p)(B:∀xs,H p≠some (.tup xs)){ds:List D}{vs:List V}:RepL A H ds vs->RepL A (hide p H) ds vs
 | .nil=>.nil
 | .cons h t=>.cons (Rep.hide q B h) (RepL.hide q B t)
end
abbrev SR(A:Av)(p:Addr):Av:=λb=>A b/\b≠p
abbrev RE(A:Av)(p:Addr)(H H':Hp):Prop:=Ext (SR A p) (hide p H) H'
end
inductive OutQ where
 | nx (ρ:cC)|rt (d l:D)
abbrev Qv:=cC->Option OutQ
section
variable {X:Cx}{z:Nat}
def SE(n:Nat)(F:List D->Option (D×D)):Sp:=λvs H Q _=>∃(A:Av) (p:Addr) (v0:V) (us:List V) (d0:D) (es:List D) (l d l':D),vs=v0::.ref p::us/\us.length+2=n/\Live A H/\A p/\Rep A H d0 v0/\RepL A H es us/\Own A H l p/\F (d0::l::es)=some (d,l') /\
 ∀v H',RE A p H H'->Own A H' l' p->Rep A H' d v->Q v H'
def FnQ(P:S6)(w:World)(K:S2)(mg:Str->Option Value)(base:Heap)(x:Str)(k:Nat)(ps:List Str)(F:List D->Option (D×D)):Prop:=My.Ok P w K mg base x k ps (SE ps.length F)
theorem FnQ.mono{P:S6}{w:World}{K:S2}{mg:Str->Option Value}{base:Heap}{x:Str}{j k:Nat}{ps:List Str}{F:List D->Option (D×D)}(h:FnQ P w K mg base x j ps F)(l:j<=k):FnQ P w K mg base x k ps F:=My.Ok.mono h l
end
section
variable {A A0:Av}{H H0 H':Hp}{p D':Addr}{E:List Fact}{z zc:Nat}{σ:L2.St}{ρ:cC}
end
section
variable {X:Cx}{z:Nat}
end
section
variable {X:Cx}{L:Lp}{O:List Nat}
end
section
variable {X:Cx}{O:List Nat}
theorem ST.add{H0:Hp}{A0 A:Av}{E:List Fact}{σ:L2.St}{H H':Hp}{ρ:cC}{a:Addr}(s:ST H0 A0 A E O σ H ρ)(x:Ext A H H')(n:H a=none)(h:H' a≠none):ST H0 A0 (λb=>A b\/b=a) E O σ H' ρ:=by
 have F:∀b,(A b\/b=a)->A b\/H b=none:=λb q=>q.imp id λz=>by rw[z];exact n
 have B:Ext (λb=>A b\/b=a) H H':=⟨x.rd,x.kp,λb u m e=>m.elim (λm=>x.ow b u m e) (λm=>by subst m;rw[n]at e;cases e),x.fz⟩;have s':=s.mono x;refine⟨s'.ex,λb q=>.inl (s.sub b q),s.l0,λb q=>?_,s.len,λi d e k=>?_,λi d e k=>?_,s.inj,λp M=>Fact.ext B (Fact.av F (s.ext p M))⟩
 ·rcases q with q|q
  ·exact s'.live b q
  ·rw[q];exact h
 ·obtain⟨v,h1,h2⟩:=s.val i d e k
  exact⟨v,h1,(h2.av F).ext B⟩
 ·obtain⟨b,h1,h2,J,G⟩:=s.own i d e k
  exact⟨b,h1,.inl h2,J,(G.av F).ext B (.inl h2)⟩
def EF(F:List D->Option (D×D))(f0 fl:Ev)(fs:Lv):Ev:=λρ=>(f0 ρ).bind λd0=>(fl ρ).bind λl=>(fs ρ).bind λes=>match l with
 | .lst _=>(F (d0::l::es)).map (·.1)
 | _=>none
theorem CI{x:Str}{k:Nat}{ps:List Str}{F:List D->Option (D×D)}{B el:Expr}{es:List Expr}{f0 fl:Ev}{fs:Lv}{p pos:Pos}(O':FnQ X.prog X.w X.K X.mg X.base x k ps F)(hr:Room k X.A)(hg:Gl X x)(h0:PD X O B f0)(hp:PF X O el fl)(ha:vC X O es fs)(hl:∀ρ ds,fs ρ=some ds->ds.length+2=ps.length)(U:(x == ("__debug__" : Str))=false:=by decide)
  (he:S0 (B::el::es) X.env=(false,eval B X.env)::S0 (el::es) X.env:=by rfl) (W:S0 (el::es) X.env=(false,eval el X.env)::S0 es X.env:=by rfl) (Y:(TU pos (S0 (el::es) X.env)).any (·.1)=false:=by rfl) :
  PD X O (.Call (.Name x p) (B::el::es) [] pos) (EF F f0 fl fs):=PE.mono (My.jF O' hr hg (bJ h0 (bJ hp ha W) he) U he Y) λσ H Q ⟨H0,A0,A,E,ρ,d,st,e,q⟩=>by
 obtain⟨d0,B,e⟩:=bind_some e;obtain⟨l,e1,e⟩:=bind_some e;obtain⟨ds,e2,e⟩:=bind_some e;cases l with
 | lst l=>
  obtain⟨⟨d',l'⟩,e3,rfl⟩:=map_some e;refine⟨H0,A0,A,E,ρ,d0,st,B,λv0 H1 M r1=>⟨H0,A0,A,E,ρ,.lst l,st.mono M,e1,λa H2 G n na o=>?_⟩⟩;cases o with
  | @lst _ _ xs h r=>
   have s2:=(st.mono M).add G n (by rw[h];exact nofun);refine⟨H0,A0,_,E,ρ,ds,s2,e2,λus H3 J r3=>?_⟩;have n0:H a=none:=M.free n;have aa:Ext (λb=>A b\/b=a) H1 H2:=⟨G.rd,G.kp,λb u m e=>m.elim (λm=>G.ow b u m e) (λm=>by subst m;rw[n]at e;cases e),G.fz⟩;have r0:Rep (λb=>A b\/b=a) H3 d0 v0:=((r1.av λb hb=>hb.imp id λz=>by rw[z];exact n).ext aa).ext J;have h3:H3 a=some (.lst xs):=J.ow a _ (.inr rfl) h;refine⟨λb=>A b\/b=a,a,v0,us,d0,ds,.lst l,d',l',rfl,by rw[r3.length];exact hl ρ ds e2,(s2.mono J).live,.inr rfl,r0,r3.toL,.lst h3 (r.ext J),e3,λv H' x o r=>?_⟩
   ·have N:=(M.trans G).trans (J.mono λ_ h=>.inl h)
    have ne:∀ {b u},H b=some u->b≠a:=λh z=>by rw[z,n0]at h;cases h
    refine q v H' ⟨λb u h=>?_,λb u k h=>?_,λb u m h=>?_,λb o u h=>?_⟩ (r.av λb hb=>.inl (.inl hb))
    ·exact x.rd b u (lX (by rcases h with h|⟨_,h⟩ <;> exact ne h) (N.rd b u h))
    ·exact x.kp b u k (by rw[hide_ne (ne h)];exact N.kp b u k h)
    ·exact x.ow b u ⟨.inl m,ne h⟩ (by rw[hide_ne (ne h)];exact N.ow b u m h)
    ·exact x.fz b o u (by rw[hide_ne (ne h)];exact N.fz b o u h)
 | _=>cases e
end
section
variable {X:Cx}{z:Nat}
theorem wN{O:List Nat}{x:Str}{k j m:Nat}{ps:List Str}{F:List D->Option (D×D)}{q el:Expr}{es:List Expr}{f0 fl:Ev}{fs:Lv}{p pos:Pos}(O':FnQ X.prog X.w X.K X.mg X.base x k ps F)(U:Room j X.A)(h0:PD X O q f0)(hp:PF X O el fl)(W:vC X O es fs)(hl:Len fs m)(hm:m+2=ps.length)(Y:k<=j)(M:Gl X x:=by rfl)(B:(x == ("__debug__" : Str))=false:=by decide)
  (N:S0 (q::el::es) X.env=(false,eval q X.env)::S0 (el::es) X.env:=by rfl) (G:S0 (el::es) X.env=(false,eval el X.env)::S0 es X.env:=by rfl) (J:(TU pos (S0 (el::es) X.env)).any (·.1)=false:=by rfl) :
  PD X O (.Call (.Name x p) (q::el::es) [] pos) (EF F f0 fl fs):=CI (O'.mono Y) U M h0 hp W (λρ ds h=>by rw[hl ρ ds h];exact hm) B N G J
end
section
variable {ρ ρ':cC}{f f0:Ev}{a:Bv}{l fs:Lv}{x y d e:D}{xs es:List D}{i j z:Nat}{s t:Qv}{o:Option OutQ}
theorem bO{d:D}(h:f ρ=some d)(e:ρ.set i (some d)=ρ'):cP i f ρ=some (.nx ρ'):=e ▸ a9 h
end
end P
namespace My
open PySem PySem.Spec PyProof.Rows L2 PySem.Builtin PySem.Builtin.Str
section
variable {X:Cx}
theorem pY:∀l:List (Str×Tok),Vals ((l.map (·.1)).map V.str) (strValues l)
 | []=>.nil
 | p::l=>.cons ⟨_,rfl⟩ (pY l)
def DI:V->List V->Hp->VK->Prop:=λx vs H Q=>∃s y:Str,x=.str s/\vs=[.str y]/\(y.length == 0)=false/\s.length<=S7/\(V2 s y).length<=S7/\∀a,H a=none->Q (.ref a) (upd H a (.lst ((V2 s y).map V.str)))
theorem CY:NH X "str.split" DI:=by
 intro pins s σ H x vs v U Q I M N h;obtain⟨x,y,rfl,rfl,G,hz,F,q⟩:=h;obtain⟨t,rfl⟩:=M;obtain⟨u,rfl,J⟩:=N.one;obtain⟨u,rfl⟩:=J;have fin:∀(l:List (Str×Tok)) (k:Nat),l.map (·.1)=V2 x y->EP X pins σ Q (.ref s.heap.objs.size) {s with heap:=s.heap.push {cls:=.type "list",data:=.seq (strValues l).toArray},toks:=k}:=λl k e=>by
  have B:H s.heap.objs.size=none:=I.hok.fresh (TF _);refine⟨.ref s.heap.objs.size,upd H s.heap.objs.size (.lst ((V2 x y).map V.str)),I.laid (t':=k) (λb u e=>TC _ e) (TF _) ?_,rfl,q _ B⟩;exact⟨by rw[S5];exact F,strValues l,0,e ▸ pY l,TV _ rfl⟩
 cases h1:(decide (x.length<y.length) || decide (strKind x<strKind y))with
 | false=>
  cases B:(occurrences x y 0 x.length (x.length+1)).isEmpty with
  | false=>
   have e:V2 x y=partsBetween x (occurrences x y 0 x.length (x.length+1)) y.length:=(if_neg (ne_true_of_eq_false h1)).trans (if_neg (ne_true_of_eq_false B));refine W6 zas (X0 _ _ _) zat (zau _ _) (meets_str_split_sep x y t u h1 G B hz (e ▸ F)) ?_;show EP X pins σ Q (.ref s.heap.objs.size) {s with toks:=_,heap:=s.heap.push {cls:=.type "list",data:=.seq (strsFrom s.toks (partsBetween x (occurrences x y 0 x.length (x.length+1)) y.length)).toArray} };rw[strsFrom_eq];exact fin _ _ ((numbered_texts _ _).trans e.symm)
  | true=>
   exact W6 zas (X0 _ _ _) zat (zau _ _) (meets_str_split_not_found x y t u h1 G B) (fin [(x,t)] s.toks ((if_neg (ne_true_of_eq_false h1)).trans (if_pos B)).symm)
 | true=>
  exact W6 zas (X0 _ _ _) zat (zau _ _) (meets_str_split_cannot_occur x y t u h1) (fin [(x,t)] s.toks (if_pos h1).symm)
end
end My
namespace P
open PySem PySem.Spec PyProof.Rows L2
section
variable {X:Cx}{O:List Nat}
structure GStr(mg:Str->Option Value)(x s:Str):Prop where
 ex:∃t,mg x=some (.str s t)
theorem GI{x s:Str}{p:Pos}(g:GStr X.mg x s)(B:Gl X x)(F:(x == ("__debug__" : Str))=false:=by decide):PD X O (.Name x p) (eC (.str s)):=by
 obtain⟨t,e⟩:=g.ex;exact PE.mono (rH (v:=.str s) B e ⟨t,rfl⟩ F) λσ H Q ⟨H0,A0,A,E,ρ,d,st,e,q⟩=>by cases e;exact q _ H (Ext.refl _ _) (.str _)
noncomputable def A7:List D->Option D
 | [.int n]=>if n.natAbs.log2<1900 then some (.str (U5 (V1 n)))else none
 | _=>none
theorem K6:eV X (.type "str") A7:=λpins s σ H xs M Q I J h=>by
 obtain⟨A,ds,d,N,r,e,q⟩:=h
 match ds,e,r with
 | [.int n],e,r=>
  by_cases B:n.natAbs.log2<1900
  ·have e:(if n.natAbs.log2<1900 then some (D.str (U5 (V1 n)))else none)=some d:=e
   rw[if_pos B]at e;cases e;obtain⟨v,rfl,G⟩:=r.one;have:=G.int_inv;subst this;obtain⟨u,rfl,F⟩:=J.one;obtain⟨t,rfl⟩:=F;exact PySem.P.str_of_int (UR B (by decide)) ⟨.str _,H,I.tok _,⟨_,rfl⟩,q _ H (Ext.refl _ _) (.str _)⟩
  ·have e:(if n.natAbs.log2<1900 then some (D.str (U5 (V1 n)))else none)=some d:=e
   rw[if_neg B]at e;cases e
def yZ:List D->Option D
 | [.str x]=>if x.length<=640 then(intText? x).map .int else none
 | ds=>E5 ds
theorem GD:eV X (.type "int") yZ:=λpins s σ H xs J Q I F h=>by
 obtain⟨A,ds,d,M,r,e,q⟩:=h;unfold yZ at e;split at e
 ·rename_i x
  by_cases B:x.length<=640
  ·rw[if_pos B]at e
   obtain⟨n,U,rfl⟩:=map_some e;obtain⟨v,rfl,N⟩:=r.one;cases N.str_inv;obtain⟨u,rfl,G⟩:=F.one;obtain⟨t,rfl⟩:=G;exact PySem.W.KIN.call_text U B ⟨.int n,H,I.tok _,⟨_,rfl⟩,q _ H (Ext.refl _ _) (.int _)⟩
  ·rw[if_neg B]at e;cases e
 ·exact K8 pins s σ H xs J Q I F ⟨A,_,d,M,r,e,q⟩
noncomputable def gJ:D->D->Option D
 | .str x,.str y=>if(y.length == 0)=false/\x.length<=1000000/\(V2 x y).length<=1000000 then some (.lst ((V2 x y).map .str))else none
 | _,_=>none
theorem RepL.strs{A:Av}{H:Hp}:∀l:List Str,RepL A H (l.map D.str) (l.map V.str)
 | []=>.nil
 | x::l=>.cons (.str x) (RepL.strs l)
theorem CT{o e:Expr}{apos cpos:Pos}{N U:Ev}(ho:PB X O o N)(W:PB X O e U)(B:∀ {to:TE} {t:TA},PE X o to->PA X [e] t->PE X (.Call (.Attribute o "split" apos) [e] [] cpos) (NG X.K "str" My.DI to t))(hs:S0 [e] X.env=(false,eval e X.env)::S0 [] X.env:=by rfl):PF X O (.Call (.Attribute o "split" apos) [e] [] cpos) (aT gJ N U):=
 PE.mono (B ho (nX W rG hs)) <| by
  rintro σ H Q ⟨H0,A0,A,E,ρ,d,st,e,q⟩;obtain⟨x,ex,e⟩:=bind_some e;obtain⟨y,Y,e⟩:=bind_some e;refine⟨H0,A0,A,E,ρ,x,st,ex,λv H1 F r1=>?_⟩;unfold gJ at e;split at e
  ·rename_i x y _
   by_cases hz:(y.length == 0)=false/\x.length<=1000000/\(V2 x y).length<=1000000
   ·rw[if_pos hz]at e
    cases e;cases r1.str_inv;refine⟨rfl,H0,A0,A,E,ρ,[.str y],st.mono F,by unfold aE a6;rw[Y];rfl,λvs H2 J r2=>?_⟩;obtain⟨w,rfl,G⟩:=r2.one;cases G.str_inv;have s2:=(st.mono F).mono J;have M:(1000000:Nat)<=S7:=by decide
    exact⟨x,y,rfl,rfl,hz.1,UD hz.2.1 M,UD hz.2.2 M,λp B=>q p _ ((F.trans J).trans (Ext.new B)) ((F.trans J).free B) (λz=>s2.live p z B) (.lst aM ((RepL.strs _).fresh B))⟩
   ·rw[if_neg hz]at e;cases e
  ·cases e
theorem Q2{e:Expr}{es:List Expr}{f:Lv}{p pos:Pos}(q:X.mg "str" = none)(F:lM X O (e::es) f)(B:Gl X "str")(hs:isStar e=false)(G:((es:List Expr).all λe=>!isStar e)=true):PD X O (.Call (.Name "str" p) (e::es) [] pos) (aP A7 f):=IR K6 q My.boot_str F B (by decide) (by decide) hs G
theorem OP{e:Expr}{es:List Expr}{f:Lv}{p pos:Pos}(q:X.mg "int" = none)(F:lM X O (e::es) f)(B:Gl X "int")(hs:isStar e=false)(G:((es:List Expr).all λe=>!isStar e)=true):PD X O (.Call (.Name "int" p) (e::es) [] pos) (aP yZ f):=IR GD q My.boot_int F B (by decide) (by decide) hs G
theorem SS{o e:Expr}{apos cpos:Pos}{q B:Ev}(Y:PB X O o q)(M:PB X O e B)(U:WT o "split" X.env (eval o X.env)=eval o X.env)(N:((((TU cpos (S0 [e] X.env)).all λx=>!x.fst) && (backToKw cpos (X1 [] X.env)).all λx=>x.fst.isSome) && decide (([e].length+([]:List VI).length+if([]:List VI).isEmpty=true then 0 else 1)<30))=true)(J:(apos.endLine == cpos.line)=true)(G:S0 [e] X.env=(false,eval e X.env)::S0 [] X.env)(W:((TU cpos (S0 [] X.env)).any λx=>x.fst)=false):PF X O (.Call (.Attribute o "split" apos) [e] [] cpos) (aT gJ q B):=CT Y M (λa b=>fQ XO PySem.F.slot_str_split PySem.F.type_str_split My.CY a b U N J G W) G
theorem RM{a b:Expr}{pos:Pos}{q B:Ev}{j:Nat}(G:Room j X.A)(F:PB X O a q)(M:PB X O b B)(J:VT .In b=false):PD X O (.Compare a [.In] [b] pos) (aT sL q B):=EC (DF G.units) F M J
end
end P
namespace Law
open PySem PySem.Spec PyProof.Rows L2 P
local macro_rules | `(tactic|ac_rfl) => `(tactic|first
 | (with_reducible first|exact RO|exact K3|exact L7|exact rfl|assumption)
 | ((with_reducible apply KN);exact rfl)
 | (with_reducible first|apply N2|apply KJ|apply JT|apply aI|apply aB|apply aH|apply a9|apply wW|apply eL|apply lK|apply gP|apply MA|apply c6|apply NU|apply cE|apply L5|apply bE|apply cI|apply J6|apply F8|apply EN|apply G7|apply dS|apply NX|apply D3|apply KI|apply u6|apply wY) <;> ac_rfl
 | ((with_reducible apply PC);(with_reducible first|exact rfl|(apply decide_eq_true;assumption));ac_rfl)
 | ((with_reducible apply A8);(with_reducible first|exact rfl|(apply decide_eq_false;assumption));ac_rfl)
 | (with_reducible apply PC) <;> ac_rfl
 | (with_reducible apply A8) <;> ac_rfl
 | (with_reducible first|apply a8|apply cM|apply q_eqI|apply OE|apply J8|apply GH|apply eK|apply decide_eq_true|apply decide_eq_false) <;> ac_rfl
 | (show aV _ _ _ _ _=_;assumption)
 | exact rfl
 | exact zar rfl
 | decide
 | lia)
local macro_rules | `(tactic|simp_all[$xs,*]) => `(tactic|simp[-S3, -S4, aA, aF, $xs,*])
noncomputable def top(i:Nat):Stmt:=PySem.Challenge.pw_chiefway_k81_a_books_text.main.body.getD i (.Pass ⟨0,0,0,0⟩)
abbrev s_law:Stmt:=top 67
abbrev tb(x:Str)(i:Nat)(ps:List Str):=(x,i,ps)
def tab:List (Str×Nat×List Str):=[tb "_law_form" 61 ["M", "pairs"],tb "_law_due" 62 ["raw"],tb "_law_joined" 65 ["rows"],tb "show_road" 45 ["kinds", "road"],tb "show_term" 47 ["exponents", "c"],tb "show_make" 46 ["kinds", "make"],tb "show_book" 44 ["book"],tb "_law_names" 54 ["cell", "more", "many"],tb "_law_mixed" 50 ["script", "k"],tb "_law_wheel" 52 ["cell"],tb "_law_number" 51 ["cell"],tb "_law_road" 57 ["script", "at", "many"],tb "_law_deed" 56 ["names", "makes", "at", "n"],tb "_law_pairs" 55 ["script", "at", "n", "cell"],tb "_law_make" 58 ["script", "at", "many", "deeds", "makes"],tb "_law_raw" 59 ["script", "start"],tb "_law_term_word" 63 ["exponents", "c"],tb "_law_rows" 64 ["volume"],tb "_law_whole" 53 ["found"],tb "_law_alike" 60 ["found", "due"],tb "number_of_word" 35 ["word"],tb "wheel_of_row" 38 ["row"],tb "kind_of_row" 39 ["row"],tb "kind_of_word" 36 ["kinds", "word"],tb "road_of_row" 40 ["kinds", "row"],tb "term_of_word" 42 ["word"],tb "make_of_row" 41 ["kinds", "row"],tb "is_whole" 9 ["thing"],tb "wheel" 10 ["thing"],tb "is_name" 23 ["text"],tb "check_kinds" 25 ["kinds"],tb "is_price" 27 ["price"],tb "on" 11 ["M", "n"],tb "roads_of" 26 ["M", "many", "roads"],tb "check_deeds" 31 ["makes"],tb "check_make" 29 ["many", "name", "takes", "gives", "price"],tb "form_of" 15 ["M", "sums"],tb "check_exponents" 14 ["n", "exponents"],tb "form" 13 ["M", "n", "terms"],tb "make_form" 30 ["M", "n", "terms"],tb "makes_of" 28 ["M", "many", "makes"],tb "book" 24 ["M", "kinds", "roads", "makes"],tb "book_of_text" 37 ["text"],tb "read_book" 48 ["text"],tb "_law_read" 66 ["signs"]]
noncomputable def blt:List Str:=["all", "bool", "enumerate", "int", "isinstance", "len", "list", "max", "min", "range", "sorted", "str", "tuple"]
noncomputable def R0:List (Str×Int):=[("MOST_FIGURES",60),("MOST_KINDS",6),("MOST_MAKES",16),("MOST_OF_A_DEED",6),("MOST_POWER",2),("MOST_ROADS",12)]
theorem sc_law:FnScope ["script", "volume", "due", "found"] ["script"] (aK s_law):=⟨rfl,rfl,rfl,by decide +kernel,rfl,by decide +kernel,by decide +kernel⟩
structure Txt(K:S2)(mg:Str->Option Value):Prop where
 d:∀p∈tab,My.DefAt K mg p.1 (top p.2.1) p.2.2
 b:∀x∈blt,mg x=none
 g:∀p∈R0,GInt mg p.1 p.2
 g_WORDS:GTup K mg "WORDS" ["let", "in", "pick", "again"]
 s_FIGURES:GStr mg "FIGURES" "0123456789"
theorem Txt.n{K:S2}{mg:Str->Option Value}(T:Txt K mg){x:Str}(h:x∈blt:=by decide +kernel):mg x=none:=T.b x h
abbrev Tx(P:S6)(w:World)(K:S2)(mg:Str->Option Value)(base:Heap):Prop:=Txt K mg
abbrev Zt(x:Str)(ps:List Str)(k n:Nat):Type:={b:Sv // ∀ {P:S6} {w:World} {K:S2} {mg:Str->Option Value} {base:Heap},Tx P w K mg base->Fn P w K mg base x k ps (bG n b)}
def eD(N:List Str)(i:Nat){x:Str}{ps:List Str}{k:Nat}{b:Sv}(h:∀ {P:S6} {w:World} {K:S2} {mg:Str->Option Value} {base:Heap} {F:Addr} {B:Value} {A:TH} {q:List Env} {H:Hp} {E:XK} (T:Tx P w K mg base) (s:SZ) (nd:N.Nodup) (G:Room k (A.deeper (UT x (aK (top i)) s.heap.objs.size F B))) (hu:(A.deeper (UT x (aK (top i)) s.heap.objs.size F B)).units+1<cLine),∃g,c7 (kC xC P w K mg base N x (aK (top i)) F B A q s H E).nox ⟨[],[]⟩ [] (bP (top i)) g []/\g=b)(m:(x,i,ps)∈tab:=by decide +kernel)(sc:FnScope N ps (aK (top i)):=by exact⟨rfl,rfl,rfl,by decide +kernel,rfl,by decide +kernel,by decide +kernel⟩):Zt x ps (k+1) N.length:=⟨b,λT=>JI (T.d _ m) sc λF B A q s H E G=>h T s sc.nd G (y9 G)⟩
abbrev Zr(x:Str)(ps:List Str)(k n m:Nat):Type:={b:(List D->Option D)->Sv // ∀ {P:S6} {w:World} {K:S2} {mg:Str->Option Value} {base:Heap},Tx P w K mg base->Fn P w K mg base x (k+m+1) ps (w9 n b m)}
def O8(N:List Str)(i:Nat){x:Str}{ps:List Str}{k m:Nat}{b:(List D->Option D)->Sv}(h:∀ {P:S6} {w:World} {K:S2} {mg:Str->Option Value} {base:Heap} {fa:Addr} {cdv:Value} {A:TH} {outer:List Env} {H:Hp} {E:XK} (T:Tx P w K mg base) (R:List D->Option D) (j:Nat) (hj:k<=j) (ih:Fn P w K mg base x j ps R) (s:SZ) (nd:N.Nodup) (hr:Room j (A.deeper (UT x (aK (top i)) s.heap.objs.size fa cdv))) (hu:(A.deeper (UT x (aK (top i)) s.heap.objs.size fa cdv)).units+1<cLine),∃g,c7 (kC xC P w K mg base N x (aK (top i)) fa cdv A outer s H E).nox ⟨[],[]⟩ [] (bP (top i)) g []/\g=b R)(me:(x,i,ps)∈tab:=by decide +kernel)(sc:FnScope N ps (aK (top i)):=by exact⟨rfl,rfl,rfl,by decide +kernel,rfl,by decide +kernel,by decide +kernel⟩):Zr x ps k N.length m:=⟨b,λT=>by
 induction m with
 | zero=>exact HH (T.d _ me) sc
 | succ m ih=>exact JI (T.d _ me) sc λfa cdv A outer s H E hr=>h T _ (k+m+1) (by lia) ih s sc.nd hr (y9 hr)⟩
local macro_rules | `(tactic|exists $x:ident) => `(tactic|(refine' (?f:∀y:(List D -> Option D) -> Sv, Subtype.val $x = y -> (List D -> Option D) -> Sv) _ ?h;(case h => unfold $x;(try unfold O8);(try dsimp only);try exact rfl);(case f => exact λy _ => y)))
local macro_rules | `(tactic|exists $x:ident) => `(tactic|(refine' (?f:∀y:Sv, Subtype.val $x = y -> Sv) _ ?h;(case h => unfold $x;(try unfold eD);(try dsimp only);try exact rfl);(case f => exact λy _ => y)))
theorem Q7{X:Cx}{O:List Nat}{p:Pos}(T:Txt X.K X.mg)(q:Gl X "MOST_FIGURES"):PD X O (.Name "MOST_FIGURES" p) (eC (.int 60)):=gZ (T.g ("MOST_FIGURES",60) (by decide +kernel)) q
theorem QH{X:Cx}{O:List Nat}{p:Pos}(T:Txt X.K X.mg)(q:Gl X "MOST_KINDS"):PD X O (.Name "MOST_KINDS" p) (eC (.int 6)):=gZ (T.g ("MOST_KINDS",6) (by decide +kernel)) q
theorem QF{X:Cx}{O:List Nat}{p:Pos}(T:Txt X.K X.mg)(q:Gl X "MOST_MAKES"):PD X O (.Name "MOST_MAKES" p) (eC (.int 16)):=gZ (T.g ("MOST_MAKES",16) (by decide +kernel)) q
theorem RI{X:Cx}{O:List Nat}{p:Pos}(T:Txt X.K X.mg)(q:Gl X "MOST_OF_A_DEED"):PD X O (.Name "MOST_OF_A_DEED" p) (eC (.int 6)):=gZ (T.g ("MOST_OF_A_DEED",6) (by decide +kernel)) q
theorem QP{X:Cx}{O:List Nat}{p:Pos}(T:Txt X.K X.mg)(q:Gl X "MOST_POWER"):PD X O (.Name "MOST_POWER" p) (eC (.int 2)):=gZ (T.g ("MOST_POWER",2) (by decide +kernel)) q
theorem Q9{X:Cx}{O:List Nat}{p:Pos}(T:Txt X.K X.mg)(q:Gl X "MOST_ROADS"):PD X O (.Name "MOST_ROADS" p) (eC (.int 12)):=gZ (T.g ("MOST_ROADS",12) (by decide +kernel)) q
theorem RA{X:Cx}{O:List Nat}{p:Pos}(T:Txt X.K X.mg)(q:Gl X "FIGURES"):PD X O (.Name "FIGURES" p) (eC (.str "0123456789")):=GI T.s_FIGURES q
theorem gt_0{X:Cx}{O:List Nat}{e:Expr}{f:Ev}{p pos:Pos}(T:Txt X.K X.mg)(q:Gl X "WORDS")(B:PB X O e f):oP X O (.Compare e [.In] [.Name "WORDS" p] pos) (eN (qF (IF false ["let", "in", "pick", "again"]) f)):=HU T.g_WORDS q B
local macro_rules | `(tactic|trivial) => `(tactic|first
 | (show PB _ _ _ _;first|(apply vB <;> trivial)|(apply PD.b <;> trivial))
 | (show PD _ _ _ _;first|(apply vD <;> trivial)|(apply wE <;> trivial)|((first|apply cL|apply aQ|apply R9|apply SL|apply QX|apply wt|apply N4|apply MM|apply KH|apply Q8|apply OP|apply Q2|apply RF|apply N5|apply N8|apply NQ|apply Q7|apply QH|apply QF|apply RI|apply QP|apply Q9|apply NM|apply KZ|apply HM|apply OW|apply RA|apply RM|apply SA|apply ML|apply L9|apply KS|apply CV|apply FT|apply SV|apply PF.d) <;> trivial))
 | (show vC _ _ _ _;((first|apply gX|apply vA) <;> trivial))
 | (show lM _ _ _ _;((first|apply rG|apply BG) <;> trivial))
 | (show Len _ _;((first|apply l0|apply lc) <;> trivial))
 | (show fR _ _ _;((first|apply bB|apply c9|apply iS|apply rY|apply OO|apply J4|apply EI|apply SW|apply SM|apply SN) <;> trivial))
 | (show At _ _ _;first|exact at_ 0|exact at_ 1|exact at_ 2|exact at_ 3|exact at_ 4|exact at_ 5|exact at_ 6|exact at_ 7|exact at_ 8|exact at_ 9|exact at_ 10|exact at_ 11|exact at_ 12)
 | (show oP _ _ _ _;first|((first|apply gt_0|apply Q0|apply QS|apply tc|apply AX|apply vR|apply yU) <;> trivial)|(apply PDW.pt <;> trivial)|(apply yF <;> trivial))
 | (show PDW _ _ _ _;((first|apply xO|apply wU|apply CC|apply GC) <;> trivial))
 | (show JL _ _ _ _;((first|apply uN|apply uP) <;> trivial))
 | (show PDI _ _ _ _ _;((first|apply vT|apply m8|apply B3|apply tZ) <;> trivial))
 | (show zE _ _ _ _;first|(apply gV <;> trivial)|(apply gu 2 <;> trivial)|(apply gu 5 <;> trivial))
 | (show w8 _ _ _ _;((first|apply CD|apply gc) <;> trivial))
 | (show My.BE _ _ _;((first|apply B0|apply C2) <;> trivial))
 | (show PF _ _ _ _;((first|apply wl|apply QW|apply SQ|apply SS) <;> trivial))
 | rfl
 | assumption
 | exact Txt.n (by assumption)
 | exact .inl rfl
 | exact .inr rfl
 | exact .inr (.inl rfl)
 | exact .inr (.inr rfl)
 | exact λ_=>rfl
 | exact λ_ _=>rfl
 | (with_unfolding_all rfl)
 | (constructor <;> rfl)
 | exact TF _
 | (refine UD ?_ (by assumption);decide))
seal PD PB PF vC lM oP PDW PDI JL iY c7 Fn fR TJ UI
def mB:Zt "_law_form" ["M", "pairs"] 1 5:=eD ["M", "pairs", "sums", "exponents", "c"] 61 λT s F B q=>by exact⟨_,(cO [2] (dR 2 nV) (c0 (cQ [2] [] (aS (ET 2))) (aU (IR dO T.n My.boot_tuple (BG (PD.b (PF.d (bN s ["exponents", "sums"] [none,some 2] (tZ (PF.d (fB (vY rfl) T.n My.boot_sorted (by trivial))))))) (by trivial)))))),rfl⟩
def mI:Sv:=by exists mB
def iJ:=bG 5 mI
def qA:Zt "_law_due" ["raw"] 2 4:=eD ["raw", "M", "roads", "makes"] 62 λT s F B q=>by have:=fx iJ (mB.2 T);exact⟨_,(c0 (a7 1) (c0 (a7 2 (IR dO T.n My.boot_tuple (BG (PD.b (PF.d (bN s ["j", "k", "a", "b", "cost", "M"] [none,none,none,none,none,some 1]))) (by trivial)))) (c0 (gI 3 s ["name", "takes", "gives", "pairs", "cost", "M"] [none,none,none,none,none,some 1]) aU))),rfl⟩
def pR:Sv:=by exists qA
def pC:=bG 4 pR
def jA:Zt "_law_joined" ["rows"] 1 1:=eD ["rows"] 65 λT s F B q=>by exact⟨_,(aU (jN (by trivial) (PD.b (PF.d (bN s ["words"] [none]))) (λa b=>(fQ XO YD YE My.jL a b)))),rfl⟩
def i8:Sv:=by exists jA
def i5:=bG 1 i8
def lB:Zt "show_road" ["kinds", "road"] 1 2:=eD ["kinds", "road"] 45 λT s F B q=>by exact⟨_,(aU (jN (by trivial) (PD.b (aQ bB (by trivial) (PD.b (PF.d (bN s ["number"] [none]))))) (λa b=>(fQ XO YD YE My.jL a b)))),rfl⟩
def kP:Sv:=by exists lB
def gC:=bG 2 kP
def kU:Zt "show_term" ["exponents", "c"] 1 2:=eD ["exponents", "c"] 47 λT s F B q=>by exact⟨_,(aU (aQ bB (PD.b (aQ bB (PD.b (jN (by trivial) (PD.b (PF.d (bN s ["exponent"] [none]))) (λa b=>(fQ XO YD YE My.jL a b)))) (by trivial))) (by trivial))),rfl⟩
def tL:Sv:=by exists kU
def kJ:=bG 2 tL
def k5:Zt "show_make" ["kinds", "make"] 2 4:=eD ["kinds", "make", "takes", "terms"] 46 λT s F B q=>by have:=fx kJ (kU.2 T);exact⟨_,(c0 (gI 2 s ["kind", "kinds"] [none,some 0]) (c0 (gI 3 s ["exponents", "c"] [none,none]) aU)),rfl⟩
def k8:Sv:=by exists k5
def gE:=bG 4 k8
def gA:Zt "show_book" ["book"] 3 2:=eD ["book", "rows"] 44 λT s F B q=>by have:=fx gE (k5.2 T);have:=fx gC (lB.2 T);exact⟨_,(cO [1] (dR 1) (cO [1] (iK (i:=1) (pv 1) (PF.d (bN s ["name"] [none])) rfl (fQ XQ zav zaw My.iO (pv 1) (bJ (PD.pe (PF.d (bN s ["name"] [none]))) dQ))) (cO [1] (iK (i:=1) (pv 1) (PF.d (bN s ["road", "book"] [none,some 0])) rfl (fQ XQ zav zaw My.iO (pv 1) (bJ (PD.pe (PF.d (bN s ["road", "book"] [none,some 0]))) dQ))) (c0 (iK (i:=1) (pv 1) (PF.d (bN s ["make", "book"] [none,some 0])) rfl (fQ XQ zav zaw My.iO (pv 1) (bJ (PD.pe (PF.d (bN s ["make", "book"] [none,some 0]))) dQ))) aU)))),rfl⟩
def kW:Sv:=by exists gA
def f7:=bG 2 kW
def kX:Zt "_law_names" ["cell", "more", "many"] 1 12:=eD ["cell", "more", "many", "letters", "size", "spot", "stride", "some", "k", "word", "p", "number"] 54 λT s F B q=>by exact⟨_,(c0 (a7 3) (c0 (a7 4) (c0 (a7 5) (c0 (a7 6) (cO [7] (dR 7) (c0 (cQ [7] [] (cO [7] (a7 9) (cO [7] (cQ [7] [7] (cO [7] (a7 11 (aQ bB (PD.b (aQ bB (PD.b (aQ bR (by trivial) (PD.b (aQ bB (PD.b (aQ bR (by trivial) (by trivial))) (by trivial))))) (PD.b (aQ bR (by trivial) (by trivial))))) (PD.b (aQ bR (PD.b (aQ bR (by trivial) (by trivial))) (by trivial))))) (cO [7] (eB (aS (a7 11 (aQ bB (by trivial) (PD.b (aQ bR (by trivial) (by trivial))))))) (aS (a7 9))))) (cO [7] (eB (aS (a7 9))) (aS (jS 7)))))) aU)))))),rfl⟩
def lC:Sv:=by exists kX
def kL:=bG 12 lC
def cG:Zt "_law_mixed" ["script", "k"] 1 3:=eD ["script", "k", "number"] 50 λT s F B q=>by exact⟨_,(c0 (eB aU) (c0 (a7 2 (aQ bB (PD.b (aQ bR (PD.b (aQ bR (by trivial) (by trivial))) (by trivial))) (by trivial))) (c0 (eB (aS (a7 2 (aQ bB (by trivial) (PD.b (aQ bR (PD.b (aQ c9 (PD.b (xR q (by trivial) (PD.b (aQ c9 (PD.b (aQ bR (by trivial) (by trivial))) (by trivial))) (λ_ _=>rfl))) (by trivial))) (by trivial))))))) (aU (aQ c9 (PD.b (aQ bR (by trivial) (by trivial))) (by trivial)))))),rfl⟩
def d8:Sv:=by exists cG
def aW:=bG 3 d8
def kR:Zt "_law_wheel" ["cell"] 1 1:=eD ["cell"] 52 λT s F B q=>by exact⟨_,(c0 (eB (aU (aQ bB (by trivial) (PD.b (aQ bR (by trivial) (by trivial)))))) (aU (aQ bB (by trivial) (PD.b (aQ bR (by trivial) (PD.b (aQ c9 (by trivial) (PD.b (aQ rY (PD.b (aQ bR (by trivial) (by trivial))) (by trivial)))))))))),rfl⟩
def gD:Sv:=by exists kR
def lI:=bG 1 gD
def eY:Zt "_law_number" ["cell"] 1 1:=eD ["cell"] 51 λT s F B q=>by exact⟨_,(c0 (eB aU) (aU (aQ rY (PD.b (aQ c9 (by trivial) (PD.b (aQ rY (PD.b (aQ bR (by trivial) (by trivial))) (by trivial))))) (by trivial)))),rfl⟩
def eX:Sv:=by exists eY
def b9:=bG 1 eX
def mS:Zt "_law_road" ["script", "at", "many"] 2 8:=eD ["script", "at", "many", "cell", "j", "k", "a", "b"] 57 λT s F B q=>by have:=fx aW (cG.2 T);have:=fx b9 (eY.2 T);exact⟨_,(c0 (a7 3) (c0 (a7 4) (c0 (a7 5) (c0 (a7 6) (c0 (a7 7) aU))))),rfl⟩
def mQ:Sv:=by exists mS
def mX:=bG 8 mQ
def mG:Zt "_law_deed" ["names", "makes", "at", "n"] 1 6:=eD ["names", "makes", "at", "n", "k", "name"] 56 λT s F q B=>by exact⟨_,(c0 (cQ [] [] (c0 (a7 5) (aS (eB aU (lY (DZ q.units0) (PD.b (cB DX T.n My.boot_len (BG (PD.b (PF.d (bN s ["make", "name", "n"] [none,some 5,some 3]))) (by trivial)))) (by trivial) (wF _)))))) aU),rfl⟩
def mR:Sv:=by exists mG
def dM:=bG 6 mR
def kS:Zt "_law_pairs" ["script", "at", "n", "cell"] 2 8:=eD ["script", "at", "n", "cell", "pairs", "t", "number", "digit"] 55 λT s F B q=>by have:=fx aW (cG.2 T);have:=fx b9 (eY.2 T);exact⟨_,(cO [4] (dR 4) (cO [4] (eB (c0 (cQ [4] [] (cO [4] (a7 6 (aQ bB (by trivial) (PD.b (aQ bR (by trivial) (by trivial))))) (aS (jS 4)))) aU)) (c0 (cQ [4] [] (cO [4] (a7 7) (aS (jS 4)))) aU))),rfl⟩
def f9:Sv:=by exists kS
def gG:=bG 8 f9
def iP:Sv:=(cN (cP 5 (dA 4 (aT g4 (aP aW (aE (aC 0) (aE (aC 1) a6))) (eC (.int 2)))))
   (cN (cP 6 (dA 4 (aT aY (eC (.int 1)) (aT cX (aT g4 (aC 5) (eC (.int 3))) (eC (.int 2))))))
   (sE 7 4 dM (aC 3) (aT cX (aC 5) (eC (.int 3))) (aC 6)
   (cN (cP 8 (dA 4 (FC iW (iV (aE (aT cX (aT g4 (aC 5) (eC (.int 6))) (aC 2)) (aE (aT cX (aT g4 (aC 5) (eC (.int 36))) (aC 2)) a6))) oM (jT (aC 6)))))
   (cN (cP 9 (dA 4 (aP aW (aE (aC 0) (aE (aT aY (aC 1) (eC (.int 1))) a6)))))
   (cN (cP 10 (dA 4 (aP gG (aE (aC 0) (aE (aC 1) (aE (aC 6) (aE (aC 9) a6)))))))
   (BF (dA 4 (iV (aE (aC 7) (aE (aC 8) (aE (aT cX (aT g4 (aC 5) (eC (.int 216))) (aC 2)) (aE (aC 10) (aE (aT cX (aT g4 (aC 9) (eC (.int 32))) (aT aY (aT sP (eC (.int 10)) (eC (.int 30))) (eC (.int 1)))) a6))))))))))))))
def e8:List D->Option D:=IE 11 iP
theorem tT{P:S6}{w:World}{K:S2}{mg:Str->Option Value}{base:Heap}(T:Tx P w K mg base):RX P w K mg base "_law_make" 3 ["script", "at", "many", "deeds", "makes"] e8:=LM (T.d ("_law_make",58,["script", "at", "many", "deeds", "makes"]) (by decide +kernel)) (⟨rfl,rfl,rfl,by decide +kernel,rfl,by decide +kernel,by decide +kernel⟩:FnScope ["script", "at", "many", "deeds", "makes", "cell", "n", "name", "takes", "more", "pairs"] ["script", "at", "many", "deeds", "makes"] (aK (top 58))) λJ G A F s H E B=>by
  have M:=y9 B;have q:(["script", "at", "many", "deeds", "makes", "cell", "n", "name", "takes", "more", "pairs"]:List Str).Nodup:=by decide
  refine⟨_,(oE (i:=5) q rfl (UQ rfl) (by decide) (aQ iS (PD.b (cD (fx aW (cG.2 T)) (B.mono (by decide)) (vA (cF 0 (pv 0) (by decide)) (vA (cF 1 (pv 1) (by decide)) gX)) (lc (lc l0)))) (PD.b cL))
   (oE (i:=6) q rfl (UQ rfl) (by decide) (aQ bB (PD.b cL) (PD.b (aQ c9 (PD.b (aQ iS (dP 5 (pv 5)) (PD.b cL))) (PD.b cL))))
   (G9 (i:=7) (fx dM (mG.2 T)) rfl (B.mono (by decide)) rfl (cF 3 (pv 3) (by decide)) (pv 4) (aQ c9 (dP 5 (pv 5)) (PD.b cL)) (cF 6 (pv 6) (by decide)) q rfl (UQ rfl) (by decide)
   (oE (i:=8) q rfl (UQ rfl) (by decide) (uM O7 (PD.b (sD (vA (aQ c9 (PD.b (aQ iS (dP 5 (pv 5)) (PD.b cL))) (dP 2 (pv 2))) (vA (aQ c9 (PD.b (aQ iS (dP 5 (pv 5)) (PD.b cL))) (dP 2 (pv 2))) gX)) (λρ ds h=>by have:=(lc (lc l0)) ρ ds h;lia))) uN (uP (cF 6 (pv 6) (by decide))))
   (oE (i:=9) q rfl (UQ rfl) (by decide) (cD (fx aW (cG.2 T)) (B.mono (by decide)) (vA (cF 0 (pv 0) (by decide)) (vA (aQ bB (dP 1 (pv 1)) (PD.b cL)) gX)) (lc (lc l0)))
   (oE (i:=10) q rfl (UQ rfl) (by decide) (cD (fx gG (kS.2 T)) (B.mono (by decide)) (vA (cF 0 (pv 0) (by decide)) (vA (cF 1 (pv 1) (by decide)) (vA (cF 6 (pv 6) (by decide)) (vA (cF 9 (pv 9) (by decide)) gX)))) (lc (lc (lc (lc l0)))))
   (JY (sD (vA (cF 7 (pv 7) (by decide)) (vA (cF 8 (pv 8) (by decide)) (vA (aQ c9 (PD.b (aQ iS (dP 5 (pv 5)) (PD.b cL))) (dP 2 (pv 2))) (vA (cF 10 (pv 10) (by decide)) (vA (aQ c9 (PD.b (aQ iS (dP 9 (pv 9)) (PD.b cL))) (PD.b (aQ bB (PD.b (aQ EI (PD.b cL) (PD.b cL))) (PD.b cL)))) gX))))) (λρ ds h=>by have:=(lc (lc (lc (lc (lc l0))))) ρ ds h;lia))))))))),?_⟩
  unfold iP
  with_reducible rfl
def qB:Zt "_law_raw" ["script", "start"] 4 9:=eD ["script", "start", "many", "kinds", "deeds", "roads", "makes", "items", "at"] 59 λT s F q B=>by have:=fx aW (cG.2 T);have:=fx kL (kX.2 T);have:=fx mX (mS.2 T);have:=fx lI (kR.2 T);exact⟨_,(c0 (a7 2) (c0 (a7 3) (c0 (a7 4) (cO [5] (dR 5) (cO [5,6] (dR 6) (cO [5,6] (a7 7) (c0 (cQ [5,6] [] (aS (RD (aS (jS 5)) (aS (eB (aS (jS 6 (BL (z:=6) (tT T) (q.mono (by decide)) rfl (by trivial) (by trivial) (by trivial) (by trivial) (pv 6) rfl))))))) (m8 rfl T.n (BG (by trivial) (BG (PD.b (aQ bB (by trivial) (PD.b (aQ bR (by trivial) (by trivial))))) (by trivial))))) aU))))))),rfl⟩
def pB:Sv:=by exists qB
def jY:=bG 9 pB
def fO:Zt "_law_term_word" ["exponents", "c"] 1 2:=eD ["exponents", "c"] 63 λT s F B q=>by exact⟨_,(aU (aQ bB (PD.b (aQ bB (PD.b (jN (by trivial) (PD.b (PF.d (bN s ["k"] [none]))) (λa b=>(fQ XO YD YE My.jL a b)))) (by trivial))) (by trivial))),rfl⟩
def lO:Sv:=by exists fO
def fM:=bG 2 lO
def mU:Zt "_law_rows" ["volume"] 2 13:=eD ["volume", "kinds", "rows", "j", "k", "a", "b", "cost", "name", "takes", "gives", "terms", "words"] 64 λT s F B q=>by have:=fx fM (fO.2 T);exact⟨_,(c0 (a7 1) (cO [2] (dR 2 (KM (by trivial) (PD.b (PF.d (bN s ["kind"] [none]))))) (cO [2] (cQ [2] [2] (aS (jS 2))) (c0 (cQ [2] [] (cO [2] (a7 12 (aQ bB (PD.b (aQ bB (by trivial) (PD.b (PF.d (bN s ["k", "kinds"] [none,some 1]))))) (by trivial))) (aS (jS 2 (aQ bB (by trivial) (PD.b (PF.d (bN s ["exponents", "c"] [none,none])))))))) aU)))),rfl⟩
def mE:Sv:=by exists mU
def mL:=bG 13 mE
def lG:Zt "_law_whole" ["found"] 1 1:=eD ["found"] 53 λT s F B q=>by exact⟨_,aU,rfl⟩
def lF:Sv:=by exists lG
def kN:=bG 1 lF
def lH:Zr "_law_alike" ["found", "due"] 1 3 10:=O8 ["found", "due", "k"] 60 λT R j F ih s G B q=>by have:=fx kN (lG.2 T);exact⟨_,(c0 (eB (c0 (eB aU) (c0 (cQ [] [] (aS (eB aU))) aU))) (c0 (eB aU) aU)),rfl⟩
def bC:(List D->Option D)->Sv:=by exists lH
def lD:=w9 3 bC 10
def bW:Zt "number_of_word" ["word"] 1 1:=eD ["word"] 35 λT s F B q=>by exact⟨_,(c0 (bU (PDW.pt (wU (by trivial) (wU (by trivial) (xO (yU (yF (cB (wD rfl) T.n My.boot_all (BG (PD.b (PF.d (bN s ["sign"] [none]))) (by trivial)))))))))) aU),rfl⟩
def eO:Sv:=by exists bW
def bH:=bG 1 eO
def fV:Zt "wheel_of_row" ["row"] 2 1:=eD ["row"] 38 λT s F B q=>by have:=fx bH (bW.2 T);exact⟨_,(c0 bU aU),rfl⟩
def f6:Sv:=by exists fV
def fZ:=bG 1 f6
def hZ:Zt "kind_of_row" ["row"] 1 1:=eD ["row"] 39 λT s F B q=>by exact⟨_,(c0 bU aU),rfl⟩
def hU:Sv:=by exists hZ
def eJ:=bG 1 hU
def dJ:Zt "kind_of_word" ["kinds", "word"] 1 2:=eD ["kinds", "word"] 36 λT s G q B=>by exact⟨_,(c0 bU (aU (tV q.units (by trivial) (by trivial) (λm h k=>(fQ XQ PySem.F.slot_list_index PySem.F.type_list_index m h k))))),rfl⟩
def fS:Sv:=by exists dJ
def b5:=bG 2 fS
def iD:Zt "road_of_row" ["kinds", "row"] 2 3:=eD ["kinds", "row", "ends"] 40 λT s F B q=>by have:=fx b5 (dJ.2 T);have:=fx bH (bW.2 T);exact⟨_,(c0 bU (c0 (gI 2 s ["word", "kinds"] [none,some 0]) (aU (IR dO T.n My.boot_tuple (BG (PD.b (aQ bB (by trivial) (PD.b (PF.d (bN s ["word"] [none]))))) (by trivial)))))),rfl⟩
def iC:Sv:=by exists iD
def eI:=bG 3 iC
def fU:Zt "term_of_word" ["word"] 2 2:=eD ["word", "parts"] 42 λT s F B q=>by have:=fx bH (bW.2 T);exact⟨_,(c0 (a7 1) (c0 bU (aU (sD (vA (IR dO T.n My.boot_tuple (BG (PD.b (PF.d (bN s ["exponent"] [none]))) (by trivial))) (by trivial)) (λρ ds h=>(by have:=(lc (lc l0)) ρ ds h;lia)))))),rfl⟩
def fY:Sv:=by exists fU
def dH:=bG 2 fY
def g9:Zt "make_of_row" ["kinds", "row"] 3 6:=eD ["kinds", "row", "at", "takes", "gives", "terms"] 41 λT s G q B=>by have:=fx b5 (dJ.2 T);have:=fx bH (bW.2 T);have:=fx dH (fU.2 T);exact⟨_,(c0 bU (c0 (a7 2 (tV q.units (by trivial) (by trivial) (λm h k=>(fQ XQ PySem.F.slot_list_index PySem.F.type_list_index m h k)))) (c0 bU (c0 (a7 3 (IR dO T.n My.boot_tuple (BG (PD.b (PF.d (bN s ["word", "kinds"] [none,some 0]))) (by trivial)))) (c0 (a7 4) (c0 (gI 5 s ["word"] [none]) aU)))))),rfl⟩
def iA:Sv:=by exists g9
def eG:=bG 6 iA
def nI:Zt "is_whole" ["thing"] 1 1:=eD ["thing"] 9 λT s F B q=>by exact⟨_,aU,rfl⟩
def mZ:Sv:=by exists nI
def mJ:=bG 1 mZ
def yW:Zt "wheel" ["thing"] 2 1:=eD ["thing"] 10 λT s F B q=>by have:=fx mJ (nI.2 T);exact⟨_,(c0 bU (c0 bU (c0 bU aU))),rfl⟩
def xM:Sv:=by exists yW
def yY:=bG 1 xM
def jZ:Zt "is_name" ["text"] 1 1:=eD ["text"] 23 λT s F B q=>by exact⟨_,(c0 (eB aU) (aU (cB (wD rfl) T.n My.boot_all (BG (PD.b (PF.d (bN s ["sign"] [none]))) (by trivial))))),rfl⟩
def pO:Sv:=by exists jZ
def j6:=bG 1 pO
def iE:Zt "check_kinds" ["kinds"] 2 3:=eD ["kinds", "number", "kind"] 25 λT s F B q=>by have:=fx j6 (jZ.2 T);exact⟨_,(c0 bU (aS (cQ [] [] (c0 bU (aS bU))))),rfl⟩
def g7:Sv:=by exists iE
def iF:=bG 3 g7
def iQ:Zt "is_price" ["price"] 1 1:=eD ["price"] 27 λT s F B q=>by exact⟨_,aU,rfl⟩
def m9:Sv:=by exists iQ
def iM:=bG 1 m9
def M4:Zt "on" ["M", "n"] 1 2:=eD ["M", "n"] 11 λT s F B q=>by exact⟨_,aU,rfl⟩
def PR:Sv:=by exists M4
def EW:=bG 2 PR
def mM:Zt "roads_of" ["M", "many", "roads"] 2 9:=eD ["M", "many", "roads", "told", "j", "k", "a", "b", "price"] 26 λT s F B q=>by have:=fx iM (iQ.2 T);have:=fx EW (M4.2 T);exact⟨_,(c0 bU (cO [3] (dR 3) (c0 (cQ [3] [] (cO [3] bU (cO [3] bU (aS (jS 3))))) aU))),rfl⟩
def nG:Sv:=by exists mM
def mF:=bG 9 nG
def iB:Zt "check_deeds" ["makes"] 1 8:=eD ["makes", "counted", "name", "takes", "gives", "terms", "price", "deed"] 31 λT s F B q=>by exact⟨_,(cO [1] (dR 1 nV) (aS (cQ [1] [] (cO [1] (a7 7) (cO [1] (ET 1) (aS bU)))))),rfl⟩
def g6:Sv:=by exists iB
def hJ:=bG 8 g6
def i6:Zt "check_make" ["many", "name", "takes", "gives", "price"] 2 6:=eD ["many", "name", "takes", "gives", "price", "kind"] 29 λT s F B q=>by have:=fx j6 (jZ.2 T);have:=fx iM (iQ.2 T);exact⟨_,(c0 bU (c0 bU (c0 (cQ [] [] (aS bU)) (aS bU)))),rfl⟩
def i9:Sv:=by exists i6
def i7:=bG 6 i9
def pZ:Zt "form_of" ["M", "sums"] 2 2:=eD ["M", "sums"] 15 λT s F B q=>by have:=fx EW (M4.2 T);exact⟨_,(aU (IR dO T.n My.boot_tuple (BG (PD.b (PF.d (bN s ["exponents", "c", "M"] [none,none,some 0]))) (by trivial)))),rfl⟩
def pE:Sv:=by exists pZ
def pW:=bG 2 pE
def d5:Zt "check_exponents" ["n", "exponents"] 1 3:=eD ["n", "exponents", "exponent"] 14 λT s F B q=>by exact⟨_,(c0 bU (aS (cQ [] [] (aS bU)))),rfl⟩
def d7:Sv:=by exists d5
def d6:=bG 3 d7
def DU:Zt "form" ["M", "n", "terms"] 3 6:=eD ["M", "n", "terms", "sums", "exponents", "c"] 13 λT s F B q=>by have:=fx d6 (d5.2 T);have:=fx pW (pZ.2 T);exact⟨_,(c0 bU (cO [3] (dR 3 nV) (c0 (cQ [3] [] (cO [3] oB (aS (ET 3)))) aU))),rfl⟩
def DO:Sv:=by exists DU
def D7:=bG 6 DO
def kT:Zt "make_form" ["M", "n", "terms"] 4 7:=eD ["M", "n", "terms", "told", "e", "exponents", "c"] 30 λT s F B q=>by have:=fx D7 (DU.2 T);exact⟨_,(c0 (rP (λ_ _ z=>z) (aS (a7 3))) (c0 (cQ [] [] (aS bU)) aU)),rfl⟩
def k4:Sv:=by exists kT
def kK:=bG 7 k4
def nB:Zt "makes_of" ["M", "many", "makes"] 5 9:=eD ["M", "many", "makes", "told", "name", "takes", "gives", "terms", "price"] 28 λT s F B q=>by have:=fx hJ (iB.2 T);have:=fx i7 (i6.2 T);have:=fx kK (kT.2 T);exact⟨_,(c0 bU (cO [3] (dR 3) (c0 (cQ [3] [] (cO [3] oB (aS (jS 3)))) (c0 oB aU)))),rfl⟩
def mP:Sv:=by exists nB
def nC:=bG 9 mP
def D5:Zt "book" ["M", "kinds", "roads", "makes"] 6 4:=eD ["M", "kinds", "roads", "makes"] 24 λT s F B q=>by have:=fx iF (iE.2 T);have:=fx nC (nB.2 T);have:=fx mF (mM.2 T);have:=fx yY (yW.2 T);exact⟨_,(c0 oB (c0 oB aU)),rfl⟩
def ED:Sv:=by exists D5
def EH:=bG 4 ED
def fW:Zt "book_of_text" ["text"] 7 7:=eD ["text", "rows", "M", "kinds", "roads", "makes", "e"] 37 λT s F B q=>by have:=fx EH (D5.2 T);have:=fx eJ (hZ.2 T);have:=fx eG (g9.2 T);have:=fx eI (iD.2 T);have:=fx fZ (fV.2 T);exact⟨_,(c0 (gI 1 s ["row"] [none]) (c0 (a7 2) (c0 (a7 3 (PF.d (bN s ["row"] [none]))) (c0 (gI 4 s ["row", "kinds"] [none,some 3]) (c0 (gI 5 s ["row", "kinds"] [none,some 3]) (aS (rP (λ_ _ z=>z) aU))))))),rfl⟩
def fX:Sv:=by exists fW
def fT:=bG 7 fX
def k9:Zt "read_book" ["text"] 8 2:=eD ["text", "told"] 48 λT s F B q=>by have:=fx fT (fW.2 T);have:=fx f7 (gA.2 T);exact⟨_,(c0 (a7 1) (c0 bU aU)),rfl⟩
def kY:Sv:=by exists k9
def kQ:=bG 2 kY
def mW:Zt "_law_read" ["signs"] 9 2:=eD ["signs", "found"] 66 λT s F B q=>by have:=fx kQ (k9.2 T);exact⟨_,(c0 (a7 1) (c0 (rP (λ_ _ z=>z) (aS (a7 1))) aU)),rfl⟩
def mC:Sv:=by exists mW
def mK:=bG 2 mC
def IX:{b:Sv // ∀ {P:S6} {w:World} {K:S2} {mg:Str->Option Value} {base:Heap},Tx P w K mg base->SG P w K mg base ["script", "volume", "due", "found"] "law" s_law 12 b}:=⟨_,λT G B A q s H E F=>by have J:=y9 F;have M:=sc_law.nd;have:=fx lD (lH.2 T);have:=fx pC (qA.2 T);have:=fx i5 (jA.2 T);have:=fx jY (qB.2 T);have:=fx mK (mW.2 T);have:=fx mL (mU.2 T);have:=fx f7 (gA.2 T);exact⟨_,(c0 (a7 1) (c0 (a7 2) (c0 (a7 3) aU))),rfl⟩⟩
def ES:Sv:=by exists IX
theorem G8(ns:List Int):∃f:Int->Int,∀k:Int,0<=k->k<=1000->aW [.lst (ns.map .int),.int k]=some (.int (f k)):=by
 have h:∀k:Int,∃c:Int,0<=k->k<=1000->aW [.lst (ns.map .int),.int k]=some (.int c):=λk=>by
  by_cases h0:0<=k
  ·by_cases h1:k<=1000
   ·by_cases B:k<(ns.length:Int)
    ·obtain⟨c,G,_⟩:=uU h0 B
     exact⟨c,λ_ _=>aO (by simp_all[d8,aD,B,G])⟩
    ·have U:bF (.int 91) (.int k)=some (.int (91*k)):=kF (by decide) (by decide)
     have F:bF (.int (91*k)) (.int k)=some (.int (91*k*k)):=EY (by lia) (by lia);have W:bF (.int k) (.int 5)=some (.int (k*5)):=kF (by lia) (by lia);have Y:91*k*k<=91000*1000:=Int.mul_le_mul (by lia) h1 h0 (by decide);have k0:0<=91*k*k:=Int.mul_nonneg (by lia) h0;generalize 91*k*k=y at F Y k0;by_cases M:(0:Int)<(ns.length:Int)
     ·have q:0<ns.length:=by lia
      obtain⟨c,G,_⟩:=uU (ns:=ns) (k:=k*5%(ns.length:Int)) (T2 _ (ZU M)) (T4 _ M);have c0:=T2 c (show(999999937:Int)≠0 by decide);have c1:=T4 c (show(0:Int)<999999937 by decide);have N:bF (.int (c%999999937)) (.int (k+3))=some (.int (c%999999937*(k+3))):=EY (by lia) (by lia);have cm:c%999999937*(k+3)<=999999937*1003:=Int.mul_le_mul (by lia) (by lia) (by lia) (by decide);have cn:0<=c%999999937*(k+3):=Int.mul_nonneg c0 (by lia);generalize c%999999937*(k+3)=z at N cm cn;have J:bF (.int (y+17+z)) (.int (y+17+z))=some (.int ((y+17+z)*(y+17+z))):=kF (by lia) (by lia);exact⟨_,λ_ _=>aO (by simp_all[d8,aD,B,U,F,W,q,a8 M,G,a8,N,J];rfl)⟩
     ·have q:¬ 0<ns.length:=by lia
      have J:bF (.int (y+17)) (.int (y+17))=some (.int ((y+17)*(y+17))):=kF (by lia) (by lia);exact⟨_,λ_ _=>aO (by simp_all[d8,aD,B,U,F,q,a8,J];rfl)⟩
   ·exact⟨0,λ_ z=>absurd z h1⟩
  ·exact⟨0,λz=>absurd z h0⟩
 exact⟨λk=>(h k).choose,λk=>(h k).choose_spec⟩
abbrev Fx(ns:List Int)(f:Int->Int):Prop:=∀k:Int,0<=k->k<=1000->aW [.lst (ns.map .int),.int k]=some (.int (f k))
theorem CU{c:Int}:∃M,lI [.int c]=some (.int M)/\3<=M/\M<10^60/\M%2=1:=by
 have pw:sP (.int 10) (.int 59)=some (.int (10^59)):=qG (by decide) (by decide) (by decide +kernel);have F:bF (.int 5) (.int (10^59))=some (.int (5*10^59)):=kF (by decide) (by decide);have W:=T2 (c/4) (show(4:Int)≠0 by decide);have U:=T4 (c/4) (show(0:Int)<4 by decide);have G:=T2 (c/4) (show(5*10^59-1:Int)≠0 by decide +kernel);have N:=T4 (c/4) (show(0:Int)<5*10^59-1 by decide +kernel);have J:bF (.int 2) (.int (c/4%4))=some (.int (2*(c/4%4))):=kF (by decide) (by decide);have B:bF (.int 2) (.int (c/4%(5*10^59-1)))=some (.int (2*(c/4%(5*10^59-1)))):=kF (by decide) (by decide);have q:cX (.int (c/4)) (.int (5*10^59-1))=some (.int (c/4%(5*10^59-1))):=a8 (by decide +kernel);generalize hx:c/4%(5*10^59-1)=x at G N B q;by_cases h:c%4=0
 ·exact⟨3+2*(c/4%4),aO (by simp_all[gD,aD,a8,cM,h,J]),by lia,by lia,by lia⟩
 ·refine⟨3+2*x,aO ?_,by lia,by lia,by lia⟩
  simp only[XR,Int.reduceMul,Int.reduceSub]at pw F q;simp_all[gD,aD,a8,cM,h,pw,F,q,B]
theorem gU{c:Int}:∃n,b9 [.int c]=some (.int n):=by
 have pw:sP (.int 10) (.int 60)=some (.int (10^60)):=qG (by decide) (by decide) (by decide +kernel);have B:bF (.int 2) (.int (10^60))=some (.int (2*10^60)):=kF (by decide) (by decide);have q:cX (.int (c/3)) (.int (2*10^60-1))=some (.int (c/3%(2*10^60-1))):=a8 (by decide +kernel);generalize hx:c/3%(2*10^60-1)=x at q;by_cases h:c%3=0
 ·exact⟨c/3%21-10,aO (by simp_all[eX,aD,a8,cM,h])⟩
 ·refine⟨x-(10^60-1),aO ?_⟩
  simp only[XR,Int.reduceMul,Int.reduceSub]at pw B q;simp_all[eX,aD,a8,cM,h,pw,B,q]
def QD(many:Int)(r:Ro):Prop:=(0<=r.j/\r.j<r.k/\r.k<many)/\0<=r.p/\r.p<=10^30
theorem FY{ns:List Int}{f:Int->Int}{at_ many:Int}(q:Fx ns f)(h0:0<=at_)(h1:at_<=900)(hm:2<=many/\many<=6):∃r:Ro,mX [.lst (ns.map .int),.int at_,.int many]=some (dY r)/\QD many r:=by
 have f0:=q at_ h0 (by lia);have G:=q (at_+1) (by lia) (by lia);have f2:=q (at_+2) (by lia) (by lia);have U:=q (at_+3) (by lia) (by lia);have f4:=q (at_+4) (by lia) (by lia);have f5:=q (at_+5) (by lia) (by lia);generalize f at_=c at f0;generalize f (at_+1)=c1 at G;have pw:sP (.int 10) (.int 30)=some (.int (10^30)):=qG (by decide) (by decide) (by decide +kernel);obtain⟨a,ea⟩:=gU (c:=f (at_+2)+f (at_+4));obtain⟨b,eb⟩:=gU (c:=f (at_+3)+f (at_+5));have N:=T2 (c/2) (show many-1≠0 by lia);have W:=T4 (c/2) (show 0<many-1 by lia);have M:cX (.int (c/2)) (.int (many-1))=some (.int (c/2%(many-1))):=a8 (by lia);generalize c/2%(many-1)=j at N W M;have k0:=T2 (c/2/5) (show many-1-j≠0 by lia);have k1:=T4 (c/2/5) (show 0<many-1-j by lia);have J:cX (.int (c/2/5)) (.int (many-1-j))=some (.int (c/2/5%(many-1-j))):=a8 (by lia);generalize c/2/5%(many-1-j)=k at k0 k1 J;have F:=T2 c1 (show(10^30+1:Int)≠0 by decide +kernel);have Y:=T4 c1 (show(0:Int)<10^30+1 by decide +kernel);have B:cX (.int c1) (.int (10^30+1))=some (.int (c1%(10^30+1))):=a8 (by decide +kernel);generalize c1%(10^30+1)=pr at F Y B;refine⟨⟨j,j+1+k,a,b,pr⟩,aO ?_,⟨N,by show j<j+1+k;lia,by show j+1+k<many;lia⟩,F,by show pr<=_;lia⟩;simp only[XR,Int.reduceAdd]at pw B;simp_all[mQ,aD,f0,G,f2,U,f4,f5,cM,M,J,ea,eb,pw,B,dY]
noncomputable def sg(S:Str)(i:Int):Nat:=S.cps.toList.getD i.toNat 0
theorem GW(hz:z.length<=1000)(h0:0<=i)(h:i<(z.length:Int)):aN (.str z) (.int i)=some (.str ⟨#[sg z i]⟩):=by
 obtain⟨j,rfl⟩:∃j:Nat,i=(j:Int):=⟨i.toNat,by lia⟩;have q:j<z.cps.toList.length:=by rw[UL];show j<z.length;lia
 have e:kH z.cps.toList (j:Int)=some z.cps.toList[j]:=fE (by simp_all[q]);have B:sg z (j:Int)=z.cps.toList[j]:=by
  unfold sg;rw[VM,List.getD_eq_getElem?_getD,UK q];rfl
 rw[B];show(if bA z.length then(kH z.cps.toList (j:Int)).map (λc=>D.str ⟨#[c]⟩)else none)=_;rw[if_pos (show bA z.length=true from decide_eq_true (by lia)),e];rfl
noncomputable def low(c:Nat):Bool:=decide (97<=c) && decide (c<=122)
def cV(x:Str):Bool:=decide (1<=x.length) && decide (x.length<=8) && (x.cps.toList.all low) && !((["let", "in", "pick", "again"]:List Str).contains x)
theorem JW(c:Nat):(!decide ((⟨#[c]⟩:Str).cps.toList<("a" : Str).cps.toList))=decide (97<=c)/\(!decide (("z" : Str).cps.toList<(⟨#[c]⟩:Str).cps.toList))=decide (c<=122):=by
 have ea:("a" : Str).cps.toList=[97]:=by decide
 have B:("z" : Str).cps.toList=[122]:=by decide
 have q:(⟨#[c]⟩:Str).cps.toList=[c]:=rfl;rw[ea,B,q];have h1:([c]<[97])↔c<97:=by simp_all[List.cons_lt_cons_iff]
 have h2:([122]<[c])↔122<c:=by simp_all[List.cons_lt_cons_iff]
 constructor
 ·by_cases h:c<97
  ·rw[decide_eq_true (h1.mpr h),decide_eq_false (by lia)];rfl
  ·rw[decide_eq_false (λz=>h (h1.mp z)),decide_eq_true (by lia)];rfl
 ·by_cases h:122<c
  ·rw[decide_eq_true (h2.mpr h),decide_eq_false (by lia)];rfl
  ·rw[decide_eq_false (λz=>h (h2.mp z)),decide_eq_true (by lia)];rfl
theorem uX:∀(cs:List Nat) (o:Option D),aV (aL 0) fL (fH u7 u7 (eC (.str "a")) (aC 0) (eC (.str "z"))) (cs.map λc=>.str ⟨#[c]⟩) [o]=some ((cs.map low).map .bl)
 | [],o=>rfl
 | c::cs,o=>by
  have ih:=uX cs (some (.str ⟨#[c]⟩));obtain⟨B,G⟩:=JW c;have q:u7 (.str "a") (.str ⟨#[c]⟩)=some (.bl (decide (97<=c))):=by rw[q_leAS,B]
  have F:u7 (.str ⟨#[c]⟩) (.str "z")=some (.bl (decide (c<=122))):=by rw[q_leAS,G]
  by_cases h:97<=c
  ·simp_all[-T7,-q_leAS,aV,fH,q,F,h,ih,low]
  ·simp_all[-T7,-q_leAS,aV,fH,q,h,ih,low]
theorem qD(hl:x.length<=1000):j6 [.str x]=some (.bl (cV x)):=by
 refine aO ?_;have hz:bA x.length=true:=decide_eq_true (by lia);have le:dW [.str x]=some (.int (x.length:Int)):=if_pos hz;have W:=uX x.cps.toList none;have G:bA (P.signs x).length=true:=by
  have:(P.signs x).length=x.length:=by unfold P.signs;rw[S5,UL];rfl
  rw[this];exact hz
 have Y:(List.map low x.cps.toList).all id=x.cps.toList.all low:=by rw[List.all_map];rfl
 unfold pO cV;by_cases h1:x.length<1
 ·have q:(x.length:Int)<1:=by lia
  have h2:decide (1<=x.length)=false:=decide_eq_false (by lia);rw[h2];simp_all[aD,le,q]
 ·have q:¬ (x.length:Int)<1:=by lia
  have h2:decide (1<=x.length)=true:=decide_eq_true (by lia);rw[h2];by_cases h8:8<x.length
  ·have B:(8:Int)<(x.length:Int):=by lia
   have J:decide (x.length<=8)=false:=decide_eq_false (by lia);rw[J];simp_all[aD,le,q,B]
  ·have B:¬ (8:Int)<(x.length:Int):=by lia
   have J:decide (x.length<=8)=true:=decide_eq_true (by lia);rw[J];unfold P.signs at G;by_cases F:x = "let" \/ x = "in" \/ x = "pick" \/ x = "again"
   ·have N:(["let", "in", "pick", "again"]:List Str).contains x=true:=by simpa using F
    rw[N];simp_all[-T7,aD,le,q,B,F]
   ·have N:(["let", "in", "pick", "again"]:List Str).contains x=false:=by simpa using F
    rw[N];have sg:P.signs x=x.cps.toList.map λc=>D.str ⟨#[c]⟩:=rfl
    have U:xB [.lst ((x.cps.toList.map low).map .bl)]=some (.bl (x.cps.toList.all low)):=by rw[q_all,Y]
    have M:bA x.cps.size=true:=hz;simp[-S3,-S4,aA,aF,-T7,-q_all,aD,le,q,B,F,sg,M,qP,W]at U ⊢;simp_all[-T7,-q_all,U]
theorem ON(h0:0<=i)(h:i<26):aN (.str "abcdefghijklmnopqrstuvwxyz") (.int i)=some (.str ⟨#[97+i.toNat]⟩):=by
 have l:("abcdefghijklmnopqrstuvwxyz" : Str).length=26:=by decide +kernel
 rw[GW (by rw[l];decide) h0 (by rw[l];exact h)];have:∀j:Fin 26,sg "abcdefghijklmnopqrstuvwxyz" (j.val:Int)=97+j.val:=by decide +kernel
 have e:=this ⟨i.toNat,by lia⟩;have q:((i.toNat:Nat):Int)=i:=by lia
 rw[q]at e;rw[e]
theorem in_str{w:Str}{l:List Str}:sL (.str w) (.tup (l.map .str))=some (.bl (decide (w∈l))):=by
 have h1:(l.map D.str).all fJ=true:=by
  rw[List.all_map];exact List.all_eq_true.mpr λx _=>rfl
 show NJ (.str w) (.tup (l.map .str))=_;unfold NJ sM;dsimp only;rw[if_pos ⟨rfl,h1⟩];simp only[aF];congr 2;rw[List.any_map];by_cases h:w∈l
 ·rw[decide_eq_true h]
  exact List.any_eq_true.mpr ⟨w,h,by simp[-S3,-S4,aA,aF]⟩
 ·rw[decide_eq_false h]
  refine List.any_eq_false.mpr λx q=>?_
  simp[-S3,-S4,aA,aF];rintro rfl;exact h q
noncomputable def zN(c:Int):Nat:=(1+c%8).toNat
noncomputable def sN(c:Int):Int:=c/8%(1+c%8)
noncomputable def tN(m:Int):Int:=1+2*(m%6)
def gN(c m k p:Int):Int:=(c/64*(2*p+1)+m/6*p+5*p*p+if p=sN c then tN m*k else 0)%26
def wL(c m k:Int):List Nat:=(UZ (zN c)).map λp:Nat=>97+(gN c m k p).toNat
def w0(c m k:Int):Str:=⟨(wL c m k).toArray⟩
def wN(c m k:Int):Str:=if w0 c m k∈(["let", "in", "pick", "again"]:List Str)then w0 c m k ++ "x" else w0 c m k
theorem M5(c:Int):1<=zN c/\zN c<=8/\((zN c:Nat):Int)=1+c%8:=by
 unfold zN;have:=T2 c (show(8:Int)≠0 by decide);have:=T4 c (show(0:Int)<8 by decide)
 lia
theorem P0(c:Int):0<=sN c/\sN c<(zN c:Int):=by
 have z:=M5 c;unfold sN;have:=T2 (c/8) (show 1+c%8≠0 by lia);have:=T4 (c/8) (show 0<1+c%8 by lia)
 lia
theorem oF(c m k:Int):(wL c m k).length=zN c:=by unfold wL;simp[-S3,-S4,aA,aF]
theorem D2(c m k:Int):(w0 c m k).length=zN c:=by
 show(wL c m k).toArray.size=_;rw[TL,oF]
theorem yT(a b:Str):(a++b).cps.toList=a.cps.toList++b.cps.toList:=by
 have e:(a++b).cps=a.cps++b.cps:=rfl;rw[e,Array.toList_append]
theorem DL{a b:Str}(h:a.cps.toList=b.cps.toList):a=b:=by
 cases a;cases b;congr 1;exact Array.toList_inj.mp h
theorem u9(c m k:Int):(w0 c m k).cps.toList=wL c m k:=by simp_all[w0]
theorem iG(c m k:Int):cV (wN c m k)=true/\(wN c m k).length<=8:=by
 unfold wN;by_cases h:w0 c m k∈(["let", "in", "pick", "again"]:List Str)
 ·rw[if_pos h]
  simp only[T9,UA,or_false]at h;rcases h with h|h|h|h <;> rw[h] <;> exact⟨by decide +kernel,by decide +kernel⟩
 ·rw[if_neg h]
  have z:=M5 c;have G:=D2 c m k;refine⟨?_,by lia⟩;unfold cV;have q:(w0 c m k).cps.toList.all low=true:=by
   rw[u9,X3];intro x B;obtain⟨p,_,rfl⟩:=List.mem_map.mp B;have a:=T2 (c/64*(2*(p:Int)+1)+m/6*(p:Int)+5*(p:Int)*(p:Int)+if(p:Int)=sN c then tN m*k else 0) (show(26:Int)≠0 by decide);have b:=T4 (c/64*(2*(p:Int)+1)+m/6*(p:Int)+5*(p:Int)*(p:Int)+if(p:Int)=sN c then tN m*k else 0) (show(0:Int)<26 by decide);unfold low gN;have:97<=97+((c/64*(2*(p:Int)+1)+m/6*(p:Int)+5*(p:Int)*(p:Int)+if(p:Int)=sN c then tN m*k else 0)%26).toNat/\97+((c/64*(2*(p:Int)+1)+m/6*(p:Int)+5*(p:Int)*(p:Int)+if(p:Int)=sN c then tN m*k else 0)%26).toNat<=122:=by lia
   rw[decide_eq_true this.1,decide_eq_true this.2];rfl
  have F:(["let", "in", "pick", "again"]:List Str).contains (w0 c m k)=false:=by
   rw[<- WL,List.contains_iff_mem];exact h
  rw[F,q,decide_eq_true (show 1<=(w0 c m k).length by lia),decide_eq_true (show(w0 c m k).length<=8 by lia)];rfl
theorem DT{c m k j:Int}(k0:0<=k)(N:k<8)(U:0<=j)(B:j<8)(e:w0 c m k=w0 c m j):k=j:=by
 have e:wL c m k=wL c m j:=by rw[<- u9,<- u9,e]
 obtain⟨M,J⟩:=P0 c;have hs:((sN c).toNat:Int)=sN c:=by lia
 have q:=congrArg (λl:List Nat=>l[(sN c).toNat]?) e;unfold wL at q;simp only[TX,YB (show(sN c).toNat<zN c by lia),S4,Option.some.injEq]at q;rw[hs]at q;unfold gN at q;rw[if_pos rfl,if_pos rfl]at q;generalize c/64*(2*sN c+1)+m/6*sN c+5*sN c*sN c=A at q;have G:=T2 m (show(6:Int)≠0 by decide);have F:=T4 m (show(0:Int)<6 by decide);unfold tN at q;have:m%6=0\/m%6=1\/m%6=2\/m%6=3\/m%6=4\/m%6=5:=by lia
 rcases this with h|h|h|h|h|h <;> rw[h]at q <;> omega
theorem oD{c m k j:Int}(k0:0<=k)(G:k<8)(J:0<=j)(F:j<8)(e:wN c m k=wN c m j):k=j:=by
 have M:("x" : Str).cps.toList=[120]:=by decide
 have B:∀i,(w0 c m i ++ "x").cps.toList=wL c m i++[120]:=λi=>by rw[yT,u9,M]
 unfold wN at e;by_cases h:w0 c m k∈(["let", "in", "pick", "again"]:List Str)
 ·rw[if_pos h]at e
  by_cases g:w0 c m j∈(["let", "in", "pick", "again"]:List Str)
  ·rw[if_pos g]at e
   have q:=congrArg (λs:Str=>s.cps.toList) e;simp only[B]at q;have N:=List.append_cancel_right q;exact DT k0 G J F (DL (by rw[u9,u9,N]))
  ·rw[if_neg g]at e
   have q:=congrArg (λs:Str=>s.cps.toList.length) e;simp only[B,u9,T8,oF,Y2]at q
   lia
 ·rw[if_neg h]at e
  by_cases g:w0 c m j∈(["let", "in", "pick", "again"]:List Str)
  ·rw[if_pos g]at e
   have q:=congrArg (λs:Str=>s.cps.toList.length) e;simp only[B,u9,T8,oF,Y2]at q
   lia
  ·rw[if_neg g]at e
   exact DT k0 G J F e
def b4(c m:Int)(n:Nat):List Str:=(UZ n).map λk:Nat=>wN c m k
theorem EK{b:Sv}{x:D}{ρ:cC}{i:Nat}:turn (aL i) b x ρ=b (ρ.set i (some x)):=by simp_all[turn]
theorem xT{c m many:Int}(h0:0<=many)(h:many<=6):kL [.int c,.int m,.int many]=some (.lst ((b4 c m many.toNat).map .str)):=by
 obtain⟨z1,z2,z3⟩:=M5 c;obtain⟨s0,s1⟩:=P0 c;have t0:=T2 m (show(6:Int)≠0 by decide);have t1:=T4 m (show(0:Int)<6 by decide);refine aO ?_;unfold lC;rw[aG (a9 (d:=.str "abcdefghijklmnopqrstuvwxyz") (by simp[-S3,-S4,aA,aF]))];rw[aG (a9 (d:=.int (zN c:Int)) (by simp_all[aD,a8,z3]))];rw[aG (a9 (d:=.int (sN c)) (by simp_all[aD,cM,a8 (show 0<1+c%8 by lia),sN,z3]))];have et:kH [D.int 1,.int 3,.int 5,.int 7,.int 9,.int 11] (m%6)=some (.int (tN m)):=by
  unfold tN;have:m%6=0\/m%6=1\/m%6=2\/m%6=3\/m%6=4\/m%6=5:=by lia
  rcases this with h|h|h|h|h|h <;> rw[h] <;> rfl
 rw[aG (a9 (d:=.int (tN m)) (by simp_all[aD,a8,et]))];rw[aG (a9 (d:=.lst []) (by simp[-S3,-S4,aA,aF]))];have hT:1<=tN m/\tN m<=11:=by unfold tN;lia
 refine dE (items:=bL 0 1 many.toNat) (by simp_all[aD,v6 h0 (show many<=1000000 by lia)]) (λi ρ=>∃Y o9 B F,ρ=[some (.int c),some (.int m),some (.int many),some (.str "abcdefghijklmnopqrstuvwxyz"),some (.int (zN c:Int)),some (.int (sN c)),some (.int (tN m)),some (.lst ((b4 c m i).map .str)),Y,o9,B,F]) ⟨none,none,none,none,by simp_all[aD,b4]⟩ ?_ ?_
 ·rintro i x ρ hx ⟨Y,o9,B,F,rfl⟩
  obtain⟨ap,rfl⟩:=b6 hx;have hI:(0:Int)+(i:Int)*1=(i:Int):=by lia
  rw[hI];have inner:∀B F,∃G J,eM (aL 10) (cN (cP 11 (aT aY (aT aY (aT bF (aT g4 (aC 0) (eC (.int 64))) (aT aY (aT bF (eC (.int 2)) (aC 10)) (eC (.int 1)))) (aT bF (aT g4 (aC 1) (eC (.int 6))) (aC 10))) (aT bF (aT bF (eC (.int 5)) (aC 10)) (aC 10))))
   (cN (qO (eN (aT jW (aC 10) (aC 5))) (cP 11 (aT aY (aC 11) (aT bF (aC 6) (aC 8)))) IU)
   (cP 9 (aT aY (aC 9) (aT aN (aC 3) (aT cX (aC 11) (eC (.int 26)))))))) (bL 0 1 (zN c)) [some (.int c),some (.int m),some (.int many),some (.str "abcdefghijklmnopqrstuvwxyz"),some (.int (zN c:Int)),some (.int (sN c)),some (.int (tN m)),some (.lst ((b4 c m i).map .str)),some (.int (i:Int)),some (.str ""),B,F]=some (.nx [some (.int c),some (.int m),some (.int many),some (.str "abcdefghijklmnopqrstuvwxyz"),some (.int (zN c:Int)),some (.int (sN c)),some (.int (tN m)),some (.lst ((b4 c m i).map .str)),some (.int (i:Int)),some (.str (w0 c m i)),G,J]):=by
   intro B F;obtain⟨ρ',e1,G,J,e2⟩:=iT (items:=bL 0 1 (zN c)) (g:=aL 10) (b:=cN (cP 11 (aT aY (aT aY (aT bF (aT g4 (aC 0) (eC (.int 64))) (aT aY (aT bF (eC (.int 2)) (aC 10)) (eC (.int 1)))) (aT bF (aT g4 (aC 1) (eC (.int 6))) (aC 10))) (aT bF (aT bF (eC (.int 5)) (aC 10)) (aC 10))))
    (cN (qO (eN (aT jW (aC 10) (aC 5))) (cP 11 (aT aY (aC 11) (aT bF (aC 6) (aC 8)))) IU)
    (cP 9 (aT aY (aC 9) (aT aN (aC 3) (aT cX (aC 11) (eC (.int 26)))))))) (ρ:=[some (.int c),some (.int m),some (.int many),some (.str "abcdefghijklmnopqrstuvwxyz"),some (.int (zN c:Int)),some (.int (sN c)),some (.int (tN m)),some (.lst ((b4 c m i).map .str)),some (.int (i:Int)),some (.str ""),B,F])
    (λq ρ => ∃G J, ρ = [some (.int c), some (.int m), some (.int many), some (.str "abcdefghijklmnopqrstuvwxyz"), some (.int (zN c:Int)), some (.int (sN c)), some (.int (tN m)), some (.lst ((b4 c m i).map .str)), some (.int (i:Int)), some (.str ⟨((wL c m i).take q).toArray⟩), G, J]) ⟨B, F, rfl⟩ (by
     rintro p y ρ hy ⟨G,J,rfl⟩;obtain⟨hp,rfl⟩:=b6 hy;have hP:(0:Int)+(p:Int)*1=(p:Int):=by lia
     rw[hP];have m1:bF (.int 2) (.int (p:Int))=some (.int (2*(p:Int))):=kF (by decide) (by decide);have m2:bF (.int (c/64)) (.int (2*(p:Int)+1))=some (.int (c/64*(2*(p:Int)+1))):=EY (by lia) (by lia);have m3:bF (.int (m/6)) (.int (p:Int))=some (.int (m/6*(p:Int))):=EY (by lia) (by lia);have m4:bF (.int 5) (.int (p:Int))=some (.int (5*(p:Int))):=kF (by decide) (by decide);have m5:bF (.int (5*(p:Int))) (.int (p:Int))=some (.int (5*(p:Int)*(p:Int))):=EY (by lia) (by lia);have m6:bF (.int (tN m)) (.int (i:Int))=some (.int (tN m*(i:Int))):=kF (by lia) (by lia);have eg:(wL c m i)[p]?=some (97+(gN c m i p).toNat):=by
      unfold wL;rw[TX,YB hp];rfl
     have g0:0<=gN c m i p:=T2 _ (by decide);have g1:gN c m i p<26:=T4 _ (by decide);have ea:=ON g0 g1;have sa:(⟨((wL c m i).take p).toArray⟩:Str)++(⟨#[97+(gN c m i p).toNat]⟩:Str)=⟨((wL c m i).take (p+1)).toArray⟩:=by
      refine DL ?_;rw[yT,WN,eg];simp[-S3,-S4,aA,aF]
     have sz:bA ((⟨((wL c m i).take p).toArray⟩:Str).length+(⟨#[97+(gN c m i p).toNat]⟩:Str).length)=true:=by
      refine decide_eq_true ?_;show((wL c m i).take p).toArray.size+1<=_;rw[TL,W2,oF]
      lia
     by_cases hs:(p:Int)=sN c
     ·refine⟨[some (.int c),some (.int m),some (.int many),some (.str "abcdefghijklmnopqrstuvwxyz"),some (.int (zN c:Int)),some (.int (sN c)),some (.int (tN m)),some (.lst ((b4 c m i).map .str)),some (.int (i:Int)),some (.str ⟨((wL c m i).take (p+1)).toArray⟩),some (.int (p:Int)),some (.int (c/64*(2*(p:Int)+1)+m/6*(p:Int)+5*(p:Int)*(p:Int)+tN m*(i:Int)))],?_,_,_,rfl⟩
      have M:gN c m i p=(c/64*(2*(p:Int)+1)+m/6*(p:Int)+5*(p:Int)*(p:Int)+tN m*(i:Int))%26:=by unfold gN;rw[if_pos hs]
      rw[<- sa];rw[M]at ea sz ⊢;have ab:=eq_true hs;clear hs;simp_all[turn,cM,m1,m2,m3,m4,m5,m6,ab,a8,ea,sz]
     ·refine⟨[some (.int c),some (.int m),some (.int many),some (.str "abcdefghijklmnopqrstuvwxyz"),some (.int (zN c:Int)),some (.int (sN c)),some (.int (tN m)),some (.lst ((b4 c m i).map .str)),some (.int (i:Int)),some (.str ⟨((wL c m i).take (p+1)).toArray⟩),some (.int (p:Int)),some (.int (c/64*(2*(p:Int)+1)+m/6*(p:Int)+5*(p:Int)*(p:Int)))],?_,_,_,rfl⟩
      have M:gN c m i p=(c/64*(2*(p:Int)+1)+m/6*(p:Int)+5*(p:Int)*(p:Int))%26:=by unfold gN;rw[if_neg hs,Int.add_zero]
      rw[<- sa];rw[M]at ea sz ⊢;simp_all[turn,cM,m1,m2,m3,m4,m5,m6,hs,a8,ea,sz])
   refine⟨G,J,?_⟩;rw[e1,e2,cT];have:(⟨((wL c m i).take (zN c)).toArray⟩:Str)=w0 c m i:=by
    unfold w0;rw[<- oF c m i,WY]
   rw[this]
  obtain⟨G,J,aa⟩:=inner B F;have rz:=gT (n:=zN c) (by lia);have W:(b4 c m (i+1)).map D.str=(b4 c m i).map D.str++[.str (wN c m i)]:=by
   unfold b4;rw[List.range_succ,U3,U3];rfl
  have N:bA (b4 c m i).length=true:=decide_eq_true (by unfold b4;rw[S5,List.length_range];lia);have hw:=in_str (w:=w0 c m i) (l:=["let", "in", "pick", "again"]);refine⟨[some (.int c),some (.int m),some (.int many),some (.str "abcdefghijklmnopqrstuvwxyz"),some (.int (zN c:Int)),some (.int (sN c)),some (.int (tN m)),some (.lst ((b4 c m (i+1)).map .str)),some (.int (i:Int)),some (.str (wN c m i)),G,J],?_,_,_,_,_,rfl⟩;rw[EK];simp only[YH,YI];rw[aG (a9 (d:=.str "") (by simp[-S3,-S4,aA,aF]))];simp only[YH,YI];have ef:lR cK (aE (aC 4) a6) [some (.int c),some (.int m),some (.int many),some (.str "abcdefghijklmnopqrstuvwxyz"),some (.int (zN c:Int)),some (.int (sN c)),some (.int (tN m)),some (.lst ((b4 c m i).map .str)),some (.int (i:Int)),some (.str ""),B,F]=some (bL 0 1 (zN c)):=rz;rw[aG (by rw[q_for,ef];exact aa)];rw[W];simp only[List.map]at hw;unfold wN;by_cases U:w0 c m i∈(["let", "in", "pick", "again"]:List Str)
  ·have sz:bA ((w0 c m i).length+("x" : Str).length)=true:=by
    refine decide_eq_true ?_;rw[D2];show zN c+1<=_
    lia
   rw[decide_eq_true U]at hw;rw[if_pos U];simp_all[hw,sz,N]
  ·rw[decide_eq_false U]at hw
   rw[if_neg U];simp_all[hw,N]
 ·rintro ρ ⟨Y,o9,B,F,rfl⟩
  rw[cT];simp[-S3,-S4,aA,aF]
theorem AK{g:Gv}{b:Sv}{x:D}{l:List D}{ρ:cC}:eM g b (x::l) ρ=(turn g b x ρ).bind λo=>match o with
  | .nx ρ2=>eM g b l ρ2
  | .ct ρ2=>eM g b l ρ2
  | .bk ρ2=>some (.nx ρ2)
  | .rt d=>some (.rt d):=by
 show(g x ρ).bind _=((g x ρ).bind b).bind _;cases g x ρ <;> rfl
structure Mk where
 nm:Str
 tk:List Int
 gv:Int
 ts:List My.Tm
 p:Int
def eE(m:Mk):D:=.tup [.str m.nm,tupI m.tk,.int m.gv,.lst (m.ts.map dB),.int m.p]
def IL(n:Nat)(t:My.Tm):Prop:=t.1.length=n/\∀e∈t.1,0<=e/\e<=2
structure OkM(many:Int)(n:Nat)(m:Mk):Prop where
 nm:cV m.nm=true
 nl:m.nm.length<=8
 tk:(∃t,m.tk=[t])\/∃t u,m.tk=[t,u]
 tb:∀t∈m.tk,0<=t/\t<many
 gv:0<=m.gv/\m.gv<many
 tl:m.ts.length<=n
 tt:∀t∈m.ts,IL m.tk.length t
 pr:0<=m.p/\m.p<=10^30
noncomputable def isD(nm:Str)(n:Nat)(m:Mk):Bool:=decide (m.nm=nm) && decide (m.tk.length=n)
def cnt(ms:List Mk)(nm:Str)(n:Nat):Nat:=(ms.filter (isD nm n)).length
theorem x8{a b c:Str}{n:Nat}(h1:a≠b)(h2:a≠c)(M:b≠c):∀ms:List Mk,cnt ms a n+cnt ms b n+cnt ms c n<=ms.length
 | []=>TF _
 | m::ms=>by
  have ih:=x8 (n:=n) h1 h2 M ms;unfold cnt at ih ⊢;rw[WV,WV,WV];by_cases e:m.tk.length=n
  ·by_cases ea:m.nm=a
   ·have B:isD a n m=true:=by unfold isD;rw[decide_eq_true ea,decide_eq_true e];rfl
    have q:isD b n m=false:=by unfold isD;rw[decide_eq_false (λz=>h1 (ea.symm.trans z))];rfl
    have F:isD c n m=false:=by unfold isD;rw[decide_eq_false (λz=>h2 (ea.symm.trans z))];rfl
    rw[B,q,F];simp[-S3,-S4,aA,aF];lia
   ·have B:isD a n m=false:=by unfold isD;rw[decide_eq_false ea];rfl
    by_cases J:m.nm=b
    ·have q:isD b n m=true:=by unfold isD;rw[decide_eq_true J,decide_eq_true e];rfl
     have F:isD c n m=false:=by unfold isD;rw[decide_eq_false (λz=>M (J.symm.trans z))];rfl
     rw[B,q,F];simp[-S3,-S4,aA,aF];lia
    ·have q:isD b n m=false:=by unfold isD;rw[decide_eq_false J];rfl
     rw[B,q];by_cases G:isD c n m=true
     ·rw[G];simp[-S3,-S4,aA,aF];lia
     ·rw[WL]at G;rw[G];simp[-S3,-S4,aA,aF];lia
  ·have f:∀x,isD x n m=false:=λx=>by unfold isD;rw[decide_eq_false e,Y5]
   rw[f,f,f];simp[-S3,-S4,aA,aF];lia
theorem uO{nm:Str}{n:Nat}:∀(ms:List Mk) (o:Option D),aV (aL 0) (oY (eN (aT jW (aT aN (aC 0) (eC (.int 0))) (aC 1))) (eN (aT jW (aP dW (aE (aT aN (aC 0) (eC (.int 1))) a6)) (aC 2)))) (aC 0) (ms.map eE) [o,some (.str nm),some (.int (n:Int))]=some ((ms.filter (isD nm n)).map eE)
 | [],o=>rfl
 | m::ms,o=>by
  have ih:=uO (nm:=nm) (n:=n) ms (some (eE m));have B:aN (eE m) (.int 0)=some (.str m.nm):=rfl;have F:aN (eE m) (.int 1)=some (tupI m.tk):=rfl;have G:dW [tupI m.tk]=some (.int (m.tk.length:Int)):=by
   show some (D.int ((m.tk.map D.int).length:Int))=_;rw[S5]
  rw[TB,WV];by_cases ea:m.nm=nm
  ·by_cases e:m.tk.length=n
   ·have q:isD nm n m=true:=by unfold isD;rw[decide_eq_true ea,decide_eq_true e];rfl
    rw[q];simp_all[aV,B,F,G,ea,e,ih]
   ·have q:isD nm n m=false:=by unfold isD;rw[decide_eq_false e,Y5]
    have J:¬ ((m.tk.length:Int)=(n:Int)):=by lia
    rw[q];simp_all[aV,B,F,G,ea,J,ih]
  ·have q:isD nm n m=false:=by unfold isD;rw[decide_eq_false ea];rfl
   rw[q];simp_all[aV,B,ea,ih]
theorem LO{a b c:Str}{ms:List Mk}{x:Int}{n:Nat}(h1:a≠b)(h2:a≠c)(h3:b≠c)(hl:ms.length<18)(x0:0<=x)(x1:x<3):∃nm,dM [.lst [.str a,.str b,.str c],.lst (ms.map eE),.int x,.int (n:Int)]=some (.str nm)/\(nm=a\/nm=b\/nm=c)/\cnt ms nm n<6:=by
 have hz:bA ms.length=true:=decide_eq_true (by lia);have cc:=λnm=>uO (nm:=nm) (n:=n) ms none
 have cs:=x8 (n:=n) h1 h2 h3 ms;have r3:cK [.int 3]=some [.int 0,.int 1,.int 2]:=rfl
 -- one turn
 have N:∀(nm:Str) (k:Int) (l:List D) (F B:Option D),0<=k->aN (.lst [.str a,.str b,.str c]) (.int ((x+k)%3))=some (.str nm)->
   eM (aL 4) (cN (cP 5 (aT aN (aC 0) (aT cX (aT aY (aC 2) (aC 4)) (eC (.int 3)))))
    (qO (eN (aT JK (aP dW (aE (eU [none,some 5,some 3] (fP (aC 1)) (aL 0) (oY (eN (aT jW (aT aN (aC 0) (eC (.int 0))) (aC 1))) (eN (aT jW (aP dW (aE (aT aN (aC 0) (eC (.int 1))) a6)) (aC 2)))) (aC 0)) a6)) (eC (.int 6)))) (BF (aC 5)) IU)) (.int k::l) [some (.lst [.str a,.str b,.str c]),some (.lst (ms.map eE)),some (.int x),some (.int (n:Int)),F,B] =
   if cnt ms nm n<6 then some (.rt (.str nm))else eM (aL 4) (cN (cP 5 (aT aN (aC 0) (aT cX (aT aY (aC 2) (aC 4)) (eC (.int 3)))))
    (qO (eN (aT JK (aP dW (aE (eU [none,some 5,some 3] (fP (aC 1)) (aL 0) (oY (eN (aT jW (aT aN (aC 0) (eC (.int 0))) (aC 1))) (eN (aT jW (aP dW (aE (aT aN (aC 0) (eC (.int 1))) a6)) (aC 2)))) (aC 0)) a6)) (eC (.int 6)))) (BF (aC 5)) IU)) l [some (.lst [.str a,.str b,.str c]),some (.lst (ms.map eE)),some (.int x),some (.int (n:Int)),some (.int k),some (.str nm)]:=by
  intro nm k l F B k0 hi;have U:=cc nm;have tt:∀ρ',ρ'=[some (.lst [.str a,.str b,.str c]),some (.lst (ms.map eE)),some (.int x),some (.int (n:Int)),some (.int k),some (.str nm)]->(qO (eN (aT JK (aP dW (aE (eU [none,some 5,some 3] (fP (aC 1)) (aL 0) (oY (eN (aT jW (aT aN (aC 0) (eC (.int 0))) (aC 1))) (eN (aT jW (aP dW (aE (aT aN (aC 0) (eC (.int 1))) a6)) (aC 2)))) (aC 0)) a6)) (eC (.int 6)))) (BF (aC 5)) IU) ρ'=if cnt ms nm n<6 then some (.rt (.str nm))else some (.nx ρ'):=by
   rintro ρ' rfl;have lc:((ms.filter (isD nm n)).length:Int)=(cnt ms nm n:Int):=rfl;by_cases h:cnt ms nm n<6
   ·rw[if_pos h]
    have h':((ms.filter (isD nm n)).length:Int)<6:=by rw[lc];lia
    have h2:(ms.filter (isD nm n)).length<6:=h;simp_all[qP,hz];simp_all[U,h2,h']
   ·rw[if_neg h]
    have h':¬ ((ms.filter (isD nm n)).length:Int)<6:=by rw[lc];lia
    have h2:¬ (ms.filter (isD nm n)).length<6:=h;simp_all[qP,hz];simp_all[U,h2,h']
  rw[AK,EK];simp only[YH,YI];rw[aG (a9 (d:=.str nm) (by simp_all[a8];exact hi))];simp only[YH,YI];rw[tt _ rfl];by_cases h:cnt ms nm n<6
  ·rw[if_pos h,if_pos h];rfl
  ·rw[if_neg h,if_neg h];rfl
 have fin:∀(q G J:Str),aN (.lst [.str a,.str b,.str c]) (.int ((x+0)%3))=some (.str q)->aN (.lst [.str a,.str b,.str c]) (.int ((x+1)%3))=some (.str G)->aN (.lst [.str a,.str b,.str c]) (.int ((x+2)%3))=some (.str J)->cnt ms q n+cnt ms G n+cnt ms J n<=ms.length->∃nm,dM [.lst [.str a,.str b,.str c],.lst (ms.map eE),.int x,.int (n:Int)]=some (.str nm)/\(nm=q\/nm=G\/nm=J)/\cnt ms nm n<6:=by
  intro q G J W Y e2 hs;have M:∀nm,(∀F B,eM (aL 4) _ [.int 0,.int 1,.int 2] [some (.lst [.str a,.str b,.str c]),some (.lst (ms.map eE)),some (.int x),some (.int (n:Int)),F,B]=some (.rt (.str nm)))->dM [.lst [.str a,.str b,.str c],.lst (ms.map eE),.int x,.int (n:Int)]=some (.str nm):=λnm h=>aO (by
   unfold mR;refine wJ ?_;rw[q_for];show((cK [.int 3]).bind _)=_;rw[r3];exact h none none)
  by_cases c0:cnt ms q n<6
  ·exact⟨q,M q λF B=>by rw[N q 0 _ F B (by decide) W,if_pos c0],.inl rfl,c0⟩
  ·by_cases U:cnt ms G n<6
   ·exact⟨G,M G λF B=>by rw[N q 0 _ F B (by decide) W,if_neg c0,N G 1 _ _ _ (by decide) Y,if_pos U],.inr (.inl rfl),U⟩
   ·have c2:cnt ms J n<6:=by lia
    exact⟨J,M J λF B=>by rw[N q 0 _ F B (by decide) W,if_neg c0,N G 1 _ _ _ (by decide) Y,if_neg U,N J 2 _ _ _ (by decide) e2,if_pos c2],.inr (.inr rfl),c2⟩
 have hx:x=0\/x=1\/x=2:=by lia
 rcases hx with rfl|rfl|rfl
 ·exact fin a b c rfl rfl rfl cs
 ·obtain⟨nm,e,h,k⟩:=fin b c a rfl rfl rfl (by lia)
  exact⟨nm,e,by rcases h with h|h|h <;> simp_all[h],k⟩
 ·obtain⟨nm,e,h,k⟩:=fin c a b rfl rfl rfl (by lia)
  exact⟨nm,e,by rcases h with h|h|h <;> simp_all[h],k⟩
noncomputable def IP(n:Nat)(e g:Int):List Int:=if n=1 then [e]else [e,g]
theorem JG{n:Nat}(q:n=1\/n=2)(e g:Int):iW (.tup [.int e,.int g]) none (some (n:Int))=some (tupI (IP n e g)):=by
 rcases q with rfl|rfl <;> rfl
theorem IW{n:Nat}(G:n=1\/n=2){e g v:Int}(B:0<=e/\e<=2)(F:0<=g/\g<=2):IL n (IP n e g,v):=by
 rcases G with rfl|rfl
 ·exact⟨rfl,λx q=>by rw[List.mem_singleton.mp q];exact B⟩
 ·refine⟨rfl,λx q=>?_⟩
  have q:x∈[e,g]:=q;rcases List.mem_cons.mp q with rfl|q
  ·exact B
  ·rw[List.mem_singleton.mp q];exact F
theorem E6{q:Type}{P:q->Prop}{l:List q}{x:q}(h:∀y∈l,P y)(k:P x):∀y∈l++[x],P y:=λy B=>by
 rcases List.mem_append.mp B with z|z
 ·exact h y z
 ·rw[List.mem_singleton.mp z];exact k
theorem FP{ns:List Int}{f:Int->Int}{at_ c:Int}{n:Nat}(N:Fx ns f)(h0:0<=at_)(h1:at_<=900)(hn:n=1\/n=2):∃ts:List My.Tm,gG [.lst (ns.map .int),.int at_,.int (n:Int),.int c]=some (.lst (ts.map dB))/\ts.length<=9/\∀t∈ts,IL n t:=by
 have f2:=N (at_+2) (by lia) (by lia);have f3:=N (at_+3) (by lia) (by lia);have f4:=N (at_+4) (by lia) (by lia);obtain⟨g,hg⟩:∃g:Int->Int,∀x,b9 [.int x]=some (.int (g x)):=⟨λx=>(gU (c:=x)).choose,λx=>(gU (c:=x)).choose_spec⟩;have sl:=JG hn;by_cases hc:c/4%8=1
 ·obtain⟨ρ',U,ts,B,W,rfl,M,J⟩:=iT (items:=bL 0 1 9) (g:=aL 5) (b:=cN (cP 6 (aT aY (aP aW (aE (aC 0) (aE (aT aY (aC 1) (eC (.int 3))) a6))) (aT bF (aC 5) (aP aW (aE (aC 0) (aE (aT aY (aC 1) (eC (.int 4))) a6))))))
   (sQ 4 (iV (aE (FC iW (iV (aE (aT cX (aC 5) (eC (.int 3))) (aE (aT g4 (aC 5) (eC (.int 3))) a6))) oM (jT (aC 2))) (aE (aP b9 (aE (aC 6) a6)) a6))))) (ρ:=[some (.lst (ns.map .int)),some (.int at_),some (.int (n:Int)),some (.int c),some (.lst []),none,none,none])
   (λi ρ => ∃(ts:List My.Tm) (B W:Option D), ρ = [some (.lst (ns.map .int)), some (.int at_), some (.int (n:Int)), some (.int c), some (.lst (ts.map dB)), B, W, none] /\ ts.length = i /\ ∀t∈ts, IL n t) ⟨[], none, none, rfl, rfl, (λt h => nomatch h)⟩ (by
    rintro i x ρ hx ⟨ts,B,W,rfl,M,J⟩;obtain⟨Y,rfl⟩:=b6 hx;have hI:(0:Int)+(i:Int)*1=(i:Int):=by lia
    rw[hI];have m1:bF (.int (i:Int)) (.int (f (at_+4)))=some (.int ((i:Int)*f (at_+4))):=kF (by lia) (by lia);have hz:bA ts.length=true:=decide_eq_true (by lia);refine⟨[some (.lst (ns.map .int)),some (.int at_),some (.int (n:Int)),some (.int c),some (.lst ((ts++[(IP n ((i:Int)%3) ((i:Int)/3),g (f (at_+3)+(i:Int)*f (at_+4)))]).map dB)),some (.int (i:Int)),some (.int (f (at_+3)+(i:Int)*f (at_+4))),none],?_,_,_,_,rfl,by simp_all[M],E6 J (IW hn (by lia) (by lia))⟩;simp_all[turn,f3,f4,m1,a8,cM,sl,hg,hz,dB])
  refine⟨ts,aO ?_,by rw[M,cT];decide,J⟩;unfold f9;rw[aG (a9 (d:=.lst []) (by simp[-S3,-S4,aA,aF]))];refine wJ ?_;have r9:cK [.int 9]=some (bL 0 1 9):=gT (show 9<=1000000 by decide);have ei:∀F G:Sv,qO (eN (aT jW (aT cX (aT g4 (aC 3) (eC (.int 4))) (eC (.int 8))) (eC (.int 1)))) F G [some (.lst (ns.map .int)),some (.int at_),some (.int (n:Int)),some (.int c),some (.lst []),none,none,none]=F [some (.lst (ns.map .int)),some (.int at_),some (.int (n:Int)),some (.int c),some (.lst []),none,none,none]:=λF G=>by simp_all[cM,a8,hc]
  refine(ei _ _).trans ?_;rw[aG (by rw[q_for];show((cK [.int 9]).bind _)=_;rw[r9];exact U)];simp[-S3,-S4,aA,aF]
 ·have c0:=T2 c (show(4:Int)≠0 by decide)
  have c1:=T4 c (show(0:Int)<4 by decide);obtain⟨k,hk⟩:∃k:Nat,c%4=(k:Int):=⟨(c%4).toNat,by lia⟩;obtain⟨ρ',U,ts,B,o7,rfl,M,J⟩:=iT (items:=bL 0 1 k) (g:=aL 5) (b:=cN (cP 7 (aT cX (aT g4 (aP aW (aE (aC 0) (aE (aT aY (aC 1) (eC (.int 2))) a6))) (aT aN (sR (aE (eC (.int 1)) (aE (eC (.int 9)) (aE (eC (.int 81)) a6)))) (aC 5))) (eC (.int 9))))
   (sQ 4 (iV (aE (FC iW (iV (aE (aT cX (aC 7) (eC (.int 3))) (aE (aT g4 (aC 7) (eC (.int 3))) a6))) oM (jT (aC 2))) (aE (aP b9 (aE (aP aW (aE (aC 0) (aE (aT aY (aT aY (aC 1) (eC (.int 3))) (aC 5)) a6))) a6)) a6))))) (ρ:=[some (.lst (ns.map .int)),some (.int at_),some (.int (n:Int)),some (.int c),some (.lst []),none,none,none])
   (λi ρ => ∃(ts:List My.Tm) (B o7:Option D), ρ = [some (.lst (ns.map .int)), some (.int at_), some (.int (n:Int)), some (.int c), some (.lst (ts.map dB)), B, none, o7] /\ ts.length = i /\ ∀t∈ts, IL n t) ⟨[], none, none, rfl, rfl, (λt h => nomatch h)⟩ (by
    rintro i x ρ hx ⟨ts,B,o7,rfl,M,J⟩;obtain⟨Y,rfl⟩:=b6 hx;have hI:(0:Int)+(i:Int)*1=(i:Int):=by lia
    rw[hI];have hz:bA ts.length=true:=decide_eq_true (by lia);have fi:=N (at_+3+(i:Int)) (by lia) (by lia);obtain⟨q,q0,q1,eq⟩:∃q:Int,0<q/\q<1073741824/\kH [D.int 1,.int 9,.int 81] (i:Int)=some (.int q):=by
     have:i=0\/i=1\/i=2:=by lia
     rcases this with rfl|rfl|rfl
     ·exact⟨1,by decide,by decide,rfl⟩
     ·exact⟨9,by decide,by decide,rfl⟩
     ·exact⟨81,by decide,by decide,rfl⟩
    have w0:=T2 (f (at_+2)/q) (show(9:Int)≠0 by decide);have w1:=T4 (f (at_+2)/q) (show(0:Int)<9 by decide);have qd:=cM (i:=f (at_+2)) q0 q1;have qm:cX (.int (f (at_+2)/q)) (.int 9)=some (.int (f (at_+2)/q%9)):=a8 (by decide);generalize f (at_+2)/q%9=w at w0 w1 qm;refine⟨[some (.lst (ns.map .int)),some (.int at_),some (.int (n:Int)),some (.int c),some (.lst ((ts++[(IP n (w%3) (w/3),g (f (at_+3+(i:Int))))]).map dB)),some (.int (i:Int)),none,some (.int w)],?_,_,_,_,rfl,by simp_all[M],E6 J (IW hn (by lia) (by lia))⟩;simp_all[turn,f2,fi,eq,qd,qm,a8,cM,sl,hg,hz,dB])
  refine⟨ts,aO ?_,by rw[M,cT];lia,J⟩;unfold f9;rw[aG (a9 (d:=.lst []) (by simp[-S3,-S4,aA,aF]))];rw[aG (f:=qO _ _ _) (ρ':=[some (.lst (ns.map .int)),some (.int at_),some (.int (n:Int)),some (.int c),some (.lst []),none,none,none]) (by simp_all[aD,cM,a8,hc])];have rk:=gT (n:=k) (by lia);have ek:lR cK (aE (aT cX (aC 3) (eC (.int 4))) a6) [some (.lst (ns.map .int)),some (.int at_),some (.int (n:Int)),some (.int c),some (.lst []),none,none,none]=some (bL 0 1 k):=by simp_all[a8,hk,rk]
  rw[aG (by rw[q_for,ek];exact U)];simp[-S3,-S4,aA,aF]
theorem G1{n:Nat}{f:Sv}{ds:List D}{d:D}(h:f (aD n ds)=some (.rt d)):IE n f ds=some d:=by unfold IE;rw[h];rfl
theorem BR{i z:Nat}{F:List D->Option D}{f0 G B:Ev}{g:Sv}{ρ:cC}{d0 dz d2 d3 d:D}{q:Option Out}(h0:dA z f0 ρ=some d0)(hz:aC z ρ=some dz)(h2:dA z G ρ=some d2)(N:dA z B ρ=some d3)(M:F [d0,dz,d2,d3]=some d)(U:noL d=true)(J:g (ρ.set i (some d))=q):sE i z F f0 G B g ρ=q:=by
 unfold sE;rw[h0];show(aC z ρ).bind _=_;rw[hz];show(dA z G ρ).bind _=_;rw[h2];show(dA z B ρ).bind _=_;rw[N];show(F [d0,dz,d2,d3]).bind _=_;rw[M];show(if noL d=true then _ else none)=_;rw[if_pos U,J]
theorem HE{ns:List Int}{f:Int->Int}{at_ many:Int}{a b c:Str}{ms:List Mk}(N:Fx ns f)(h0:0<=at_)(h1:at_<=900)(hm:1<=many/\many<=6)(n1:a≠b)(n2:a≠c)(n3:b≠c)(ok:∀x,x=a\/x=b\/x=c->cV x=true/\x.length<=8)(hl:ms.length<18) :
  ∃m:Mk,e8 [.lst (ns.map .int),.int at_,.int many,.lst [.str a,.str b,.str c],.lst (ms.map eE)]=some (eE m)/\OkM many 9 m/\cnt ms m.nm m.tk.length<6:=by
 have f0:=N at_ h0 (by lia);have f1:=N (at_+1) (by lia) (by lia);generalize f at_=w at f0;generalize f (at_+1)=mo at f1;have pw:sP (.int 10) (.int 30)=some (.int (10^30)):=qG (by decide) (by decide) (by decide +kernel);have k0:=T2 (w/2/3) (show(2:Int)≠0 by decide);have k1:=T4 (w/2/3) (show(0:Int)<2 by decide);obtain⟨n,en⟩:∃n:Nat,1+w/2/3%2=(n:Int):=⟨(1+w/2/3%2).toNat,by lia⟩;have J:n=1\/n=2:=by lia
 have x0:=T2 (w/2) (show(3:Int)≠0 by decide);have x1:=T4 (w/2) (show(0:Int)<3 by decide);obtain⟨nm,ed,B,F⟩:=LO (ms:=ms) (n:=n) n1 n2 n3 hl x0 x1;obtain⟨ts,et,tl,tt⟩:=FP (c:=mo) N h0 h1 J;have G:0<many:=by lia
 have e0:=T2 (w/2/6) (show many≠0 by lia);have U:=T4 (w/2/6) G;have g0:=T2 (w/2/36) (show many≠0 by lia);have g1:=T4 (w/2/36) G;have v0:=T2 (w/2/216) (show many≠0 by lia);have v1:=T4 (w/2/216) G;have Y:=T2 (mo/32) (show(10^30+1:Int)≠0 by decide +kernel);have p1:=T4 (mo/32) (show(0:Int)<10^30+1 by decide +kernel);have M:cX (.int (mo/32)) (.int (10^30+1))=some (.int (mo/32%(10^30+1))):=a8 (by decide +kernel);generalize mo/32%(10^30+1)=pr at Y p1 M;have sl:=JG J (w/2/6%many) (w/2/36%many);have W:∀k,(IP n k (w/2/36%many)).length=n:=λk=>by rcases J with rfl|rfl <;> rfl
 refine⟨⟨nm,IP n (w/2/6%many) (w/2/36%many),w/2/216%many,ts,pr⟩,G1 ?_,⟨(ok nm B).1,(ok nm B).2,?_,?_,⟨v0,v1⟩,tl,?_,Y,by show pr<=_;lia⟩,?_⟩
 ·unfold iP
  simp only[XR,Int.reduceAdd]at pw M;rw[aG (a9 (d:=.int (w/2)) (by simp_all[aD,dA,f0,cM]))];rw[aG (a9 (d:=.int (n:Int)) (by simp_all[aD,dA,cM,a8,en]))];refine BR (d0:=.lst [.str a,.str b,.str c]) (dz:=.lst (ms.map eE)) (d2:=.int (w/2%3)) (d3:=.int (n:Int)) (d:=.str nm) (by simp_all[aD,dA]) (by simp_all[aD]) (by simp_all[aD,dA,a8]) (by simp_all[aD,dA]) ed rfl ?_;rw[aG (a9 (d:=tupI (IP n (w/2/6%many) (w/2/36%many))) (by simp_all[aD,dA,cM,a8 G,sl]))];rw[aG (a9 (d:=.int mo) (by simp_all[aD,dA,f1]))];rw[aG (a9 (d:=.lst (ts.map dB)) (by simp_all[aD,dA,et]))];simp_all[aD,dA,cM,a8 G,pw,M,eE]
 ·rcases J with rfl|rfl
  ·exact .inl ⟨_,rfl⟩
  ·exact .inr ⟨_,_,rfl⟩
 ·intro t q
  rcases J with rfl|rfl
  ·have q:t∈[w/2/6%many]:=q
   rw[List.mem_singleton.mp q];exact⟨e0,U⟩
  ·have q:t∈[w/2/6%many,w/2/36%many]:=q
   rcases List.mem_cons.mp q with rfl|q
   ·exact⟨e0,U⟩
   ·rw[List.mem_singleton.mp q];exact⟨g0,g1⟩
 ·show ∀t∈ts,IL (IP n (w/2/6%many) (w/2/36%many)).length t
  rw[W];exact tt
 ·show cnt ms nm (IP n (w/2/6%many) (w/2/36%many)).length<6
  rw[W];exact F
structure Rb where
 M:Int
 c:Int
 m:Int
 n:Nat
 rs:List Ro
 ms:List Mk
def M9(b:Rb):D:=.lst [.int b.M,.lst ((b4 b.c b.m b.n).map .str),.lst (b.rs.map dY),.lst (b.ms.map eE)]
structure OkB(b:Rb):Prop where
 hM:3<=b.M/\b.M<10^60/\b.M%2=1
 hn:1<=b.n/\b.n<=6
 rl:b.rs.length<=12
 ro:∀r∈b.rs,QD (b.n:Int) r
 ml:b.ms.length<=16
 mo:∀m∈b.ms,OkM (b.n:Int) 9 m
 mc:∀nm k,cnt b.ms nm k<=6
theorem FL{ms:List Mk}{m:Mk}(h:∀nm k,cnt ms nm k<=6)(h2:cnt ms m.nm m.tk.length<6):∀nm k,cnt (ms++[m]) nm k<=6:=by
 intro nm k;have:=h nm k;unfold cnt at this h2 ⊢;rw[List.filter_append,T8,WV];by_cases e:isD nm k m=true
 ·rw[e]
  have q:m.nm=nm/\m.tk.length=k:=by unfold isD at e;simpa using e
  obtain⟨rfl,rfl⟩:=q;simp[-S3,-S4,aA,aF];lia
 ·rw[WL]at e
  rw[e];simp[-S3,-S4,aA,aF];lia
theorem NW(ns:List Int)(bp:ns.length<=63):∃b:Rb,jY [.lst (ns.map .int),.int 6]=some (M9 b)/\OkB b:=by
 refine(show(∃d,jY [.lst (ns.map .int),.int 6]=some d/\∃b:Rb,d=M9 b/\OkB b)->_ from λ⟨d,h1,b,h2,h3⟩=>⟨b,h2 ▸ h1,h3⟩) ?_;refine KQ ?_;unfold pB;obtain⟨f,B⟩:=G8 ns;have f0:=B 0 (by decide) (by decide);have f1:=B 1 (by decide) (by decide);have f2:=B 2 (by decide) (by decide);have f3:=B 3 (by decide) (by decide);have f4:=B 4 (by decide) (by decide);have f5:=B 5 (by decide) (by decide);have n0:=T2 (f 1) (show(6:Int)≠0 by decide);have n1:=T4 (f 1) (show(0:Int)<6 by decide);obtain⟨n,en⟩:∃n:Nat,1+f 1%6=(n:Int):=⟨(1+f 1%6).toNat,by lia⟩;have v1:=xT (c:=f 2) (m:=f 3) (many:=(n:Int)) (by lia) (by lia);have v2:=xT (c:=f 4) (m:=f 5) (many:=3) (by decide) (by decide);rw[VM]at v1;have e3:(b4 (f 4) (f 5) (3:Int).toNat).map D.str=[.str (wN (f 4) (f 5) 0),.str (wN (f 4) (f 5) 1),.str (wN (f 4) (f 5) 2)]:=rfl;rw[e3]at v2;have aj:∀x,x=wN (f 4) (f 5) 0\/x=wN (f 4) (f 5) 1\/x=wN (f 4) (f 5) 2->cV x=true/\x.length<=8:=by
  rintro x (rfl|rfl|rfl) <;> exact iG _ _ _
 have d1:wN (f 4) (f 5) 0≠wN (f 4) (f 5) 1:=λz=>absurd (oD (by decide) (by decide) (by decide) (by decide) z) (by decide)
 have d2:wN (f 4) (f 5) 0≠wN (f 4) (f 5) 2:=λz=>absurd (oD (by decide) (by decide) (by decide) (by decide) z) (by decide)
 have d3:wN (f 4) (f 5) 1≠wN (f 4) (f 5) 2:=λz=>absurd (oD (by decide) (by decide) (by decide) (by decide) z) (by decide)
 generalize wN (f 4) (f 5) 0=a at *;generalize wN (f 4) (f 5) 1=b at *;generalize wN (f 4) (f 5) 2=c at *;obtain⟨M,vM,hM⟩:=CU (c:=f 0);have q0:=T2 (f 1/6) (show(29:Int)≠0 by decide);have q1:=T4 (f 1/6) (show(0:Int)<29 by decide);rw[aG (a9 (d:=.int (n:Int)) (by simp_all[aD,f1,a8,en]))];rw[aG (a9 (d:=.lst ((b4 (f 2) (f 3) n).map .str)) (by simp_all[aD,f2,f3,v1]))];rw[aG (a9 (d:=.lst [.str a,.str b,.str c]) (by simp_all[aD,f4,f5,v2]))];rw[aG (a9 (d:=.lst []) (by simp[-S3,-S4,aA,aF]))];rw[aG (a9 (d:=.lst []) (by simp[-S3,-S4,aA,aF]))];obtain⟨q,aw,hq⟩:∃q:Int,0<=q/\zD [.int (((ns.length:Int)-6+5)/6),.int (f 1/6%29)]=some (.int q):=⟨_,by split <;> lia,q_max⟩;simp only[q_max,Option.some.injEq,D.int.injEq]at hq;rw[aG (a9 (d:=.int q) (by simp_all[aD,f1,a8,cM,hq]))];obtain⟨p,au,bn,hp⟩:∃p:Int,0<=p/\p<=40/\(if(40:Int)<q then 40 else q)=p:=⟨_,by split <;> lia,by split <;> lia,rfl⟩;have m6:bF (.int 6) (.int p)=some (.int (6*p)):=kF (by decide) (by decide);obtain⟨k,rk,rb⟩:=zI (a:=6) (b:=6+6*p) (c:=6) (by decide) (by decide) (by decide) (by decide) (by lia) (by lia);refine MN (items:=bL 6 6 k) (by simp_all[aD,hp,m6,rk]) (λi ρ=>∃(rs:List Ro) (ms:List Mk) (o8:Option D),ρ=[some (.lst (ns.map .int)),some (.int 6),some (.int (n:Int)),some (.lst ((b4 (f 2) (f 3) n).map .str)),some (.lst [.str a,.str b,.str c]),some (.lst (rs.map dY)),some (.lst (ms.map eE)),some (.int q),o8]/\(rs.length<=12/\∀r∈rs,QD (n:Int) r)/\(ms.length<=16/\∀m∈ms,OkM (n:Int) 9 m)/\∀nm k,cnt ms nm k<=6) ⟨[],[],none,rfl,⟨by simp[-S3,-S4,aA,aF],(λr h=>nomatch h)⟩,⟨by simp[-S3,-S4,aA,aF],(λr h=>nomatch h)⟩,λnm k=>U6 _⟩ ?_ ?_
 ·rintro i x ρ hx ⟨rs,ms,o8,rfl,⟨rl,Y⟩,⟨ml,W⟩,U⟩
  obtain⟨ag,rfl⟩:=b6 hx;have hb:=rb i ag;generalize ha:(6:Int)+(i:Int)*6=at_ at hb;have a0:0<=at_:=by lia
  have a1:at_<=900:=by lia
  have fa:=B at_ a0 (by lia);rw[EK];simp only[YH,YI];by_cases h1:f at_%2=0/\(1:Int)<(n:Int)/\rs.length<12
  ·obtain⟨r,er,hr⟩:=FY B a0 a1 (many:=(n:Int)) (by lia)
   have hz:bA rs.length=true:=decide_eq_true (by lia);refine⟨[some (.lst (ns.map .int)),some (.int 6),some (.int (n:Int)),some (.lst ((b4 (f 2) (f 3) n).map .str)),some (.lst [.str a,.str b,.str c]),some (.lst ((rs++[r]).map dY)),some (.lst (ms.map eE)),some (.int q),some (.int at_)],?_,rs++[r],ms,_,rfl,⟨by simp[-S3,-S4,aA,aF];lia,E6 Y hr⟩,⟨ml,W⟩,U⟩;have ak:(rs.length:Int)<12:=by lia
   have al:(1:Int)<(n:Int):=h1.2.1;have ae:1<n:=by lia
   simp_all[fa,a8,h1.1,al,ae,ak,h1.2.2,er,hz]
  ·have ah:∀F G:Sv,qO (oY (eN (aT jW (aT cX (aP aW (aE (aC 0) (aE (aC 8) a6))) (eC (.int 2))) (eC (.int 0)))) (oY (eN (aT IK (aC 2) (eC (.int 1)))) (eN (aT JK (aP dW (aE (aC 5) a6)) (eC (.int 12)))))) F G [some (.lst (ns.map .int)),some (.int 6),some (.int (n:Int)),some (.lst ((b4 (f 2) (f 3) n).map .str)),some (.lst [.str a,.str b,.str c]),some (.lst (rs.map dY)),some (.lst (ms.map eE)),some (.int q),some (.int at_)]=G [some (.lst (ns.map .int)),some (.int 6),some (.int (n:Int)),some (.lst ((b4 (f 2) (f 3) n).map .str)),some (.lst [.str a,.str b,.str c]),some (.lst (rs.map dY)),some (.lst (ms.map eE)),some (.int q),some (.int at_)]:=λF G=>by
    by_cases c1:f at_%2=0
    ·by_cases c2:(1:Int)<(n:Int)
     ·have c3:¬ rs.length<12:=λz=>h1 ⟨c1,c2,z⟩
      have am:¬ (rs.length:Int)<12:=by lia
      have N:1<n:=by lia
      simp_all[fa,a8,c1,c2,N,c3,am]
     ·have N:¬ 1<n:=by lia
      simp_all[fa,a8,c1,c2,N]
    ·simp_all[fa,a8,c1]
   rw[ah];by_cases h2:ms.length<16
   ·obtain⟨m,em,hm,hc⟩:=HE B a0 a1 (many:=(n:Int)) (by lia) d1 d2 d3 aj (ms:=ms) (by lia)
    have hz:bA ms.length=true:=decide_eq_true (by lia);have J:(ms.length:Int)<16:=by lia
    refine⟨[some (.lst (ns.map .int)),some (.int 6),some (.int (n:Int)),some (.lst ((b4 (f 2) (f 3) n).map .str)),some (.lst [.str a,.str b,.str c]),some (.lst (rs.map dY)),some (.lst ((ms++[m]).map eE)),some (.int q),some (.int at_)],?_,rs,ms++[m],_,rfl,⟨rl,Y⟩,⟨by simp[-S3,-S4,aA,aF];lia,E6 W hm⟩,FL U hc⟩;have eo:wC e8 (aE (aC 0) (aE (aC 8) (aE (aC 2) (aE (aC 4) (aE (aC 6) a6))))) [some (.lst (ns.map .int)),some (.int 6),some (.int (n:Int)),some (.lst ((b4 (f 2) (f 3) n).map .str)),some (.lst [.str a,.str b,.str c]),some (.lst (rs.map dY)),some (.lst (ms.map eE)),some (.int q),some (.int at_)]=some (eE m):=em;have ap:sQ 6 (wC e8 (aE (aC 0) (aE (aC 8) (aE (aC 2) (aE (aC 4) (aE (aC 6) a6)))))) [some (.lst (ns.map .int)),some (.int 6),some (.int (n:Int)),some (.lst ((b4 (f 2) (f 3) n).map .str)),some (.lst [.str a,.str b,.str c]),some (.lst (rs.map dY)),some (.lst (ms.map eE)),some (.int q),some (.int at_)]=some (.nx [some (.lst (ns.map .int)),some (.int 6),some (.int (n:Int)),some (.lst ((b4 (f 2) (f 3) n).map .str)),some (.lst [.str a,.str b,.str c]),some (.lst (rs.map dY)),some (.lst ((ms++[m]).map eE)),some (.int q),some (.int at_)]):=by
     have:=LN (k:=6) (l:=ms.map eE) (by simp[-S3,-S4,aA,aF]) eo (by rw[S5];exact hz);rw[this];simp[-S3,-S4,aA,aF]
    have th:∀F G:Sv,qO (eN (aT JK (aP dW (aE (aC 6) a6)) (eC (.int 16)))) F G [some (.lst (ns.map .int)),some (.int 6),some (.int (n:Int)),some (.lst ((b4 (f 2) (f 3) n).map .str)),some (.lst [.str a,.str b,.str c]),some (.lst (rs.map dY)),some (.lst (ms.map eE)),some (.int q),some (.int at_)]=F [some (.lst (ns.map .int)),some (.int 6),some (.int (n:Int)),some (.lst ((b4 (f 2) (f 3) n).map .str)),some (.lst [.str a,.str b,.str c]),some (.lst (rs.map dY)),some (.lst (ms.map eE)),some (.int q),some (.int at_)]:=λF G=>by simp_all[h2,J]
    rw[th,ap]
   ·have J:¬ (ms.length:Int)<16:=by lia
    exact⟨[some (.lst (ns.map .int)),some (.int 6),some (.int (n:Int)),some (.lst ((b4 (f 2) (f 3) n).map .str)),some (.lst [.str a,.str b,.str c]),some (.lst (rs.map dY)),some (.lst (ms.map eE)),some (.int q),some (.int at_)],by simp_all[h2,J],rs,ms,_,rfl,⟨rl,Y⟩,⟨ml,W⟩,U⟩
 ·rintro ρ ⟨rs,ms,o8,rfl,⟨rl,Y⟩,⟨ml,W⟩,U⟩
  exact⟨_,by simp_all[f0,vM];rfl,⟨M,f 2,f 3,n,rs,ms⟩,rfl,hM,⟨by show 1<=n;lia,by show n<=6;lia⟩,rl,Y,ml,W,U⟩
theorem lS(h:∃ρ,f (aD n ds)=some (.nx ρ)):bG n f ds=some .non:=by
 obtain⟨ρ,e⟩:=h;exact J2 e
theorem wV(q:f ρ=some items)(I:Nat->cC->Prop)(h0:I 0 ρ)(hs:∀i x ρ,items[i]?=some x->I i ρ->∃ρ',turn g b x ρ=some (.nx ρ')/\I (i+1) ρ'):∃ρ',sT f g b ρ=some (.nx ρ'):=by
 obtain⟨ρ',e,_⟩:=iT (g:=g) (b:=b) I h0 hs;exact⟨ρ',by rw[q_for,q,aA];exact e⟩
theorem AU{f:Lv}{g:Gv}{b rest:Sv}{ρ:cC}{items:List D}(F:f ρ=some items)(I:Nat->cC->Prop)(h0:I 0 ρ)(hs:∀i x ρ,items[i]?=some x->I i ρ->∃ρ',turn g b x ρ=some (.nx ρ')/\I (i+1) ρ')(k:∀ρ',I items.length ρ'->∃q,rest ρ'=some (.nx q)):∃ρ',cN (sT f g b) rest ρ=some (.nx ρ'):=by
 obtain⟨ρ',e,i⟩:=iT (g:=g) (b:=b) I h0 hs;obtain⟨q,B⟩:=k ρ' i;exact⟨q,by rw[aG (ρ':=ρ') (by rw[q_for,F,aA];exact e)];exact B⟩
theorem vH:mJ [.int c]=some (.bl true):=by
 refine aO ?_;simp_all[mZ,aD]
theorem HD(F:3<=M)(B:M<10^60)(q:M%2=1):yY [.int M]=some (.int M):=by
 refine aO ?_;have pw:sP (.int 10) (.int 60)=some (.int (10^60)):=qG (by decide) (by decide) (by decide +kernel);have a:¬ M<3:=by lia
 have b:¬ 10^60<M:=by lia
 unfold xM;simp only[XR]at pw b;simp_all[aD,vH,a,pw,b,a8,q]
theorem nE(h0:0<=p)(h:p<=10^30):iM [.int p]=some (.bl true):=by
 refine aO ?_;have pw:sP (.int 10) (.int 30)=some (.int (10^30)):=qG (by decide) (by decide) (by decide +kernel);simp only[XR]at pw h;simp_all[m9,aD,fH,pw,h0,h]
theorem MS(h:0<M):EW [.int M,.int n]=some (.int (n%M)):=by
 refine aO ?_;simp_all[PR,aD,a8 h]
open Classical in
theorem nO(x:Str):∀l:List Str,(l.map D.str).any (λd=>decide (d=.str x))=l.contains x
 | []=>rfl
 | y::l=>by
  rw[TB,VF,nO x l,List.contains_cons];congr 1;by_cases h:y=x
  ·subst h;simp[-S3,-S4,aA,aF]
  ·have h2:¬ x=y:=λz=>h z.symm
   have q:¬ D.str y=D.str x:=λz=>h (by injection z)
   rw[decide_eq_false q];simp_all[h2]
theorem all_strs:∀l:List Str,(l.map D.str).all fJ=true
 | []=>rfl
 | _::l=>by rw[TB,WS,all_strs l];rfl
theorem FE(x:Str)(l:List Str):sL (.str x) (.lst (l.map D.str))=some (.bl (l.contains x)):=by
 show NJ (.str x) (.lst (l.map D.str))=_;unfold NJ sM;dsimp only;rw[if_pos ⟨rfl,all_strs l⟩,nO];rfl
noncomputable def red(M:Int)(r:Ro):Ro:=⟨r.j,r.k,r.a%M,r.b%M,r.p⟩
theorem vN{M:Int}{n:Nat}{rs:List Ro}(h3:3<=M)(hl:rs.length<=12)(hr:∀r∈rs,QD (n:Int) r):mF [.int M,.int (n:Int),.lst (rs.map dY)]=some (.tup ((rs.map (red M)).map dY)):=by
 have Mp:0<M:=by lia
 have hz:bA rs.length=true:=decide_eq_true (by lia);have b:(rs.length:Int)<=12:=by lia
 refine aO ?_;unfold nG;rw[aG (ρ':=aD 9 [.int M,.int (n:Int),.lst (rs.map dY)]) (by simp_all[aD,b])];rw[aG (a9 (d:=.lst []) (by simp[-S3,-S4,aA,aF]))];refine dE (items:=rs.map dY) (by simp_all[aD]) (λi ρ=>∃U N B J G,ρ=[some (.int M),some (.int (n:Int)),some (.lst (rs.map dY)),some (.lst (((rs.take i).map (red M)).map dY)),U,N,B,J,G]) ⟨none,none,none,none,none,by simp_all[aD]⟩ ?_ ?_
 ·rintro i x ρ W ⟨U,N,B,J,G,rfl⟩
  rw[TX]at W;obtain⟨r,q,rfl⟩:=map_some W;obtain⟨⟨j0,jk,kn⟩,Y,p1⟩:=hr r (UU q);have vp:=nE Y p1;have hi:i<rs.length:=(List.getElem?_eq_some_iff.mp q).1;have F:bA (min i rs.length)=true:=decide_eq_true (by lia);refine⟨[some (.int M),some (.int (n:Int)),some (.lst (rs.map dY)),some (.lst (((rs.take (i+1)).map (red M)).map dY)),some (.int r.j),some (.int r.k),some (.int r.a),some (.int r.b),some (.int r.p)],?_,_,_,_,_,_,rfl⟩;rw[WN,q];simp_all[turn,dY,red,j0,jk,kn,vp,MS Mp,F,l6]
 ·rintro ρ ⟨U,N,B,J,G,rfl⟩
  rw[S5,WY];simp_all[cW]
theorem iZ{n:Nat}{k:List Int}(h:k.length=n)(h2:∀e∈k,0<=e/\e<=2):d6 [.int (n:Int),tupI k]=some .non:=by
 refine lS ?_;unfold d7;rw[aG (ρ':=aD 3 [.int (n:Int),tupI k]) (by simp_all[aD,tupI,h])];refine wV (items:=k.map .int) (by simp_all[aD,tupI]) (λi ρ=>∃o,ρ=[some (.int (n:Int)),some (tupI k),o]) ⟨none,rfl⟩ ?_;rintro i x ρ q ⟨o,rfl⟩;rw[TX]at q;obtain⟨e,B,rfl⟩:=map_some q;have:=h2 e (UU B);exact⟨[some (.int (n:Int)),some (tupI k),some (.int e)],by simp_all[turn,show ¬ e<0 by lia,show ¬ 8<e by lia],_,rfl⟩
theorem p8{M:Int}(h0:0<M){ρ1 ρ2:Option D}:∀(qs:List My.Tm) (o1 o2:Option D),aV (jP 2 (b8 (aL 0) (b8 (aL 1) qL))) (eN (aT FB (aP EW (aE (aC 2) (aE (aC 1) a6))) (eC (.int 0)))) (iV (aE (aC 0) (aE (aP EW (aE (aC 2) (aE (aC 1) a6))) a6))) (qs.map dB) [o1,o2,some (.int M)]=some ((My.eA M qs).map dB)
 | [],o1,o2=>rfl
 | t::qs,o1,o2=>by
  have ih:=p8 h0 (ρ1:=ρ1) (ρ2:=ρ2) qs (some (tupI t.1)) (some (.int t.2));rw[TB,aV];by_cases e:t.2%M=0
  ·simp[-S3,-S4,aA,aF,dB,MS h0,e,My.eA]at ih ⊢
   exact ih
  ·simp[-S3,-S4,aA,aF,dB,MS h0,e,My.eA]at ih ⊢
   rw[ih];simp_all[dB]
theorem j8{q:Type}(l:List (List Int×q)):(bD l).length=l.length:=(bT l).length_eq
theorem AD{M:Int}{cs:List My.Tm}(h0:0<M)(h:cs.length<64):pW [.int M,.dT (cs.map kD)]=some (.tup ((My.eA M (bD cs)).map dB)):=by
 refine aO ?_;have e:=p8 h0 (ρ1:=none) (ρ2:=none) (bD cs) none none;have hz:bA (bD cs).length=true:=decide_eq_true (by rw[j8];lia);simp_all[pE,aD,vJ h,qP,e,hz]
theorem V_form{M:Int}{n:Nat}{ts:List My.Tm}(h0:0<M)(hn:n=1\/n=2)(hl:ts.length<=9)(W:∀t∈ts,IL n t):D7 [.int M,.int (n:Int),.lst (ts.map dB)]=some (.tup ((My.eA M (bD (My.aR ts))).map dB)):=by
 refine aO ?_;unfold DO;rw[aG (ρ':=aD 6 [.int M,.int (n:Int),.lst (ts.map dB)]) (by rcases hn with rfl|rfl <;> simp_all[aD])];rw[aG (ρ':=[some (.int M),some (.int (n:Int)),some (.lst (ts.map dB)),some (.dT []),none,none]) (by simp_all[aD])];refine dE (items:=ts.map dB) (by simp[-S3,-S4,aA,aF]) (λi ρ=>∃G F,ρ=[some (.int M),some (.int (n:Int)),some (.lst (ts.map dB)),some (.dT ((My.aR (ts.take i)).map kD)),G,F]) ⟨none,none,rfl⟩ ?_ ?_
 ·rintro i x ρ U ⟨G,F,rfl⟩
  rw[TX]at U;obtain⟨t,N,rfl⟩:=map_some U;obtain⟨g1,Y⟩:=W t (UU N);have es:My.aR (ts.take (i+1))=My.iX (My.aR (ts.take i)) t:=by rw[WN,N];exact My.pX _ _
  have q:(My.aR (ts.take i)).length<=1000000:=by
   have:=(My.cR (ts.take i)).1;rw[W2]at this
   lia
  have J:=iZ g1 Y;refine⟨[some (.int M),some (.int (n:Int)),some (.lst (ts.map dB)),some (.dT ((My.aR (ts.take (i+1))).map kD)),some (tupI t.1),some (.int t.2)],?_,_,_,rfl⟩;have B:=xP (cs:=My.aR (ts.take i)) t.1 ((My.look (My.aR (ts.take i)) t.1).getD 0+t.2) q;cases e:My.look (My.aR (ts.take i)) t.1 with
  | none=>simp[-S3,-S4,aA,aF,turn,dB,J,e,es,My.iX]at B ⊢;simp_all[B]
  | some v=>simp[-S3,-S4,aA,aF,turn,dB,J,e,es,My.iX]at B ⊢;simp_all[B]
 ·rintro ρ ⟨G,F,rfl⟩
  have hs:(My.aR ts).length<64:=by have:=(My.cR ts).1;lia
  rw[S5,WY];simp_all[AD h0 hs]
theorem yO:∀(k:List Int) (m:Int),(∀e∈k,0<=e/\e<=2)->m<=2->k.foldl (λm y=>if y>m then y else m) m<=2
 | [],m,_,h=>h
 | e::k,m,h,hm=>by
  rw[ZL];refine yO k _ (λx q=>h x (TR _ q)) ?_;have:=(h e (TK ..)).2;split <;> lia
theorem HB(h:∀e∈k,0<=e/\e<=2)(B:d<=2):My.wZ d k<=2:=by
 cases k with
 | nil=>exact B
 | cons e k=>exact yO k e (λx q=>h x (TR _ q)) (h e (TK ..)).2
def IS(M:Int)(ts:List My.Tm):D:=.tup ((My.eA M (bD (My.aR ts))).map dB)
theorem tK(h0:0<M)(hn:n=1\/n=2)(U:ts.length<=9)(G:∀t∈ts,IL n t):kK [.int M,.int (n:Int),.lst (ts.map dB)]=some (IS M ts):=by
 have Y:=V_form h0 hn U G;refine aO ?_;unfold k4;rw[aG (a9 (d:=IS M ts) (by simp_all[aD,Y,IS]))];refine dE (items:=ts.map dB) (by simp_all[aD]) (λi ρ=>∃q F B,ρ=[some (.int M),some (.int (n:Int)),some (.lst (ts.map dB)),some (IS M ts),q,F,B]) ⟨none,none,none,rfl⟩ ?_ ?_
 ·rintro i x ρ J ⟨q,F,B,rfl⟩
  rw[TX]at J;obtain⟨t,W,rfl⟩:=map_some J;obtain⟨N,g2⟩:=G t (UU W);refine⟨[some (.int M),some (.int (n:Int)),some (.lst (ts.map dB)),some (IS M ts),q,some (tupI t.1),some (.int t.2)],?_,_,_,_,rfl⟩;have mx:u5 [tupI t.1]=some (.int (My.wZ 0 t.1)):=by
   cases hk:t.1 with
   | nil=>rw[hk]at N;simp[-S3,-S4,aA,aF]at N;lia
   | cons e k=>exact q_max1
  have ml:=HB g2 (d:=0) (by decide);simp_all[-q_max1,turn,dB,mx,show ¬ 2<My.wZ 0 t.1 by lia]
 ·rintro ρ ⟨q,F,B,rfl⟩
  simp[-S3,-S4,aA,aF]
def sV(M:Int)(cs:List My.Tm):List My.Tm:=cs.map λt=>(t.1,t.2%M)
theorem tX(M:Int)(k:List Int):∀cs:List My.Tm,My.look (sV M cs) k=(My.look cs k).map (·%M)
 | []=>rfl
 | t::cs=>by
  have ih:=tX M k cs;unfold My.look sV at ih ⊢;rw[TB,UV,UV];by_cases h:t.1=k
  ·rw[decide_eq_true h];rfl
  ·rw[decide_eq_false h];exact ih
theorem HY(M:Int)(k:List Int)(c:Int)(cs:List My.Tm):My.put (sV M cs) k (c%M)=sV M (My.put cs k c):=by
 unfold My.put sV;have e:((cs.map λt:My.Tm=>(t.1,t.2%M)).any λt=>decide (t.1=k))=cs.any λt=>decide (t.1=k):=by rw[List.any_map];rfl
 rw[e];by_cases h:(cs.any λt=>decide (t.1=k))=true
 ·rw[if_pos h,if_pos h,T7,T7]
  congr 1;funext t;show(if t.1=k then(t.1,c%M)else(t.1,t.2%M))=_;by_cases z:t.1=k
  ·rw[if_pos z];show _=((if t.1=k then(t.1,c)else t).1,(if t.1=k then(t.1,c)else t).2%M);rw[if_pos z]
  ·rw[if_neg z];show _=((if t.1=k then(t.1,c)else t).1,(if t.1=k then(t.1,c)else t).2%M);rw[if_neg z]
 ·rw[if_neg h,if_neg h,U3];rfl
theorem yC{cs:List My.Tm}(B:(cs.map (·.1)).Nodup):∀(qs:List My.Tm) (o:Option D),(∀q∈qs,q∈cs)->aV (aL 0) (eN (aT IK (aT aN (aC 1) (aC 0)) (eC (.int 0)))) (iV (aE (aC 0) (aE (aT aN (aC 1) (aC 0)) a6))) (qs.map λt=>tupI t.1) [o,some (.dT (cs.map kD))]=some ((qs.filter λt=>decide (0<t.2)).map dB)
 | [],o,_=>rfl
 | t::qs,o,h=>by
  have ih:=yC B qs (some (tupI t.1)) λq G=>h q (TR _ G)
  have F:=My.DD B (h t (TK ..));rw[TB,aV];by_cases e:0<t.2
  ·simp[-S3,-S4,aA,aF,F,e]at ih ⊢
   rw[ih];simp_all[dB]
  ·simp[-S3,-S4,aA,aF,F,e]at ih ⊢
   exact ih
theorem HZ{M:Int}{ts:List My.Tm}(h0:0<M)(hl:ts.length<=9)(hk:∀t∈ts,t.1≠[]):iJ [.int M,.lst (ts.map dB)]=some (IS M ts):=by
 refine aO ?_;unfold mI;rw[aG (a9 (d:=.dT []) (by simp[-S3,-S4,aA,aF]))];refine dE (items:=ts.map dB) (by simp_all[aD]) (λi ρ=>∃N Y,ρ=[some (.int M),some (.lst (ts.map dB)),some (.dT ((sV M (My.aR (ts.take i))).map kD)),N,Y]) ⟨none,none,rfl⟩ ?_ ?_
 ·rintro i x ρ hx ⟨N,Y,rfl⟩
  rw[TX]at hx;obtain⟨t,U,rfl⟩:=map_some hx;have es:My.aR (ts.take (i+1))=My.iX (My.aR (ts.take i)) t:=by rw[WN,U];exact My.pX _ _
  have F:(sV M (My.aR (ts.take i))).length<=1000000:=by
   have:=(My.cR (ts.take i)).1;rw[W2]at this;unfold sV;rw[S5]
   lia
  refine⟨[some (.int M),some (.lst (ts.map dB)),some (.dT ((sV M (My.aR (ts.take (i+1)))).map kD)),some (tupI t.1),some (.int t.2)],?_,_,_,rfl⟩;have B:=xP (cs:=sV M (My.aR (ts.take i))) t.1 (((My.look (My.aR (ts.take i)) t.1).getD 0+t.2)%M) F;rw[HY]at B;have G:=tX M t.1 (My.aR (ts.take i));have ea:My.put (My.aR (ts.take i)) t.1 ((My.look (My.aR (ts.take i)) t.1).getD 0+t.2)=My.aR (ts.take (i+1)):=es.symm;rw[ea]at B;cases e:My.look (My.aR (ts.take i)) t.1 with
  | none=>
   rw[e]at G B;simp[-S3,-S4,aA,aF,turn,dB,G,a8 h0]at B ⊢;simp_all[B]
  | some v=>
   rw[e]at G B;have e2:(v%M+t.2)%M=(v+t.2)%M:=by rw[Int.add_emod,Int.emod_emod,<- Int.add_emod]
   simp[-S3,-S4,aA,aF,turn,dB,G,a8 h0,e2]at B ⊢;simp_all[B]
 ·rintro ρ ⟨N,Y,rfl⟩
  rw[S5,WY];have W:=My.cR ts;have nd:((sV M (My.aR ts)).map (·.1)).Nodup:=by unfold sV;rw[T7];exact W.2.1
  have hs:(sV M (My.aR ts)).length<64:=by unfold sV;rw[S5];have:=W.1;lia
  have J:∀t∈sV M (My.aR ts),t.1≠[]:=λt U=>by
   obtain⟨u,hu,rfl⟩:=List.mem_map.mp U;obtain⟨w,hw,e⟩:=W.2.2 u hu;show u.1≠[];rw[<- e];exact hk w hw
  have so:=vO hs J;have cm:=yC nd (bD (sV M (My.aR ts))) none λq hq=>(bT _).mem_iff.mp hq
  have ei:bD (sV M (My.aR ts))=(bD (My.aR ts)).map λt=>(t.1,t.2%M):=(dG (·%M) (My.aR ts)).symm
  have ef:(bD (sV M (My.aR ts))).filter (λt=>decide (0<t.2))=My.eA M (bD (My.aR ts)):=by
   rw[ei];unfold My.eA;rw[List.filter_map];congr 1;refine List.filter_congr λt _=>?_
   show decide (0<t.2%M)=decide (t.2%M≠0);have:=T2 t.2 (show M≠0 by lia);by_cases z:t.2%M=0
   ·rw[z];rfl
   ·rw[decide_eq_true (show 0<t.2%M by lia),decide_eq_true z]
  rw[ef]at cm;have hz:bA (bD (sV M (My.aR ts))).length=true:=decide_eq_true (by rw[j8];lia);simp_all[so,qP,cm,hz,IS]
def BC(M:Int)(m:Mk):D:=.tup [.str m.nm,tupI m.tk,.int m.gv,IS M m.ts,.int m.p]
def JJ(b:Rb):D:=.tup [.int b.M,.tup ((b4 b.c b.m b.n).map .str),.tup ((b.rs.map (red b.M)).map dY),.tup (b.ms.map (BC b.M))]
theorem OkM.ne{many:Int}{n:Nat}{m:Mk}(h:OkM many n m):∀t∈m.ts,t.1≠[]:=λt q z=>by
 have:=(h.tt t q).1;rw[z]at this;rcases h.tk with⟨t,e⟩|⟨t,u,e⟩ <;> rw[e]at this <;> cases this
theorem mH{M:Int}(h0:0<M):∀(rs:List Ro) (o0 o1 o2 o3 o4:Option D),aV (jP 5 (b8 (aL 0) (b8 (aL 1) (b8 (aL 2) (b8 (aL 3) (b8 (aL 4) qL)))))) fL (iV (aE (aC 0) (aE (aC 1) (aE (aT cX (aC 2) (aC 5)) (aE (aT cX (aC 3) (aC 5)) (aE (aC 4) a6)))))) (rs.map dY) [o0,o1,o2,o3,o4,some (.int M)]=some ((rs.map (red M)).map dY)
 | [],_,_,_,_,_=>rfl
 | r::rs,_,_,_,_,_=>by
  have ih:=mH h0 rs (some (.int r.j)) (some (.int r.k)) (some (.int r.a)) (some (.int r.b)) (some (.int r.p));rw[TB,aV];simp[-S3,-S4,aA,aF,dY,red,a8 h0]at ih ⊢;simp_all[ih]
theorem nH{M:Int}(h0:0<M):∀(ms:List Mk) (o0 o1 o2 o3 o4:Option D),(∀m∈ms,m.ts.length<=9/\∀t∈m.ts,t.1≠[])->aV (jP 5 (b8 (aL 0) (b8 (aL 1) (b8 (aL 2) (b8 (aL 3) (b8 (aL 4) qL)))))) fL (iV (aE (aC 0) (aE (aC 1) (aE (aC 2) (aE (aP iJ (aE (aC 5) (aE (aC 3) a6))) (aE (aC 4) a6)))))) (ms.map eE) [o0,o1,o2,o3,o4,some (.int M)]=some (ms.map (BC M))
 | [],_,_,_,_,_,_=>rfl
 | m::ms,_,_,_,_,_,h=>by
  have ih:=nH h0 ms (some (.str m.nm)) (some (tupI m.tk)) (some (.int m.gv)) (some (.lst (m.ts.map dB))) (some (.int m.p)) λx q=>h x (TR _ q)
  have B:=HZ h0 (h m (TK ..)).1 (h m (TK ..)).2;rw[TB,aV];simp[-S3,-S4,aA,aF,eE,BC,B]at ih ⊢;simp_all[ih]
theorem NL{b:Rb}(ok:OkB b):pC [M9 b]=some (JJ b):=by
 have G:0<b.M:=by have:=ok.hM.1;lia
 refine aO ?_;unfold pR;have Y:aN (M9 b) (.int 0)=some (.int b.M):=rfl;have U:aN (M9 b) (.int 1)=some (.lst ((b4 b.c b.m b.n).map .str)):=rfl;have W:aN (M9 b) (.int 2)=some (.lst (b.rs.map dY)):=rfl;have i3:aN (M9 b) (.int 3)=some (.lst (b.ms.map eE)):=rfl;have B:bA b.rs.length=true:=decide_eq_true (by have:=ok.rl;lia);have q:bA b.ms.length=true:=decide_eq_true (by have:=ok.ml;lia);have J:=mH G b.rs none none none none none;have N:=nH G b.ms none none none none none λm F=>⟨(ok.mo m F).tl,(ok.mo m F).ne⟩
 rw[aG (a9 (d:=.int b.M) (by simp_all[aD,Y]))];rw[aG (a9 (d:=.tup ((b.rs.map (red b.M)).map dY)) (by simp_all[aD,W,qP,B];simp_all[J]))];rw[aG (a9 (d:=.lst (b.ms.map (BC b.M))) (by simp_all[aD,i3,qP,q];simp_all[N]))];simp_all[aD,U,JJ]
theorem yK{κ:Type}[DecidableEq κ](l:List (κ×D))(k j:κ)(e:D):fK (putD l k e) j=if j=k then some e else fK l j:=by
 unfold putD;by_cases h:(l.any λp=>decide (p.1=k))=true
 ·rw[if_pos h]
  unfold fK;by_cases B:j=k
  ·subst B
   rw[if_pos rfl];induction l with
   | nil=>simp[-S3,-S4,aA,aF]at h
   | cons p l ih=>
    rw[TB,UV];by_cases q:p.1=j
    ·simp_all[q]
    ·have:(l.any λp=>decide (p.1=j))=true:=by simpa[q]using h
     simp_all[q];simpa using ih this
  ·rw[if_neg B]
   clear h;induction l with
   | nil=>rfl
   | cons p l ih=>
    rw[TB,UV,UV];by_cases q:p.1=k
    ·have:¬ k=j:=λz=>B z.symm
     simp_all[q,this];simpa using ih
    ·by_cases F:p.1=j
     ·simp_all[q,F,B]
     ·simp_all[q,F]
      simpa using ih
 ·rw[if_neg h]
  unfold fK;rw[List.find?_append];by_cases B:j=k
  ·subst B
   rw[if_pos rfl];have:l.find? (λp=>decide (p.1=j))=none:=by
    rw[List.find?_eq_none];intro p q G;exact h (List.any_eq_true.mpr ⟨p,q,G⟩)
   rw[this];simp[-S3,-S4,aA,aF]
  ·rw[if_neg B]
   cases e2:l.find? (λp=>decide (p.1=j))with
   | some u=>simp[-S3,-S4,aA,aF]
   | none=>simp_all[T3 B]
theorem rO{κ:Type}[DecidableEq κ](l:List (κ×D))(k:κ)(e:D):(putD l k e).length<=l.length+1:=by
 unfold putD;split
 ·rw[S5];lia
 ·rw[T8];simp[-S3,-S4,aA,aF]
theorem C8(ms:List Mk)(nm:Str)(k i:Nat):cnt (ms.take i) nm k<=cnt ms nm k:=by
 unfold cnt;exact((List.take_sublist i ms).filter _).length_le
theorem oW{M:Int}{ms:List Mk}(hl:ms.length<=16)(mc:∀nm k,cnt ms nm k<=6):hJ [.lst (ms.map (BC M))]=some .non:=by
 refine lS ?_;unfold g6;rw[aG (a9 (d:=.dT []) (by simp[-S3,-S4,aA,aF]))];refine wV (items:=ms.map (BC M)) (by simp_all[aD]) (λi ρ=>∃(ys:List (List Key×D)) (o2 o3 o4 o5 Y o7:Option D),ρ=[some (.lst (ms.map (BC M))),some (.dT ys),o2,o3,o4,o5,Y,o7]/\ys.length<=i/\∀(nm:Str) (k:Nat),(fK ys [.inr nm,.inl (k:Int)]).getD (.int 0)=.int (cnt (ms.take i) nm k:Int)) ⟨[],none,none,none,none,none,none,by simp_all[aD],TF _,λnm k=>rfl⟩ ?_;rintro i x ρ hx ⟨ys,o2,o3,o4,o5,Y,o7,rfl,hy,U⟩;rw[TX]at hx;obtain⟨m,W,rfl⟩:=map_some hx;have hi:i<ms.length:=(List.getElem?_eq_some_iff.mp W).1;have hz:bA ys.length=true:=decide_eq_true (by lia);have J:IQ (.tup [.str m.nm,.int (m.tk.length:Int)])=some [.inr m.nm,.inl (m.tk.length:Int)]:=rfl;have B:=U m.nm m.tk.length;have G:∀nm k,cnt (ms.take (i+1)) nm k=cnt (ms.take i) nm k+if isD nm k m=true then 1 else 0:=λnm k=>by
  unfold cnt;rw[WN,W,List.filter_append,T8];congr 1;show([m].filter (isD nm k)).length=_;by_cases e:isD nm k m=true
  ·rw[if_pos e,List.filter_cons_of_pos e];rfl
  ·rw[if_neg e,List.filter_cons_of_neg e];rfl
 have q:isD m.nm m.tk.length m=true:=by unfold isD;rw[decide_eq_true rfl,decide_eq_true rfl];rfl
 have F:cnt (ms.take (i+1)) m.nm m.tk.length<=6:=UD (C8 ..) (mc ..);rw[G,if_pos q]at F;have lk:dU (.dT ys) (.tup [.str m.nm,.int (m.tk.length:Int)])=some (fK ys [.inr m.nm,.inl (m.tk.length:Int)]):=by
  show(IQ (.tup [.str m.nm,.int (m.tk.length:Int)])).map _=_;rw[J];rfl
 generalize hcc:cnt (ms.take i) m.nm m.tk.length=c at B F;have pt:E7 (.dT ys) (.tup [.str m.nm,.int (m.tk.length:Int)]) (.int ((c:Int)+1))=some (.dT (putD ys [.inr m.nm,.inl (m.tk.length:Int)] (.int ((c:Int)+1)))):=by
  unfold _root_.P.E7;dsimp only;rw[J,aA,if_pos hz]
 have N:dU (.dT (putD ys [.inr m.nm,.inl (m.tk.length:Int)] (.int ((c:Int)+1)))) (.tup [.str m.nm,.int (m.tk.length:Int)])=some (some (.int ((c:Int)+1))):=by
  show(IQ (.tup [.str m.nm,.int (m.tk.length:Int)])).map _=_;rw[J,aF,yK,if_pos rfl]
 refine⟨[some (.lst (ms.map (BC M))),some (.dT (putD ys [.inr m.nm,.inl (m.tk.length:Int)] (.int ((c:Int)+1)))),some (.str m.nm),some (tupI m.tk),some (.int m.gv),some (IS M m.ts),some (.int m.p),some (.tup [.str m.nm,.int (m.tk.length:Int)])],?_,_,_,_,_,_,_,_,rfl,UD (rO _ _ _) (by lia),λnm k=>?_⟩
 ·have n6:¬ (6:Int)<(c:Int)+1:=by lia
  simp_all[turn,BC,tupI,lk,B,pt,N,n6]
 ·rw[yK,G]
  by_cases e:nm=m.nm/\k=m.tk.length
  ·obtain⟨rfl,rfl⟩:=e
   rw[if_pos rfl,if_pos q,hcc];rfl
  ·have e1:¬ ([.inr nm,.inl (k:Int)]:List Key)=[.inr m.nm,.inl (m.tk.length:Int)]:=λz=>by
    injection z with z1 z2
    injection z2 with z2 _
    injection z1 with z1
    injection z2 with z2
    exact e ⟨z1,by lia⟩
   have e2:¬ isD nm k m=true:=λz=>by
    unfold isD at z;have z:m.nm=nm/\m.tk.length=k:=by simpa using z
    exact e ⟨z.1.symm,z.2.symm⟩
   rw[if_neg e1,if_neg e2,U];rfl
theorem qV(ok:OkM (n:Int) 9 m):i7 [.int (n:Int),.str m.nm,tupI m.tk,.int m.gv,.int m.p]=some .non:=by
 have B:=qD (x:=m.nm) (by have:=ok.nl;lia);rw[ok.nm]at B;have M:=nE ok.pr.1 ok.pr.2;have hz:bA (m.tk.length+1)=true:=by rcases ok.tk with⟨t,e⟩|⟨t,u,e⟩ <;> rw[e] <;> rfl
 have q:(m.tk.length:Int)=1\/(m.tk.length:Int)=2:=by rcases ok.tk with⟨t,e⟩|⟨t,u,e⟩ <;> rw[e] <;> simp[-S3,-S4,aA,aF]
 refine lS ?_;unfold i9;rw[aG (ρ':=aD 6 [.int (n:Int),.str m.nm,tupI m.tk,.int m.gv,.int m.p]) (by simp_all[aD,B])];rw[aG (ρ':=aD 6 [.int (n:Int),.str m.nm,tupI m.tk,.int m.gv,.int m.p]) (by rcases q with e|e <;> simp_all[aD,tupI,e])];have G:fP (aT aY (aP qM (aE (aC 2) a6)) (sR (aE (aC 3) a6))) (aD 6 [.int (n:Int),.str m.nm,tupI m.tk,.int m.gv,.int m.p])=some ((m.tk++[m.gv]).map .int):=by simp_all[aD,tupI,qM,hz]
 refine AU (items:=(m.tk++[m.gv]).map .int) G (λi ρ=>∃o,ρ=[some (.int (n:Int)),some (.str m.nm),some (tupI m.tk),some (.int m.gv),some (.int m.p),o]) ⟨none,rfl⟩ ?_ ?_
 ·rintro i x ρ F ⟨o,rfl⟩
  rw[TX]at F;obtain⟨e,J,rfl⟩:=map_some F;have b:0<=e/\e<(n:Int):=E6 (P:=λe=>0<=e/\e<(n:Int)) ok.tb ok.gv e (UU J);exact⟨[some (.int (n:Int)),some (.str m.nm),some (tupI m.tk),some (.int m.gv),some (.int m.p),some (.int e)],by simp_all[turn,fH,b.1,b.2],_,rfl⟩
 ·rintro ρ ⟨o,rfl⟩
  exact⟨[some (.int (n:Int)),some (.str m.nm),some (tupI m.tk),some (.int m.gv),some (.int m.p),o],by simp_all[M]⟩
theorem v8{M:Int}{n:Nat}{ms:List Mk}(h3:3<=M)(hl:ms.length<=16)(mc:∀nm k,cnt ms nm k<=6)(ho:∀m∈ms,OkM (n:Int) 9 m):nC [.int M,.int (n:Int),.lst (ms.map eE)]=some (.tup (ms.map (BC M))):=by
 have Mp:0<M:=by lia
 have b:(ms.length:Int)<=16:=by lia
 refine aO ?_;unfold mP;rw[aG (ρ':=aD 9 [.int M,.int (n:Int),.lst (ms.map eE)]) (by simp_all[aD,b])];rw[aG (a9 (d:=.lst []) (by simp[-S3,-S4,aA,aF]))];refine dE (items:=ms.map eE) (by simp_all[aD]) (λi ρ=>∃q U B N J,ρ=[some (.int M),some (.int (n:Int)),some (.lst (ms.map eE)),some (.lst ((ms.take i).map (BC M))),q,U,B,N,J]) ⟨none,none,none,none,none,by simp_all[aD]⟩ ?_ ?_
 ·rintro i x ρ Y ⟨q,U,B,N,J,rfl⟩
  rw[TX]at Y;obtain⟨m,F,rfl⟩:=map_some Y;have ok:=ho m (UU F);have hi:i<ms.length:=(List.getElem?_eq_some_iff.mp F).1;have G:bA (min i ms.length)=true:=decide_eq_true (by lia);have W:=qV ok;have vf:=tK (M:=M) (n:=m.tk.length) (ts:=m.ts) Mp (by rcases ok.tk with⟨t,e⟩|⟨t,u,e⟩ <;> rw[e] <;> simp[-S3,-S4,aA,aF]) ok.tl ok.tt;refine⟨[some (.int M),some (.int (n:Int)),some (.lst (ms.map eE)),some (.lst ((ms.take (i+1)).map (BC M))),some (.str m.nm),some (tupI m.tk),some (.int m.gv),some (.lst (m.ts.map dB)),some (.int m.p)],?_,_,_,_,_,_,rfl⟩;rw[WN,F];simp only[tupI]at W;simp_all[turn,eE,BC,tupI,W,vf,G,cW]
 ·rintro ρ ⟨q,U,B,N,J,rfl⟩
  rw[S5,WY];simp_all[cW,oW hl mc]
theorem bY(c m:Int)(n:Nat):(b4 c m n).length=n:=by unfold b4;simp[-S3,-S4,aA,aF]
theorem oS(h1:1<=n)(h6:n<=6):iF [.lst ((b4 c m n).map .str)]=some .non:=by
 refine lS ?_;unfold g7;have a:¬ (n:Int)<1:=by lia
 have b:¬ 6<(n:Int):=by lia
 rw[aG (ρ':=aD 3 [.lst ((b4 c m n).map .str)]) (by simp_all[aD,bY,a,b])];refine wV (items:=gM 0 ((b4 c m n).map .str)) (by simp_all[aD]) (λi ρ=>∃J M,ρ=[some (.lst ((b4 c m n).map .str)),J,M]) ⟨none,none,rfl⟩ ?_;rintro i x ρ Y ⟨J,M,rfl⟩;obtain⟨y,B,rfl⟩:=j3 Y;have hi:i<n:=by have:=(List.getElem?_eq_some_iff.mp B).1;rw[S5,bY]at this;exact this
 have U:y=.str (wN c m (i:Int)):=by
  unfold b4 at B;rw[TX,TX,YB hi]at B;exact(T5 B).symm
 subst U;have F:=qD (x:=wN c m (i:Int)) (by have:=(iG c m (i:Int)).2;lia);rw[(iG c m (i:Int)).1]at F;have ct:=(oC (w:=(b4 c m n).map D.str) (c:=(i:Int)) (by lia) (by rw[S5,bY];lia)).1;have tk:((b4 c m n).map D.str).take i=(b4 c m i).map D.str:=by
  unfold b4;rw[<- List.map_take,<- List.map_take,List.take_range,Nat.min_eq_left (by lia)]
 have N:(b4 c m i).contains (wN c m (i:Int))=false:=by
  rw[<- WL,List.contains_iff_mem];intro W;obtain⟨k,G,e⟩:=List.mem_map.mp W;have G:=List.mem_range.mp G;have:=oD (c:=c) (m:=m) (k:=(k:Int)) (j:=(i:Int)) (by lia) (by lia) (by lia) (by lia) e
  lia
 have q:=FE (wN c m (i:Int)) (b4 c m i);rw[N]at q;rw[Nat.zero_add];refine⟨[some (.lst ((b4 c m n).map .str)),some (.int (i:Int)),some (.str (wN c m (i:Int)))],?_,_,_,rfl⟩;simp_all[turn,F,ct,tk,q]
theorem KC{b:Rb}(ok:OkB b):EH [.int b.M,.lst ((b4 b.c b.m b.n).map .str),.lst (b.rs.map dY),.lst (b.ms.map eE)]=some (JJ b):=by
 have B:=HD ok.hM.1 ok.hM.2.1 ok.hM.2.2;have G:=oS (c:=b.c) (m:=b.m) ok.hn.1 ok.hn.2;have q:=vN (n:=b.n) ok.hM.1 ok.rl ok.ro;have F:=v8 (n:=b.n) ok.hM.1 ok.ml ok.mc ok.mo;refine aO ?_;simp[-S3,-S4,aA,aF,ED,aD,B,G,q,F,bY,cW,JJ]at q ⊢
noncomputable def M7:Nat->D->Prop
 | _,.int _=>True
 | _,.str _=>True
 | n+1,.tup l=>l.length<=1000/\∀d∈l,M7 n d
 | _,_=>False
theorem uC{i:Int}:kN [.int i]=some (.bl true):=by
 refine aO ?_;simp_all[lF,aD]
theorem DC:∀(n:Nat) (d:D),M7 n d->w9 3 bC (n+1) [d,d]=some (.bl true):=by
 intro n;induction n with
 | zero=>
  intro d h;show bG 3 (bC (w9 3 bC _)) [d,d]=_;cases d with
  | int i=>
   refine aO ?_;simp_all[bC,aD,jV,uC]
  | str s=>
   refine aO ?_;simp_all[bC,aD,jV]
  | _=>exact h.elim
 | succ n ih=>
  intro d h;show bG 3 (bC (w9 3 bC (n+1))) [d,d]=_;generalize w9 3 bC (n+1)=R at ih ⊢;cases d with
  | int i=>
   refine aO ?_;simp_all[bC,aD,jV,uC]
  | str s=>
   refine aO ?_;simp_all[bC,aD,jV]
  | tup l=>
   obtain⟨Y,N⟩:=h;have M:=gT (n:=l.length) (by lia);refine aO ?_;unfold bC;refine wJ ?_;have W:∀F G:Sv,qO (eN (w4 "tuple" (aC 1))) F G (aD 3 [.tup l,.tup l])=F (aD 3 [.tup l,.tup l]):=λF G=>by simp_all[aD,jV]
   refine(W _ _).trans ?_;rw[aG (ρ':=aD 3 [.tup l,.tup l]) (by simp_all[aD,jV])];refine dE (items:=bL 0 1 l.length) (by simp_all[aD,M]) (λi ρ=>∃o,ρ=[some (.tup l),some (.tup l),o]) ⟨none,rfl⟩ ?_ ?_
   ·rintro i x ρ J ⟨o,rfl⟩
    obtain⟨q,rfl⟩:=b6 J;have U:(0:Int)+(i:Int)*1=(i:Int):=by lia
    rw[U];have ea:kH l (i:Int)=some l[i]:=fE (by simp_all[q]);have B:=ih l[i] (N _ (zaq q));exact⟨[some (.tup l),some (.tup l),some (.int (i:Int))],by simp_all[turn,ea,B],_,rfl⟩
   ·rintro ρ ⟨o,rfl⟩
    simp[-S3,-S4,aA,aF]
  | _=>exact h.elim
theorem BO{l:List Str}{d:D}(h:d∈l.map D.str):∃s,d=.str s:=by
 obtain⟨s,_,rfl⟩:=List.mem_map.mp h;exact⟨s,rfl⟩
theorem xF(n:Nat)(l:List Int)(h:l.length<=1000):M7 (n+1) (tupI l):=by
 refine⟨by rw[S5];exact h,λd q=>?_⟩;obtain⟨i,_,rfl⟩:=List.mem_map.mp q;cases n <;> trivial
theorem LG{b:Rb}(ok:OkB b):M7 6 (JJ b):=by
 refine⟨by simp[-S3,-S4,aA,aF],λd B=>?_⟩;simp only[T9,UA,or_false]at B;rcases B with rfl|rfl|rfl|rfl
 ·trivial
 ·refine⟨by rw[S5,bY];have:=ok.hn.2;lia,λd B=>?_⟩
  obtain⟨s,rfl⟩:=BO B;trivial
 ·refine⟨by rw[S5,S5];have:=ok.rl;lia,λd B=>?_⟩
  obtain⟨r,_,rfl⟩:=List.mem_map.mp B;refine⟨by simp[-S3,-S4,aA,aF],λd B=>?_⟩;simp only[T9,UA,or_false]at B;rcases B with rfl|rfl|rfl|rfl|rfl <;> trivial
 ·refine⟨by rw[S5];have:=ok.ml;lia,λd B=>?_⟩
  obtain⟨m,J,rfl⟩:=List.mem_map.mp B;have F:=ok.mo m J;refine⟨by simp[-S3,-S4,aA,aF],λd B=>?_⟩;simp only[T9,UA,or_false]at B;rcases B with rfl|rfl|rfl|rfl|rfl
  ·trivial
  ·exact xF 2 m.tk (by rcases F.tk with⟨t,e⟩|⟨t,u,e⟩ <;> rw[e] <;> simp[-S3,-S4,aA,aF])
  ·trivial
  ·have W:=My.cR m.ts
   have fl:(My.eA b.M (bD (My.aR m.ts))).length<=9:=by
    unfold My.eA;rw[S5];refine UD (List.length_filter_le _ _) ?_;rw[j8];have:=F.tl
    lia
   refine⟨by rw[S5];lia,λd B=>?_⟩;obtain⟨t,N,rfl⟩:=List.mem_map.mp B;obtain⟨q,G,rfl⟩:=List.mem_map.mp N;have G:=(bT _).mem_iff.mp (List.mem_filter.mp G).1;obtain⟨u,U,e⟩:=W.2.2 q G;have l:=(F.tt u U).1;have tl:m.tk.length<=2:=by rcases F.tk with⟨t,e⟩|⟨t,u,e⟩ <;> rw[e] <;> simp[-S3,-S4,aA,aF]
   refine⟨by simp[-S3,-S4,aA,aF],λd B=>?_⟩;simp only[T9,UA,or_false]at B;rcases B with rfl|rfl
   ·exact xF 0 q.1 (by rw[<- e];lia)
   ·trivial
  ·trivial
theorem F9{n:Nat}{d:D}(F:n<=9)(h:M7 n d):lD [d,d]=some (.bl true):=by
 have B:∀(k n:Nat) (d:D),M7 n d->M7 (n+k) d:=by
  intro k n;induction n generalizing k with
  | zero=>
   intro d h;cases d with
   | int i=>cases k <;> trivial
   | str s=>cases k <;> trivial
   | _=>exact h.elim
  | succ n ih=>
   intro d h;rw[show n+1+k=n+k+1 by lia];cases d with
   | int i=>trivial
   | str s=>trivial
   | tup l=>exact⟨h.1,λd q=>ih k d (h.2 d q)⟩
   | _=>exact h.elim
 exact DC 9 d (by have:=B (9-n) n d h;rwa [show n+(9-n)=9 by lia]at this)
def fN(M:Int)(ts:List My.Tm):List My.Tm:=My.eA M (bD (My.aR ts))
theorem pF{q:Type}{l:List (List Int×q)}(h:cJ l):(l.map (·.1)).Nodup:=by
 unfold cJ at h;exact List.pairwise_map.mpr (h.imp λ{a b} z e=>by rw[e,My.lU]at z;cases z)
theorem BZ{q:Type}{l:List (List Int×q)}(h:cJ l):bD l=l:=g8 (dC l (pF h)) h (bT l)
theorem HW{cs:List My.Tm}{k:List Int}{c:Int}(h:k∉cs.map (·.1)):My.put cs k c=cs++[(k,c)]:=by
 unfold My.put;rw[if_neg];intro z;obtain⟨t,q,e⟩:=List.any_eq_true.mp z;exact h (List.mem_map.mpr ⟨t,q,of_decide_eq_true e⟩)
theorem F6{cs:List My.Tm}{k:List Int}(h:k∉cs.map (·.1)):My.look cs k=none:=by
 unfold My.look;rw[Option.map_eq_none_iff,List.find?_eq_none];intro t q e;exact h (List.mem_map.mpr ⟨t,q,of_decide_eq_true e⟩)
theorem HX(ts:List My.Tm)(h:(ts.map (·.1)).Nodup):My.aR ts=ts:=by
 have q:∀(ts cs:List My.Tm),((cs++ts).map (·.1)).Nodup->ts.foldl My.iX cs=cs++ts:=by
  intro ts;induction ts with
  | nil=>intro cs _;simp[-S3,-S4,aA,aF]
  | cons t ts ih=>
   intro cs h;have B:t.1∉cs.map (·.1):=by
    rw[U3,TB]at h;exact λz=>(List.nodup_append.mp h).2.2 _ z _ (TK ..) rfl
   have ea:My.iX cs t=cs++[t]:=by
    unfold My.iX;rw[F6 B,HW B];simp[-S3,-S4,aA,aF]
   rw[ZL,ea,ih (cs++[t]) (by rw[ZV];exact h),ZV];rfl
 have:=q ts [] (by simpa using h);simpa[My.aR]using this
theorem nJ{M:Int}(h0:0<M)(ts:List My.Tm):cJ (fN M ts)/\(∀t∈fN M ts,1<=t.2/\t.2<M/\∃u∈ts,u.1=t.1)/\(fN M ts).length<=ts.length:=by
 obtain⟨J,f2,F⟩:=My.cR ts;have B:=dC _ f2;unfold fN My.eA;refine⟨?_,λt N=>?_,?_⟩
 ·unfold cJ at B ⊢
  exact List.pairwise_map.mpr (B.filter _)
 ·obtain⟨q,W,rfl⟩:=List.mem_map.mp N
  obtain⟨G,U⟩:=List.mem_filter.mp W;have ne:q.2%M≠0:=of_decide_eq_true U;have a:=T2 q.2 (ZU h0);have b:=T4 q.2 h0;obtain⟨u,Y,e⟩:=F q ((bT _).subset G);exact⟨by show 1<=q.2%M;lia,b,u,Y,e⟩
 ·rw[S5]
  refine UD (List.length_filter_le ..) ?_;rw[(bT _).length_eq];exact J
theorem HQ{M:Int}(h0:0<M)(ts:List My.Tm):fN M (fN M ts)=fN M ts:=by
 obtain⟨a,b,_⟩:=nJ h0 ts;generalize fN M ts=F at *;unfold fN;rw[HX F (pF a),BZ a];unfold My.eA;rw[List.filter_eq_self.mpr λt q=>by
  obtain⟨h1,h2,_⟩:=b t q;rw[Int.emod_eq_of_lt (by lia) h2];exact decide_eq_true (by lia)]
 have:F.map (λt=>(t.1,t.2%M))=F.map id:=zax λt q=>by
  obtain⟨h1,h2,_⟩:=b t q;rw[Int.emod_eq_of_lt (by lia) h2];rfl
 rw[this,List.map_id]
def NA(M:Int)(m:Mk):Mk:={m with ts:=fN M m.ts}
def JQ(b:Rb):Rb:={b with rs:=b.rs.map (red b.M),ms:=b.ms.map (NA b.M)}
theorem G3{M:Int}{ms:List Mk}{nm:Str}{k:Nat}:cnt (ms.map (NA M)) nm k=cnt ms nm k:=by
 unfold cnt;rw[List.filter_map,S5];rfl
theorem EB{b:Rb}(ok:OkB b):OkB (JQ b):=by
 have h0:0<b.M:=by have:=ok.hM;lia
 refine⟨ok.hM,ok.hn,by show(b.rs.map _).length<=12;rw[S5];exact ok.rl,λr G=>?_,by show(b.ms.map _).length<=16;rw[S5];exact ok.ml,λm W=>?_,λnm k=>by show cnt (b.ms.map _) nm k<=6;rw[G3];exact ok.mc nm k⟩
 ·obtain⟨q,B,rfl⟩:=List.mem_map.mp G
  exact ok.ro q B
 ·obtain⟨q,B,rfl⟩:=List.mem_map.mp W
  have o:=ok.mo q B;obtain⟨_,U,F⟩:=nJ h0 q.ts;refine⟨o.nm,o.nl,o.tk,o.tb,o.gv,UD F o.tl,λt J=>?_,o.pr⟩;obtain⟨_,_,u,N,e⟩:=U t J;have:=o.tt u N;unfold IL at this ⊢;rw[<- e];exact this
theorem HI{M:Int}{r:Ro}:red M (red M r)=red M r:=by
 show(⟨r.j,r.k,r.a%M%M,r.b%M%M,r.p⟩:Ro)=⟨r.j,r.k,r.a%M,r.b%M,r.p⟩;rw[Int.emod_emod_of_dvd _ (Int.dvd_refl M),Int.emod_emod_of_dvd _ (Int.dvd_refl M)]
def BD(m:Mk):D:=.tup [.str m.nm,tupI m.tk,.int m.gv,.tup (m.ts.map dB),.int m.p]
def vD(b:Rb):D:=.tup [.int b.M,.tup ((b4 b.c b.m b.n).map .str),.tup (b.rs.map dY),.tup (b.ms.map BD)]
theorem JH(b:Rb):JJ b=vD (JQ b):=by
 unfold JJ vD JQ;simp only[T7];rfl
structure Red(b:Rb):Prop where
 ok:OkB b
 ab:∀r∈b.rs,(0<=r.a/\r.a<b.M)/\0<=r.b/\r.b<b.M
 tc:∀m∈b.ms,∀t∈m.ts,1<=t.2/\t.2<b.M
 bk:JJ b=vD b
theorem GN{b:Rb}(ok:OkB b):Red (JQ b):=by
 have h0:0<b.M:=by have:=ok.hM;lia
 refine⟨EB ok,λr F=>?_,λm U t J=>?_,?_⟩
 ·obtain⟨q,N,rfl⟩:=List.mem_map.mp F
  exact⟨⟨T2 _ (ZU h0),T4 _ h0⟩,T2 _ (ZU h0),T4 _ h0⟩
 ·obtain⟨q,N,rfl⟩:=List.mem_map.mp U
  obtain⟨h1,h2,_⟩:=(nJ h0 q.ts).2.1 t J;exact⟨h1,h2⟩
 ·rw[JH]
  have G:(b.rs.map (red b.M)).map (red b.M)=b.rs.map (red b.M):=by
   rw[T7];exact zax λr _=>HI
  have B:(b.ms.map (NA b.M)).map (NA b.M)=b.ms.map (NA b.M):=by
   rw[T7];refine zax λm _=>?_
   show({m with ts:=fN b.M (fN b.M m.ts)}:Mk)={m with ts:=fN b.M m.ts};rw[HQ h0]
  have:JQ (JQ b)=JQ b:=by
   show({b with rs:=(b.rs.map (red b.M)).map (red b.M),ms:=(b.ms.map (NA b.M)).map (NA b.M)}:Rb)=_;rw[G,B];rfl
  rw[this]
theorem E4(a b:Str):(a++b).cps.toList=a.cps.toList++b.cps.toList:=by
 show(a.cps++b.cps).toList=_;rw[Array.toList_append]
theorem RN{a b:Str}(h:a.cps.toList=b.cps.toList):a=b:=by
 cases a with|mk a=>cases b with|mk b=>
 simp only at h;rw[Array.toList_inj.mp h]
noncomputable def jn(c:Nat):List (List Nat)->List Nat
 | []=>[]
 | [x]=>x
 | x::y::l=>x++c::jn c (y::l)
theorem rW(c:Nat):∀l:List Str,(UW ⟨#[c]⟩ l).cps.toList=jn c (l.map (·.cps.toList))
 | []=>rfl
 | [x]=>rfl
 | x::y::l=>by
  show((x++⟨#[c]⟩)++UW ⟨#[c]⟩ (y::l)).cps.toList=_;rw[E4,E4,rW c (y::l)];simp_all[jn]
theorem yL{c:Nat}:∀ {a b s t:List Nat},c∉a->c∉b->a++c::s=b++c::t->a=b/\s=t
 | [],[],s,t,_,_,e=>⟨rfl,by simpa using e⟩
 | [],x::b,s,t,_,hb,e=>by
  simp only[WO,ZW,ZX]at e;exact absurd (e.1 ▸ TK ..) hb
 | x::a,[],s,t,ha,_,e=>by
  simp only[WO,ZW,ZX]at e;exact absurd (e.1 ▸ TK ..) ha
 | x::a,y::b,s,t,ha,hb,e=>by
  simp only[ZW,ZX]at e;obtain⟨h1,h2⟩:=yL (λz=>ha (TR _ z)) (λz=>hb (TR _ z)) e.2;exact⟨by rw[e.1,h1],h2⟩
theorem DN{c:Nat}:∀ {l m:List (List Nat)},l≠[]->m≠[]->(∀x∈l,c∉x)->(∀x∈m,c∉x)->jn c l=jn c m->l=m
 | [],_,h,_,_,_,_=>absurd rfl h
 | _::_,[],_,h,_,_,_=>absurd rfl h
 | [x],[y],_,_,_,_,e=>by have e:x=y:=e;rw[e]
 | [x],y::z::m,_,_,hl,_,e=>by
  have e:x=y++c::jn c (z::m):=e;exact absurd (e ▸ U9 _ (TK ..)) (hl x (TK ..))
 | x::y::l,[z],_,_,_,hm,e=>by
  have e:x++c::jn c (y::l)=z:=e;exact absurd (e ▸ U9 _ (TK ..)) (hm z (TK ..))
 | x::y::l,z::u::m,_,_,hl,hm,e=>by
  have e:x++c::jn c (y::l)=z++c::jn c (u::m):=e;obtain⟨h1,h2⟩:=yL (hl x (TK ..)) (hm z (TK ..)) e;rw[h1,DN (by simp[-S3,-S4,aA,aF]) (by simp[-S3,-S4,aA,aF]) (λx q=>hl x (TR _ q)) (λx q=>hm x (TR _ q)) h2]
theorem vU{c:Nat}{l:List Str}(h:l≠[])(B:∀x∈l,c∉x.cps.toList):V2 (UW ⟨#[c]⟩ l) ⟨#[c]⟩=l:=by
 have e:=congrArg (λs:Str=>s.cps.toList) (StrLaws.join_split (UW ⟨#[c]⟩ l) ⟨#[c]⟩);simp only[rW]at e;have p:=PyProof.Rows.split_pos (UW ⟨#[c]⟩ l) ⟨#[c]⟩;have fr:=StrLaws.split_free (UW ⟨#[c]⟩ l) c;generalize V2 (UW ⟨#[c]⟩ l) ⟨#[c]⟩=m at *;have:=DN (c:=c) (l:=m.map (·.cps.toList)) (m:=l.map (·.cps.toList)) (by intro z;rw[List.map_eq_nil_iff.mp z]at p;exact absurd p (by decide)) (by simpa using h) (λx q=>by obtain⟨s,hs,rfl⟩:=List.mem_map.mp q;exact fr s hs) (λx q=>by obtain⟨s,hs,rfl⟩:=List.mem_map.mp q;exact B s hs) e;have inj:∀ {a b:List Str},a.map (·.cps.toList)=b.map (·.cps.toList)->a=b:=by
  intro a;induction a with
  | nil=>intro b e;cases b with
   | nil=>rfl
   | cons _ _=>cases e
  | cons x a ih=>intro b e;cases b with
   | nil=>cases e
   | cons y b=>
    simp only[TB,ZX]at e;rw[RN e.1,ih e.2]
 exact inj this
noncomputable def bV(n:Int):Str:=U5 (V1 n)
theorem c4{n:Int}(h0:0<=n):∀c∈(bV n).cps.toList,48<=c/\c<=57:=by
 obtain⟨m,rfl⟩:=YG h0;intro c B;unfold bV at B;rw[zay]at B;obtain⟨ch,q,e⟩:=List.mem_map.mp B;have r:=digit_range (Nat.isDigit_of_mem_toDigits (by decide) (by decide) q);rw[<- e];exact r
theorem yP:∀(k n:Nat),n<10^(k+1)->(WP 10 n).length<=k+1
 | 0,n,h=>by rw[YJ (by simpa using h)];simp[-S3,-S4,aA,aF]
 | k+1,n,h=>by
  by_cases z:n<10
  ·rw[YJ z];simp[-S3,-S4,aA,aF]
  ·have q:n%10<10:=Nat.mod_lt n (by decide)
   have t:WP 10 (n/10)++WP 10 (n%10)=WP 10 (10*(n/10)+n%10):=zaL (by decide) (by lia) q;rw[Nat.div_add_mod]at t;rw[<- t,T8,YJ q];have:=yP k (n/10) (by rw[Nat.pow_succ]at h;lia);simp[-S3,-S4,aA,aF]
   lia
theorem iU{n:Int}(h0:0<=n)(h:n<10^60):1<=(bV n).length/\(bV n).length<=60:=by
 obtain⟨m,rfl⟩:=YG h0;have e:(bV (m:Int)).length=(WP 10 m).length:=by
  show(bV (m:Int)).cps.size=_;rw[<- UL];unfold bV;rw[zay,S5]
 rw[e];refine⟨?_,yP 59 m (by exact_mod_cast h)⟩;by_cases z:m<10
 ·rw[YJ z];simp[-S3,-S4,aA,aF]
 ·have q:m%10<10:=Nat.mod_lt m (by decide)
  have t:WP 10 (m/10)++WP 10 (m%10)=WP 10 (10*(m/10)+m%10):=zaL (by decide) (by lia) q;rw[Nat.div_add_mod]at t;rw[<- t,T8,YJ q];simp[-S3,-S4,aA,aF]
theorem BX{n:Int}(h0:0<=n)(h:n<10^60):intText? (bV n)=some n:=by
 have B:=iU h0 h;have F:NumText.AllDigits (bV n).cps.toList:=c4 h0;have q:(bV n).cps.toList≠[]:=λz=>by
  have:(bV n).cps.toList.length=0:=by rw[z];rfl
  rw[UL]at this;have l:(bV n).length=(bV n).cps.size:=rfl
  lia
 have e:=intText_digits F q (UD B.2 (by decide));obtain⟨m,rfl⟩:=YG h0;unfold bV at e ⊢;rw[zay,PySem.W.KIN.val_back]at e;exact e
theorem KR{n:Int}(h0:0<=n)(h:n<10^60):n.natAbs.log2<1900:=by
 have:n.natAbs<2^1900:=by
  have e:(10:Nat)^60<2^1900:=by decide +kernel
  have:n.natAbs<10^60:=by lia
  lia
 by_cases z:n.natAbs=0
 ·rw[z];decide
 ·exact(Nat.log2_lt z).mpr this
theorem jR{n:Int}(h0:0<=n)(h:n<10^60):A7 [.int n]=some (.str (bV n)):=if_pos (KR h0 h)
structure Wd(w:Str):Prop where
 l:w.length<=80
 sp:32∉w.cps.toList
 nl:10∉w.cps.toList
theorem A9(w:Str):w.cps.toList.length=w.length:=by rw[UL];rfl
theorem DM{c B:Nat}:∀ {l:List (List Nat)},(∀x∈l,x.length<=B)->(jn c l).length<=l.length*(B+1)
 | [],_=>by simp_all[jn]
 | [x],h=>by have:=h x (TK ..);simp_all[jn];lia
 | x::y::l,h=>by
  have a:=h x (TK ..);have b:=DM (c:=c) (l:=y::l) λz hz=>h z (TR _ hz)
  rw[jn,T8,UO,UO,Nat.add_mul,Nat.one_mul]
  lia
theorem nR{c B:Nat}{l:List Str}(h:∀w∈l,w.length<=B):(UW ⟨#[c]⟩ l).length<=l.length*(B+1):=by
 rw[<- A9,rW];have:=DM (c:=c) (B:=B) (l:=l.map (·.cps.toList)) λx q=>by obtain⟨s,hs,rfl⟩:=List.mem_map.mp q;rw[A9];exact h s hs
 rwa [S5]at this
theorem IY{c d:Nat}(ne:d≠c):∀ {l:List (List Nat)},(∀x∈l,d∉x)->d∉jn c l
 | [],_,z=>nomatch z
 | [x],h,z=>h x (TK ..) z
 | x::y::l,h,z=>by
  rw[jn]at z;rcases List.mem_append.mp z with z|z
  ·exact h x (TK ..) z
  ·rcases List.mem_cons.mp z with z|z
   ·exact ne z
   ·exact IY ne (λz hz=>h z (TR _ hz)) z
theorem lT{c d:Nat}(ne:d≠c){l:List Str}(h:∀w∈l,d∉w.cps.toList):d∉(UW ⟨#[c]⟩ l).cps.toList:=by
 rw[rW];exact IY ne λx q=>by obtain⟨s,hs,rfl⟩:=List.mem_map.mp q;exact h s hs
theorem D4{B:Nat}:∀ {l:List Str},(∀w∈l,w.length<=B)->(l.map (·.length)).sum<=l.length*B
 | [],_=>by simp[-S3,-S4,aA,aF]
 | x::l,h=>by
  have a:=h x (TK ..);have b:=D4 (l:=l) λz hz=>h z (TR _ hz)
  rw[TB,List.sum_cons,UO,Nat.add_mul,Nat.one_mul]
  lia
theorem tj{sep:Str}{ys:List Str}:Txt.join sep ys=UW sep ys:=by
 have:=join_closes (sep:=sep) (sep':=sep) (ys:=ys) rfl;simpa using this
theorem wH{c B:Nat}{l:List Str}(h:∀w∈l,w.length<=B)(q:l.length*(B+1)<=1000000):gO (.str ⟨#[c]⟩) (.lst (l.map .str))=some (.str (UW ⟨#[c]⟩ l)):=by
 have s:=D4 h;rw[Nat.mul_add,Nat.mul_one]at q;rw[KP (show _+l.length*1<=_ by lia),tj]
theorem lZ{c B:Nat}{l:List Str}(h:∀w∈l,w.length<=B)(G:l.length*(B+1)<=1000000)(F:l≠[])(q:∀w∈l,c∉w.cps.toList):gJ (.str (UW ⟨#[c]⟩ l)) (.str ⟨#[c]⟩)=some (.lst (l.map .str)):=by
 have a:=nR (c:=c) h;have e:=vU F q;rw[Nat.mul_add,Nat.mul_one]at a G;show(if((⟨#[c]⟩:Str).length == 0)=false/\_/\_ then _ else none)=_;rw[if_pos ⟨rfl,by lia,by rw[e];lia⟩,e]
theorem u3{n:Int}(h0:0<=n)(h:n<10^60):Wd (bV n):=⟨by have:=iU h0 h;lia,λz=>by have:=c4 h0 _ z;lia,λz=>by have:=c4 h0 _ z;lia⟩
theorem nT{x:Str}(h:cV x=true):∀c∈x.cps.toList,97<=c/\c<=122:=λc q=>by
 unfold cV at h;simp only[UF]at h;have:=List.all_eq_true.mp h.1.2 c q;unfold low at this;simpa using this
theorem gY{x:Str}(h:cV x=true):Wd x:=⟨by
  unfold cV at h;simp only[UF,decide_eq_true_eq]at h
  lia,λz=>by have:=nT h _ z;lia,λz=>by have:=nT h _ z;lia⟩
theorem u2:∀(cs:List Nat) (o:Option D),(∀c∈cs,48<=c/\c<=57)->aV (aL 0) fL (aT sL (aC 0) (eC (.str "0123456789"))) (cs.map λc=>.str ⟨#[c]⟩) [o]=some ((cs.map λ_=>true).map .bl)
 | [],_,_=>rfl
 | c::cs,o,h=>by
  have B:=h c (TK ..);have e:sL (.str ⟨#[c]⟩) (.str "0123456789")=some (.bl true):=by
   show some (D.bl (!(XX ("0123456789" : Str) ⟨#[c]⟩ 0 ("0123456789" : Str).length 1).isEmpty))=_;rw[StrLaws.found_one];have m:("0123456789" : Str).cps.toList=[48,49,50,51,52,53,54,55,56,57]:=rfl;rw[m,decide_eq_true];have:c=48\/c=49\/c=50\/c=51\/c=52\/c=53\/c=54\/c=55\/c=56\/c=57:=by lia
   rcases this with rfl|rfl|rfl|rfl|rfl|rfl|rfl|rfl|rfl|rfl <;> simp[-S3,-S4,aA,aF]
  exact cI (ρ':=[some (.str ⟨#[c]⟩)]) rfl rfl (aI rfl rfl e) (u2 cs _ λx q=>h x (TR _ q))
theorem BJ{q:Type}(l:List q):xB [.lst ((l.map λ_=>true).map .bl)]=some (.bl true):=by
 rw[q_all];congr 2;induction l with
 | nil=>rfl
 | cons _ _ ih=>rw[TB,WS,ih];rfl
theorem dN{n:Int}(h0:0<=n)(h:n<10^60):bH [.str (bV n)]=some (.int n):=by
 obtain⟨U,W⟩:=iU h0 h;have hz:bA (bV n).length=true:=decide_eq_true (by lia);have le:dW [.str (bV n)]=some (.int ((bV n).length:Int)):=if_pos hz;have M:=u2 (bV n).cps.toList none (c4 h0);have N:=BJ (bV n).cps.toList;have J:yZ [.str (bV n)]=some (.int n):=by
  show(if(bV n).length<=640 then(intText? (bV n)).map D.int else none)=_;rw[if_pos (by lia),BX h0 h];rfl
 have G:¬ ((bV n).length:Int)<1:=by lia
 have B:¬ (60:Int)<((bV n).length:Int):=by lia
 have F:((bV n).cps.toList.map λc=>D.str ⟨#[c]⟩).length<=1000000:=by rw[S5,A9];lia
 generalize bV n=w at *;have q:eU [none] (fP (aC 0)) (aL 0) fL (aT sL (aC 0) (eC (.str "0123456789"))) [some (.str w)]=some (.lst ((w.cps.toList.map λ_=>true).map .bl)):=bE rfl F M;refine aO ?_;unfold eO;refine(aG (ρ':=[some (.str w)]) (s_iff (u6 (c:=false) (cE (aI (aH (aB rfl rfl) le) rfl (by show some (D.bl (decide _))=_;rw[decide_eq_false G]))) (A8 rfl (u6 (c:=false) (cE (aI (aH (aB rfl rfl) le) rfl (by show some (D.bl (decide _))=_;rw[decide_eq_false B]))) (A8 rfl (D3 (c:=true) (cE (aH (aB q rfl) N))))))) rfl)).trans ?_;exact c6 (aH (aB rfl rfl) J)
theorem cA{f:Ev}{ρ:cC}{xs:List D}(h:f ρ=some (.tup xs)):fP f ρ=some xs:=by unfold fP;rw[h,aA]
theorem t8(x:Str)(l:List Str):jO (.str x) (.lst (l.map D.str))=some (.bl (!l.contains x)):=by
 show sI (.str x) (.lst (l.map D.str))=_;unfold sI sM;dsimp only;rw[if_pos ⟨rfl,all_strs l⟩,nO];rfl
open Classical in
theorem uQ{x:Str}{l:List Str}{i:Nat}(h:l.findIdx? (λy=>decide (y=x))=some i)(q:l.length<=1000):kB (.lst (l.map .str)) (.str x)=some (.int (i:Int)):=by
 have e:∀l:List Str,(l.map D.str).findIdx? (λy=>decide (y=D.str x))=l.findIdx? (λy=>decide (y=x)):=by
  intro l;induction l with
  | nil=>rfl
  | cons a l ih=>
   rw[TB,ZY,ZY,ih];simp[-S3,-S4,aA,aF]
 unfold kB;dsimp only;rw[if_pos ⟨rfl,all_strs l,decide_eq_true (by rw[S5];lia)⟩,e,h];rfl
abbrev kw(b:Rb)(i:Int):Str:=wN b.c b.m i
abbrev dZ(b:Rb):List D:=(b4 b.c b.m b.n).map .str
theorem zB{b:Rb}{j:Int}(h0:0<=j)(h:j<(b.n:Int)):(b4 b.c b.m b.n)[j.toNat]?=some (kw b j):=by
 unfold b4;rw[TX,YB (by lia)];show some (wN b.c b.m ((j.toNat:Nat):Int))=_;rw[show((j.toNat:Nat):Int)=j by lia]
theorem N0{b:Rb}{j:Int}(h0:0<=j)(h:j<(b.n:Int)):kH (dZ b) j=some (.str (kw b j)):=by
 have e:=zB (b:=b) h0 h;obtain⟨k,rfl⟩:=YG h0;exact fE (by rw[TX];rw[VM]at e;rw[e];rfl)
theorem sJ{b:Rb}(J:b.n<=6){j:Int}(h0:0<=j)(h:j<(b.n:Int)):b5 [.lst (dZ b),.str (kw b j)]=some (.int j):=by
 have m:kw b j∈b4 b.c b.m b.n:=UU (zB h0 h);have c:(b4 b.c b.m b.n).contains (kw b j)=true:=by simpa using m
 have B:=t8 (kw b j) (b4 b.c b.m b.n);rw[c]at B;have F:(b4 b.c b.m b.n).findIdx? (λy=>decide (y=kw b j))=some j.toNat:=by
  rw[zaF];have lt:j.toNat<(b4 b.c b.m b.n).length:=by rw[bY];lia
  have g:=List.getElem?_eq_some_iff.mp (zB (b:=b) h0 h);refine⟨lt,decide_eq_true g.2,λi hi=>?_⟩;have G:=List.getElem?_eq_some_iff.mp (zB (b:=b) (j:=(i:Int)) (by lia) (by lia));have q:(b4 b.c b.m b.n)[i]=kw b (i:Int):=by simpa using G.2
  rw[q];simp only[decide_eq_true_eq];intro z;have:=oD (by lia) (by lia) h0 (by lia) z
  lia
 have q:=uQ F (by rw[bY];lia);rw[show((j.toNat:Nat):Int)=j by lia]at q;refine aO ?_;unfold fS;exact(aG (ρ':=[some (.lst (dZ b)),some (.str (kw b j))]) (s_iff (cE (aI rfl rfl B)) rfl)).trans (c6 (aI rfl rfl q))
def sU(t:My.Tm):Str:=UW ⟨#[44]⟩ (t.1.map bV)
def oQ(t:My.Tm):Str:=UW ⟨#[42]⟩ [sU t,bV t.2]
structure Tg(t:My.Tm):Prop where
 n:1<=t.1.length/\t.1.length<=2
 e:∀e∈t.1,0<=e/\e<=2
 c:0<=t.2/\t.2<10^60
theorem nW{e:Int}(h:0<=e/\e<=2):(bV e).length<=1:=by
 have:e=0\/e=1\/e=2:=by lia
 rcases this with rfl|rfl|rfl <;> decide
theorem j5{t:My.Tm}(g:Tg t):(sU t).length<=4/\(∀d,(d<44\/d=45\/d=46\/d=47\/57<d)->d∉(sU t).cps.toList):=by
 have wl:∀w∈t.1.map bV,w.length<=1:=λw hw=>by obtain⟨e,q,rfl⟩:=List.mem_map.mp hw;exact nW (g.e e q)
 refine⟨?_,λd B=>lT (by lia) λw hw=>?_⟩
 ·have:=nR (c:=44) wl
  rw[S5]at this;have:=g.n;unfold sU
  lia
 ·obtain⟨e,q,rfl⟩:=List.mem_map.mp hw
  exact λz=>by have:=c4 (g.e e q).1 _ z;lia
theorem NO{t:My.Tm}(g:Tg t):Wd (oQ t):=by
 obtain⟨a,b⟩:=j5 g;have c:=iU g.c.1 g.c.2;have s:=c4 g.c.1;have wl:∀w∈[sU t,bV t.2],w.length<=60:=λw hw=>by
  simp only[T9,UA,or_false]at hw;rcases hw with rfl|rfl <;> lia
 have l:(oQ t).length<=70:=by
  show((sU t++⟨#[42]⟩)++bV t.2).cps.size<=70;rw[<- UL,E4,E4,T8,T8,A9 (sU t),A9 (bV t.2)];show _+1+_<=70
  lia
 refine⟨by lia,lT (by decide) λw hw=>?_,lT (by decide) λw hw=>?_⟩ <;>
 ·simp only[T9,UA,or_false]at hw
  rcases hw with rfl|rfl
  ·exact b _ (by lia)
  ·exact λz=>by have:=s _ z;lia
theorem jX{f:Ev}:∀(l:List Int) (o:Option D),(∀n∈l,f [some (.str (bV n))]=some (.int n))->aV (aL 0) fL f ((l.map bV).map .str) [o]=some (l.map .int)
 | [],_,_=>rfl
 | n::l,o,h=>cI (ρ':=[some (.str (bV n))]) rfl rfl (h n (TK ..)) (jX l _ λx q=>h x (TR _ q))
theorem rE{l:List D}(h:l.length<=1000):cW [.lst l]=some (.tup l):=by
 have z:bA l.length=true:=decide_eq_true (by lia);simp_all[cW,z]
theorem LB{t:My.Tm}(g:Tg t):dH [.str (oQ t)]=some (dB t):=by
 obtain⟨a,b⟩:=j5 g;have c:=iU g.c.1 g.c.2;have s:=c4 g.c.1;have sp:gJ (.str (oQ t)) (.str "*")=some (.lst [.str (sU t),.str (bV t.2)]):=lZ (c:=42) (B:=60) (l:=[sU t,bV t.2]) (λw hw=>by
   simp only[T9,UA,or_false]at hw;rcases hw with rfl|rfl <;> lia) (by simp[-S3,-S4,aA,aF]) (by simp[-S3,-S4,aA,aF]) (λw hw=>by
   simp only[T9,UA,or_false]at hw;rcases hw with rfl|rfl
   ·exact b _ (by lia)
   ·exact λz=>by have:=s _ z;lia)
 have sq:gJ (.str (sU t)) (.str ",")=some (.lst ((t.1.map bV).map .str)):=lZ (c:=44) (B:=1) (l:=t.1.map bV) (λw hw=>by obtain⟨e,q,rfl⟩:=List.mem_map.mp hw;exact nW (g.e e q)) (by rw[S5];have:=g.n;lia) (λz=>by have h1:=g.n.1;rw[List.map_eq_nil_iff.mp z]at h1;exact absurd h1 (by decide)) (λw hw=>by
   obtain⟨e,q,rfl⟩:=List.mem_map.mp hw;exact λz=>by have:=c4 (g.e e q).1 _ z;lia)
 have G:=jX (f:=aP bH (aE (aC 0) a6)) t.1 none λe q=>aH (aB rfl rfl) (dN (g.e e q).1 (by have:=(g.e e q).2;lia))
 have J:=dN g.c.1 g.c.2;have F:cW [.lst (t.1.map .int)]=some (tupI t.1):=rE (by rw[S5];have:=g.n;lia);have el:dW [.lst [.str (sU t),.str (bV t.2)]]=some (.int 2):=rfl;refine aO ?_;unfold fY;refine(aG (ρ':=[some (.str (oQ t)),some (.lst [.str (sU t),.str (bV t.2)])]) (bO (aI rfl rfl sp) rfl)).trans ?_;refine(aG (ρ':=[some (.str (oQ t)),some (.lst [.str (sU t),.str (bV t.2)])]) (s_iff (cE (aI (aH (aB rfl rfl) el) rfl (by simp[-S3,-S4,aA,aF]))) rfl)).trans ?_;exact c6 (wW (aB (aH (aB (bE (dS (aI (aI rfl rfl rfl) rfl sq)) (by rw[S5,S5];have:=g.n;lia) G) rfl) F) (aB (aH (aB (aI rfl rfl rfl) rfl) J) rfl)))
theorem j7{τ:cC}:∀(l:List Int) (o:Option D),(∀n∈l,0<=n/\n<10^60)->aV (aL 0) fL (aP A7 (aE (aC 0) a6)) (l.map .int) (o::τ)=some ((l.map bV).map .str)
 | [],_,_=>rfl
 | n::l,o,h=>cI (ρ':=some (.int n)::τ) rfl rfl (aH (aB rfl rfl) (jR (h n (TK ..)).1 (h n (TK ..)).2)) (j7 l _ λx q=>h x (TR _ q))
theorem s_add{a b:Str}(h:a.length+b.length<=1000000):aY (.str a) (.str b)=some (.str (a++b)):=if_pos (decide_eq_true h)
theorem DE{t:My.Tm}(g:Tg t):BF (aT aY (aT aY (aT gO (eC (.str ",")) (eU [none] (fP (aC 0)) (aL 0) fL (aP A7 (aE (aC 0) a6)))) (eC (.str "*"))) (aP A7 (aE (aC 1) a6))) [some (tupI t.1),some (.int t.2)]=some (.rt (.str (oQ t))):=by
 obtain⟨a,b⟩:=j5 g;have c:=iU g.c.1 g.c.2;have M:=j7 (τ:=[]) t.1 none λe q=>⟨(g.e e q).1,by have:=(g.e e q).2;lia⟩
 have G:gO (.str ",") (.lst ((t.1.map bV).map .str))=some (.str (sU t)):=wH (c:=44) (B:=1) (λw hw=>by obtain⟨e,q,rfl⟩:=List.mem_map.mp hw;exact nW (g.e e q)) (by rw[S5];have:=g.n;lia);have J:aY (.str (sU t)) (.str "*")=some (.str (sU t ++ "*")):=s_add (by show _+1<=_;lia);have N:(sU t++("*" : Str)).length<=10:=by
  show(sU t++("*" : Str)).cps.size<=10;rw[<- UL,E4,T8,A9];show _+1<=10
  lia
 have F:aY (.str (sU t ++ "*")) (.str (bV t.2))=some (.str (oQ t)):=s_add (by lia);exact c6 (aI (aI (aI rfl (bE (cA rfl) (by rw[S5];have:=g.n;lia) M) G) rfl J) (aH (aB rfl rfl) (jR g.c.1 g.c.2)) F)
theorem sW{t:My.Tm}(g:Tg t):fM [tupI t.1,.int t.2]=some (.str (oQ t)):=aO (DE g)
theorem sZ{t:My.Tm}(g:Tg t):kJ [tupI t.1,.int t.2]=some (.str (oQ t)):=aO (DE g)
abbrev bX(ws:List Str):D:=.lst (ws.map .str)
def wR(b:Rb)(r:Ro):List Str:=["road",kw b r.j,kw b r.k,bV r.a,bV r.b,bV r.p]
def wM(b:Rb)(m:Mk):List Str:=[("make" : Str),m.nm]++m.tk.map (kw b)++[(">" : Str),kw b m.gv,bV m.p, ":"]++m.ts.map oQ
structure Rg(b:Rb)(r:Ro):Prop where
 j:0<=r.j/\r.j<(b.n:Int)
 k:0<=r.k/\r.k<(b.n:Int)
 a:0<=r.a/\r.a<10^60
 b:0<=r.b/\r.b<10^60
 p:0<=r.p/\r.p<10^60
structure Mg(b:Rb)(m:Mk):Prop where
 nm:cV m.nm=true
 tk:(∃t,m.tk=[t])\/∃t u,m.tk=[t,u]
 tb:∀t∈m.tk,0<=t/\t<(b.n:Int)
 gv:0<=m.gv/\m.gv<(b.n:Int)
 tl:m.ts.length<=9
 tt:∀t∈m.ts,Tg t
 p:0<=m.p/\m.p<10^60
theorem xS{b:Rb}{r:Ro}(g:Rg b r):∀w∈wR b r,Wd w:=λw hw=>by
 unfold wR at hw;simp only[T9,UA,or_false]at hw;rcases hw with rfl|rfl|rfl|rfl|rfl|rfl
 ·exact⟨by decide,by decide,by decide⟩
 ·exact gY (iG ..).1
 ·exact gY (iG ..).1
 ·exact u3 g.a.1 g.a.2
 ·exact u3 g.b.1 g.b.2
 ·exact u3 g.p.1 g.p.2
theorem sG{b:Rb}{m:Mk}(g:Mg b m):m.tk.length<=2:=by rcases g.tk with⟨t,e⟩|⟨t,u,e⟩ <;> rw[e] <;> simp[-S3,-S4,aA,aF]
theorem lW{b:Rb}{m:Mk}(g:Mg b m):(∀w∈wM b m,Wd w)/\(wM b m).length<=17:=by
 refine⟨λw hw=>?_,?_⟩
 ·unfold wM at hw
  simp only[List.mem_append,T9,UA,or_false,List.mem_map]at hw;rcases hw with(((rfl|rfl)|⟨t,_,rfl⟩)|(rfl|rfl|rfl|rfl))|⟨t,q,rfl⟩
  ·exact⟨by decide,by decide,by decide⟩
  ·exact gY g.nm
  ·exact gY (iG ..).1
  ·exact⟨by decide,by decide,by decide⟩
  ·exact gY (iG ..).1
  ·exact u3 g.p.1 g.p.2
  ·exact⟨by decide,by decide,by decide⟩
  ·exact NO (g.tt t q)
 ·have:=sG g
  have:=g.tl;unfold wM;simp only[T8,S5,UO,WH]
  lia
theorem vK{b:Rb}(q:b.n<=6){r:Ro}(g:Rg b r):eI [.lst (dZ b),bX (wR b r)]=some (dY r):=by
 have B:=sJ q g.j.1 g.j.2;have M:=sJ q g.k.1 g.k.2;have W:=dN g.a.1 g.a.2;have nb:=dN g.b.1 g.b.2;have np:=dN g.p.1 g.p.2;have J:iW (bX (wR b r)) (some 1) (some 3)=some (.lst [.str (kw b r.j),.str (kw b r.k)]):=rfl;have N:iW (bX (wR b r)) (some 3) (some 6)=some (.lst [.str (bV r.a),.str (bV r.b),.str (bV r.p)]):=rfl;have Y:aV (aL 0) fL (aP b5 (aE (aC 1) (aE (aC 0) a6))) [.str (kw b r.j),.str (kw b r.k)] [none,some (.lst (dZ b))]=some [.int r.j,.int r.k]:=cI (ρ':=[some (.str (kw b r.j)),some (.lst (dZ b))]) rfl rfl (aH (aB rfl (aB rfl rfl)) B) (cI (ρ':=[some (.str (kw b r.k)),some (.lst (dZ b))]) rfl rfl (aH (aB rfl (aB rfl rfl)) M) rfl);have F:aV (aL 0) fL (aP bH (aE (aC 0) a6)) [.str (bV r.a),.str (bV r.b),.str (bV r.p)] [none]=some [.int r.a,.int r.b,.int r.p]:=jX [r.a,r.b,r.p] none λn q=>by
  simp only[T9,UA,or_false]at q;rcases q with rfl|rfl|rfl
  ·exact aH (aB rfl rfl) W
  ·exact aH (aB rfl rfl) nb
  ·exact aH (aB rfl rfl) np
 have el:dW [bX (wR b r)]=some (.int 6):=rfl;have U:aY (.lst [.int r.j,.int r.k]) (.lst [.int r.a,.int r.b,.int r.p])=some (.lst [.int r.j,.int r.k,.int r.a,.int r.b,.int r.p]):=rfl;have G:cW [.lst [.int r.j,.int r.k,.int r.a,.int r.b,.int r.p]]=some (dY r):=rE (by simp[-S3,-S4,aA,aF]);generalize bX (wR b r)=w at *;refine aO ?_;unfold iC;refine(aG (ρ':=[some (.lst (dZ b)),some w,none]) (s_iff (cE (aI (aH (aB rfl rfl) el) rfl (by simp[-S3,-S4,aA,aF]))) rfl)).trans ?_;refine(aG (ρ':=[some (.lst (dZ b)),some w,some (.lst [.int r.j,.int r.k])]) (bO (bE (dS (lK rfl (gP rfl) (gP rfl) J)) (by simp[-S3,-S4,aA,aF]) Y) rfl)).trans ?_;exact c6 (aH (aB (aI rfl (bE (dS (lK rfl (gP rfl) (gP rfl) N)) (by simp[-S3,-S4,aA,aF]) F) U) rfl) G)
theorem LH{w:List D}{a c:Int}(h0:0<=a)(h1:a<=c)(h2:c<=(w.length:Int)):cutD w (some a) (some c)=(w.drop a.toNat).take (c.toNat-a.toNat):=by
 have B:HT.sIx w.length w.length (some c)=c.toNat:=by
  show(if c<0 then _ else min c.toNat w.length)=_;rw[if_neg (by lia)];lia
 have q:HT.sIx w.length 0 (some a)=a.toNat:=by
  show(if a<0 then _ else min a.toNat w.length)=_;rw[if_neg (by lia)];lia
 unfold _root_.P.cutD;rw[B,q]
theorem mO{b:Rb}(q:b.n<=6):∀(l:List Int) (o:Option D),(∀t∈l,0<=t/\t<(b.n:Int))->aV (aL 0) fL (aP b5 (aE (aC 1) (aE (aC 0) a6))) ((l.map (kw b)).map .str) [o,some (.lst (dZ b))]=some (l.map .int)
 | [],_,_=>rfl
 | t::l,o,h=>cI (ρ':=[some (.str (kw b t)),some (.lst (dZ b))]) rfl rfl (aH (aB rfl (aB rfl rfl)) (sJ q (h t (TK ..)).1 (h t (TK ..)).2)) (mO q l _ λx B=>h x (TR _ B))
theorem mY:∀(l:List My.Tm) (o:Option D),(∀t∈l,Tg t)->aV (aL 0) fL (aP dH (aE (aC 0) a6)) ((l.map oQ).map .str) [o]=some (l.map dB)
 | [],_,_=>rfl
 | t::l,o,h=>cI (ρ':=[some (.str (oQ t))]) rfl rfl (aH (aB rfl rfl) (LB (h t (TK ..)))) (mY l _ λx q=>h x (TR _ q))
theorem xI{x:Str}(h:cV x=true):x ≠ ">" := λz=>by
 have:=nT h 62 (by rw[z];decide)
 lia
theorem vG{b:Rb}(J:b.n<=6){m:Mk}(g:Mg b m):eG [.lst (dZ b),bX (wM b m)]=some (eE m):=by
 have tl:=sG g;have ai:=(lW g).2;have U:1<=m.tk.length:=by rcases g.tk with⟨t,e⟩|⟨t,u,e⟩ <;> rw[e] <;> simp[-S3,-S4,aA,aF]
 have N:(wM b m).findIdx? (λy=>decide (y=(">" : Str)))=some (2+m.tk.length):=by
  have G:("make" : Str) ≠ ">" := by decide
  have F:=xI g.nm;have B:∀t,kw b t ≠ ">" := λt=>xI (iG ..).1
  unfold wM;rcases g.tk with⟨t,e⟩|⟨t,u,e⟩
  ·rw[e]
   simp_all[ZY,G,F,B]
  ·rw[e]
   simp_all[ZY,G,F,B]
 have ix:kB (bX (wM b m)) (.str ">")=some (.int ((2+m.tk.length:Nat):Int)):=uQ N (by lia);have ni:jO (.str ">") (bX (wM b m))=some (.bl false):=by
  have:=t8 ">" (wM b m);have c:(wM b m).contains ">" = true:=by
   have:(">" : Str)∈wM b m:=by unfold wM;simp[-S3,-S4,aA,aF]
   simpa using this
  rw[c]at this;exact this
 have wl:(wM b m).length=m.tk.length+6+m.ts.length:=by
  unfold wM;simp only[T8,S5,UO,WH]
  lia
 have q:∀(i:Nat) (x:Str),(wM b m)[i]?=some x->aN (bX (wM b m)) (.int (i:Int))=some (.str x):=λi x h=>by
  show kH _ _=_;exact fE (by rw[TX,h];rfl)
 have sp:wM b m=([("make" : Str),m.nm]++m.tk.map (kw b))++((">" : Str)::kw b m.gv::bV m.p :: ":" :: m.ts.map oQ):=by unfold wM;simp[-S3,-S4,aA,aF]
 have M:([("make" : Str),m.nm]++m.tk.map (kw b)).length=2+m.tk.length:=by simp[-S3,-S4,aA,aF];lia
 have g1:aN (bX (wM b m)) (.int 1)=some (.str m.nm):=q 1 _ (by rw[sp];rfl);have at_:∀k:Nat,(wM b m)[2+m.tk.length+k]?=((">" : Str)::kw b m.gv::bV m.p :: ":" :: m.ts.map oQ)[k]?:=λk=>by
  rw[sp,YT (by lia),M];congr 1;lia
 have q1:aN (bX (wM b m)) (.int (((2+m.tk.length:Nat):Int)+1))=some (.str (kw b m.gv)):=q (2+m.tk.length+1) _ (at_ 1);have q2:aN (bX (wM b m)) (.int (((2+m.tk.length:Nat):Int)+2))=some (.str (bV m.p)):=q (2+m.tk.length+2) _ (at_ 2);have q3:aN (bX (wM b m)) (.int (((2+m.tk.length:Nat):Int)+3))=some (.str ":"):=q (2+m.tk.length+3) _ (at_ 3);have c1:iW (bX (wM b m)) (some 2) (some ((2+m.tk.length:Nat):Int))=some (.lst ((m.tk.map (kw b)).map .str)):=by
  show some (D.lst (cutD _ _ _))=_;rw[LH (by decide) (by lia) (by rw[S5,wl];lia),<- List.map_drop,<- List.map_take];congr 3;rw[sp];show((m.tk.map (kw b))++_).take (((2+m.tk.length:Nat):Int).toNat-2)=_;rw[VM,show 2+m.tk.length-2=(m.tk.map (kw b)).length by rw[S5];lia,List.take_left]
 have Y:iW (bX (wM b m)) (some (((2+m.tk.length:Nat):Int)+4)) none=some (.lst ((m.ts.map oQ).map .str)):=by
  show some (D.lst (cutD _ _ _))=_;rw[(oC (by lia) (by rw[S5,wl];lia)).2,<- List.map_drop];congr 3;rw[sp,show((((2+m.tk.length:Nat):Int)+4)).toNat=([("make" : Str),m.nm]++m.tk.map (kw b)).length+4 by rw[M];lia,<- List.drop_drop,List.drop_left];rfl
 have k1:=mO J m.tk none g.tb;have k2:=mY m.ts none g.tt;have tu:cW [.lst (m.tk.map .int)]=some (tupI m.tk):=rE (by rw[S5];lia);have W:=sJ J g.gv.1 g.gv.2;have vp:=dN g.p.1 g.p.2;have el:dW [bX (wM b m)]=some (.int ((m.tk.length:Int)+6+(m.ts.length:Int))):=by rw[q_lenL,S5,wl];simp[-S3,-S4,aA,aF]
 have n1:¬ (m.tk.length:Int)+6+(m.ts.length:Int)<((2+m.tk.length:Nat):Int)+4:=by lia
 have ne:FB (.str ":") (.str ":")=some (.bl false):=by simp[-S3,-S4,aA,aF]
 generalize bX (wM b m)=w at *;generalize hA:((2+m.tk.length:Nat):Int)=A at *;refine aO ?_;unfold iA;refine(aG (ρ':=[some (.lst (dZ b)),some w,none,none,none,none]) (s_iff (cE (aI rfl rfl ni)) rfl)).trans ?_;refine(aG (ρ':=[some (.lst (dZ b)),some w,some (.int A),none,none,none]) (bO (aI rfl rfl ix) rfl)).trans ?_;refine(aG (ρ':=[some (.lst (dZ b)),some w,some (.int A),none,none,none]) (s_iff (u6 (c:=false) (cE (aI (aH (aB rfl rfl) el) (aI rfl rfl rfl) (by show some (D.bl (decide _))=_;rw[decide_eq_false n1]))) (A8 rfl (cE (aI (aI rfl (aI rfl rfl rfl) q3) rfl ne)))) rfl)).trans ?_;refine(aG (ρ':=[some (.lst (dZ b)),some w,some (.int A),some (tupI m.tk),none,none]) (bO (aH (aB (bE (dS (lK rfl (gP rfl) (gP rfl) c1)) (by rw[S5,S5];lia) k1) rfl) tu) rfl)).trans ?_;refine(aG (ρ':=[some (.lst (dZ b)),some w,some (.int A),some (tupI m.tk),some (.int m.gv),none]) (bO (aH (aB rfl (aB (aI rfl (aI rfl rfl rfl) q1) rfl)) W) rfl)).trans ?_;refine(aG (ρ':=[some (.lst (dZ b)),some w,some (.int A),some (tupI m.tk),some (.int m.gv),some (.lst (m.ts.map dB))]) (bO (bE (dS (lK rfl (gP (aI rfl rfl rfl)) rfl Y)) (by rw[S5,S5];have:=g.tl;lia) k2) rfl)).trans ?_;exact c6 (wW (aB (aI rfl rfl g1) (aB rfl (aB rfl (aB rfl (aB (aH (aB (aI rfl (aI rfl rfl rfl) q2) rfl) vp) rfl))))))
abbrev c8(ws:List Str):Str:=UW ⟨#[32]⟩ ws
def b0(b:Rb):List (List Str):=[[("wheel" : Str),bV b.M]]++(b4 b.c b.m b.n).map (λk=>[("kind" : Str),k])++b.rs.map (wR b)++b.ms.map (wM b)
def dX(b:Rb):Str:=UW ⟨#[10]⟩ ((b0 b).map c8)
theorem Red.rg{b:Rb}(h:Red b){r:Ro}(q:r∈b.rs):Rg b r:=by
 obtain⟨⟨M,G,J⟩,B,F⟩:=h.ok.ro r q;have a:=h.ab r q;have m:=h.ok.hM;have p:r.p<10^60:=Int.lt_of_le_of_lt F (by decide);exact⟨by lia,by lia,by lia,by lia,B,p⟩
theorem Red.mg{b:Rb}(h:Red b){m:Mk}(q:m∈b.ms):Mg b m:=by
 have o:=h.ok.mo m q;have F:=h.ok.hM;have p:m.p<10^60:=Int.lt_of_le_of_lt o.pr.2 (by decide);refine⟨o.nm,o.tk,o.tb,o.gv,o.tl,λt B=>?_,o.pr.1,p⟩;have a:=o.tt t B;have c:=h.tc m q t B;refine⟨?_,a.2,by lia⟩;rw[a.1];rcases o.tk with⟨t,e⟩|⟨t,u,e⟩ <;> rw[e] <;> simp[-S3,-S4,aA,aF]
theorem rL{b:Rb}(h:Red b):(∀ws∈b0 b,ws≠[]/\ws.length<=20/\∀w∈ws,Wd w)/\(b0 b).length<=35:=by
 have F:=h.ok.hM;refine⟨λws hw=>?_,?_⟩
 ·unfold b0 at hw
  simp only[List.mem_append,List.mem_singleton,List.mem_map]at hw;rcases hw with((rfl|⟨k,q,rfl⟩)|⟨r,G,rfl⟩)|⟨m,B,rfl⟩
  ·refine⟨by simp[-S3,-S4,aA,aF],by simp[-S3,-S4,aA,aF],λw hw=>?_⟩
   simp only[T9,UA,or_false]at hw;rcases hw with rfl|rfl
   ·exact⟨by decide,by decide,by decide⟩
   ·exact u3 (by lia) F.2.1
  ·refine⟨by simp[-S3,-S4,aA,aF],by simp[-S3,-S4,aA,aF],λw hw=>?_⟩
   simp only[T9,UA,or_false]at hw;rcases hw with rfl|rfl
   ·exact⟨by decide,by decide,by decide⟩
   ·unfold b4 at q
    obtain⟨i,_,rfl⟩:=List.mem_map.mp q;exact gY (iG ..).1
  ·exact⟨by unfold wR;simp[-S3,-S4,aA,aF],by unfold wR;simp[-S3,-S4,aA,aF],xS (h.rg G)⟩
  ·have:=lW (h.mg B)
   exact⟨by unfold wM;simp[-S3,-S4,aA,aF],by lia,this.1⟩
 ·have:=h.ok.hn
  have:=h.ok.rl;have:=h.ok.ml;unfold b0;simp only[T8,S5,UO,WH,bY]
  lia
theorem eT{ws:List Str}(h:ws.length<=20/\∀w∈ws,Wd w):gO (.str " ") (bX ws)=some (.str (c8 ws))/\(c8 ws).length<=1620/\10∉(c8 ws).cps.toList:=by
 have a:=nR (c:=32) (B:=80) (l:=ws) λw hw=>(h.2 w hw).l
 exact⟨wH (c:=32) (B:=80) (λw hw=>(h.2 w hw).l) (by lia),by show(UW _ ws).length<=_;lia,lT (by decide) λw hw=>(h.2 w hw).nl⟩
theorem c5{q:Type}{f:Ev}{τ:cC}{enc y:q->D}:∀(l:List q) (o:Option D),(∀x∈l,f (some (enc x)::τ)=some (y x))->aV (aL 0) fL f (l.map enc) (o::τ)=some (l.map y)
 | [],_,_=>rfl
 | x::l,o,h=>cI (ρ':=some (enc x)::τ) rfl rfl (h x (TK ..)) (c5 l _ λz hz=>h z (TR _ hz))
theorem p9{b:Rb}(h:Red b):gO (.str "\n") (.lst (((b0 b).map c8).map .str))=some (.str (dX b)):=by
 obtain⟨a,l⟩:=rL h;exact wH (c:=10) (B:=1620) (λw hw=>by obtain⟨ws,hs,rfl⟩:=List.mem_map.mp hw;exact(eT (a ws hs).2).2.1) (by rw[S5];lia)
theorem BN{b:Rb}(h:Red b):i5 [.lst ((b0 b).map bX)]=some (.str (dX b)):=by
 obtain⟨a,l⟩:=rL h;have q:=c5 (f:=aT gO (eC (.str " ")) (aC 0)) (τ:=[]) (enc:=bX) (y:=λws=>.str (c8 ws)) (b0 b) none λws hs=>aI rfl rfl (eT (a ws hs).2).1
 have e:(b0 b).map (λws=>D.str (c8 ws))=((b0 b).map c8).map .str:=by rw[T7];rfl
 rw[e]at q;refine aO ?_;unfold i8;exact c6 (aI rfl (bE (dS rfl) (by rw[S5];lia) q) (p9 h))
theorem oJ{b:Rb}{j:Int}(h0:0<=j)(h:j<(b.n:Int)):aN (.tup (dZ b)) (.int j)=some (.str (kw b j)):=N0 h0 h
theorem rK{F:List D->Option D}(q:∀t,Tg t->F [tupI t.1,.int t.2]=some (.str (oQ t))):∀(l:List My.Tm) (o1 o2:Option D),(∀t∈l,Tg t)->aV (jP 2 (b8 (aL 0) (b8 (aL 1) qL))) fL (aP F (aE (aC 0) (aE (aC 1) a6))) (l.map dB) [o1,o2]=some ((l.map oQ).map .str)
 | [],_,_,_=>rfl
 | t::l,o1,o2,h=>cI (ρ':=[some (tupI t.1),some (.int t.2)]) rfl rfl (aH (aB rfl (aB rfl rfl)) (q t (h t (TK ..)))) (rK q l _ _ λx B=>h x (TR _ B))
theorem yM{b:Rb}(l:List Int)(o:Option D)(h:∀t∈l,0<=t/\t<(b.n:Int)):aV (aL 0) fL (aT aN (aC 1) (aC 0)) (l.map .int) [o,some (.tup (dZ b))]=some ((l.map (kw b)).map .str):=by
 have:=c5 (f:=aT aN (aC 1) (aC 0)) (τ:=[some (.tup (dZ b))]) (enc:=D.int) (y:=λt=>.str (kw b t)) l o λt q=>aI rfl rfl (oJ (h t q).1 (h t q).2)
 rw[this,T7];rfl
theorem tH{b:Rb}{r:Ro}(g:Rg b r):gC [.tup (dZ b),dY r]=some (.str (c8 (wR b r))):=by
 have F:=oJ g.j.1 g.j.2;have M:=oJ g.k.1 g.k.2;have B:aN (dY r) (.int 0)=some (.int r.j):=rfl;have G:aN (dY r) (.int 1)=some (.int r.k):=rfl;have J:iW (dY r) (some 2) none=some (.tup ([r.a,r.b,r.p].map .int)):=rfl;have N:=j7 (τ:=[]) [r.a,r.b,r.p] none λn q=>by
  simp only[T9,UA,or_false]at q;rcases q with rfl|rfl|rfl
  ·exact g.a
  ·exact g.b
  ·exact g.p
 have U:aY (.lst [.str "road",.str (kw b r.j),.str (kw b r.k)]) (.lst (([r.a,r.b,r.p].map bV).map .str))=some (bX (wR b r)):=rfl;refine aO ?_;unfold kP;exact c6 (aI rfl (aI (eL (aB rfl (aB (aI rfl (aI rfl rfl B) F) (aB (aI rfl (aI rfl rfl G) M) rfl)))) (bE (cA (lK rfl (gP rfl) rfl J)) (by simp[-S3,-S4,aA,aF]) N) U) (eT ⟨by unfold wR;simp[-S3,-S4,aA,aF],xS g⟩).1)
theorem DK{b:Rb}{m:Mk}:(wM b m).map D.str=(([D.str "make",.str m.nm]++(m.tk.map (kw b)).map .str)++[.str ">",.str (kw b m.gv),.str (bV m.p),.str ":"])++(m.ts.map oQ).map .str:=by
 unfold wM;rw[U3,U3,U3];rfl
theorem sX{b:Rb}{m:Mk}(g:Mg b m):gE [.tup (dZ b),BD m]=some (.str (c8 (wM b m))):=by
 have tl:=sG g;have ad:=g.tl;have k1:=yM (b:=b) m.tk none g.tb;have k2:=rK (λt N=>sZ N) m.ts none none g.tt;have kg:=oJ g.gv.1 g.gv.2;have M:aN (BD m) (.int 1)=some (.tup (m.tk.map .int)):=rfl;have B:aN (BD m) (.int 3)=some (.tup (m.ts.map dB)):=rfl;have G:aN (BD m) (.int 0)=some (.str m.nm):=rfl;have Y:aN (BD m) (.int 2)=some (.int m.gv):=rfl;have W:aN (BD m) (.int 4)=some (.int m.p):=rfl;have U:=eK (u:=[D.str "make",.str m.nm]) (v:=(m.tk.map (kw b)).map .str) (by simp[-S3,-S4,aA,aF];lia);have F:=eK (u:=[D.str "make",.str m.nm]++(m.tk.map (kw b)).map .str) (v:=[.str ">",.str (kw b m.gv),.str (bV m.p),.str ":"]) (by simp[-S3,-S4,aA,aF];lia);have q:=eK (u:=([D.str "make",.str m.nm]++(m.tk.map (kw b)).map .str)++[.str ">",.str (kw b m.gv),.str (bV m.p),.str ":"]) (v:=(m.ts.map oQ).map .str) (by simp[-S3,-S4,aA,aF];lia);rw[<- DK]at q;have J:=(eT (ws:=wM b m) ⟨by have:=(lW g).2;lia,(lW g).1⟩).1;have vs:=jR g.p.1 g.p.2;refine aO ?_;unfold k8;refine(aG (ρ':=[some (.tup (dZ b)),some (BD m),some (.lst ((m.tk.map (kw b)).map .str)),none]) (bO (bE (cA (aI rfl rfl M)) (by rw[S5];lia) k1) rfl)).trans ?_;refine(aG (ρ':=[some (.tup (dZ b)),some (BD m),some (.lst ((m.tk.map (kw b)).map .str)),some (.lst ((m.ts.map oQ).map .str))]) (bO (bE (cA (aI rfl rfl B)) (by rw[S5];lia) k2) rfl)).trans ?_;exact c6 (aI rfl (aI (aI (aI (eL (aB rfl (aB (aI rfl rfl G) rfl))) rfl U) (eL (aB rfl (aB (aI rfl (aI rfl rfl Y) kg) (aB (aH (aB (aI rfl rfl W) rfl) vs) (aB rfl rfl))))) F) rfl q) J)
theorem wX{k:Nat}{f:Ev}{ρ ρ':cC}{u v:List D}(h:aC k ρ=some (.lst u))(e:f ρ=some (.lst v))(z:u.length+v.length<=1000000)(r:ρ.set k (some (.lst (u++v)))=ρ'):MW k f ρ=some (.nx ρ'):=by
 unfold MW;rw[h,aA];dsimp only;rw[e,aA];dsimp only;rw[if_pos (show bA (u.length+v.length)=true from decide_eq_true z),r]
theorem kM{b:Rb}(h:Red b):f7 [vD b]=some (.str (dX b)):=by
 have B:=h.ok.hM;have hn:=h.ok.hn;have rl:=h.ok.rl;have ml:=h.ok.ml;have Y:aN (vD b) (.int 0)=some (.int b.M):=rfl;have q:aN (vD b) (.int 1)=some (.tup (dZ b)):=rfl;have W:aN (vD b) (.int 2)=some (.tup (b.rs.map dY)):=rfl;have i3:aN (vD b) (.int 3)=some (.tup (b.ms.map BD)):=rfl;have vs:=jR (n:=b.M) (by lia) B.2.1;have nl:=iU (n:=b.M) (by lia) B.2.1;have w0:aY (.str "wheel ") (.str (bV b.M))=some (.str (c8 [("wheel" : Str),bV b.M])):=s_add (by show 6+_<=_;lia);have c1:aV (aL 0) fL (aT aY (eC (.str "kind ")) (aC 0)) (dZ b) [none]=some (((b4 b.c b.m b.n).map λk=>.str (c8 [("kind" : Str),k]))):=c5 (f:=aT aY (eC (.str "kind ")) (aC 0)) (τ:=[]) (enc:=D.str) (y:=λk=>.str (c8 [("kind" : Str),k])) _ none λk F=>by
  unfold b4 at F;obtain⟨i,_,rfl⟩:=List.mem_map.mp F;have:=(iG b.c b.m i).2;exact aI rfl rfl (s_add (by show 5+_<=_;lia))
 have J:=c5 (f:=aP gC (aE (aT aN (aC 1) (eC (.int 1))) (aE (aC 0) a6))) (τ:=[some (vD b)]) (enc:=dY) (y:=λr=>.str (c8 (wR b r))) b.rs none λr G=>aH (aB (aI rfl rfl q) (aB rfl rfl)) (tH (h.rg G))
 have U:=c5 (f:=aP gE (aE (aT aN (aC 1) (eC (.int 1))) (aE (aC 0) a6))) (τ:=[some (vD b)]) (enc:=BD) (y:=λm=>.str (c8 (wM b m))) b.ms none λm N=>aH (aB (aI rfl rfl q) (aB rfl rfl)) (sX (h.mg N))
 have e:((b0 b).map c8).map D.str=(([.str (c8 [("wheel" : Str),bV b.M])]++(b4 b.c b.m b.n).map λk=>.str (c8 [("kind" : Str),k]))++b.rs.map λr=>.str (c8 (wR b r)))++b.ms.map λm=>.str (c8 (wM b m)):=by
  unfold b0;simp only[U3,T7];rfl
 have tj:=p9 h;rw[e]at tj;have kl:(dZ b).length=b.n:=by rw[S5,bY]
 refine aO ?_;unfold kW;generalize vD b=V at *;refine(aG (ρ':=[some V,some (.lst [.str (c8 [("wheel" : Str),bV b.M])])]) (bO (eL (aB (aI rfl (aH (aB (aI rfl rfl Y) rfl) vs) w0) rfl)) rfl)).trans ?_;refine(aG (wX rfl (bE (cA (aI rfl rfl q)) (by lia) c1) (by simp_all[bY];lia) rfl)).trans ?_;refine(aG (wX rfl (bE (cA (aI rfl rfl W)) (by rw[S5];lia) J) (by simp_all[bY];lia) rfl)).trans ?_;refine(aG (wX rfl (bE (cA (aI rfl rfl i3)) (by rw[S5];lia) U) (by simp_all[bY];lia) rfl)).trans ?_;exact c6 (aI rfl rfl tj)
theorem Q6{u v:List D}(z:u.length+v.length<=1000000):dCat (.lst u) (.lst v)=some (.lst (u++v)):=if_pos (decide_eq_true z)
theorem vF{b:Rb}(h:Red b):mL [vD b]=some (.lst ((b0 b).map bX)):=by
 have hM:=h.ok.hM;have hn:=h.ok.hn;have rl:=h.ok.rl;have ml:=h.ok.ml;have i0:aN (vD b) (.int 0)=some (.int b.M):=rfl;have i1:aN (vD b) (.int 1)=some (.tup (dZ b)):=rfl;have i2:aN (vD b) (.int 2)=some (.tup (b.rs.map dY)):=rfl;have i3:aN (vD b) (.int 3)=some (.tup (b.ms.map BD)):=rfl;have vs:=jR (n:=b.M) (by lia) hM.2.1;have kl:(dZ b).length=b.n:=by rw[S5,bY]
 have c1:aV (aL 0) fL (sR (aE (eC (.str "kind")) (aE (aC 0) a6))) (dZ b) [none]=some ((b4 b.c b.m b.n).map λk=>bX [("kind" : Str),k]):=c5 (f:=sR (aE (eC (.str "kind")) (aE (aC 0) a6))) (τ:=[]) (enc:=D.str) (y:=λk=>bX [("kind" : Str),k]) _ none λk _=>rfl
 have d1:=Q6 (u:=[bX [("wheel" : Str),bV b.M]]) (v:=(b4 b.c b.m b.n).map λk=>bX [("kind" : Str),k]) (by simp_all[bY];lia);generalize hP:[bX [("wheel" : Str),bV b.M]]++((b4 b.c b.m b.n).map λk=>bX [("kind" : Str),k])=P at d1;have pl:P.length<=7:=by rw[<- hP];simp_all[bY];lia
 refine aO ?_;unfold mE;generalize hV:vD b=V at *;refine(aG (ρ':=[some V,some (.tup (dZ b)),none,none,none,none,none,none,none,none,none,none,none]) (bO (aI rfl rfl i1) rfl)).trans ?_;refine(aG (ρ':=[some V,some (.tup (dZ b)),some (.lst P),none,none,none,none,none,none,none,none,none,none]) (bO (aI (eL (aB (eL (aB rfl (aB (aH (aB (aI rfl rfl i0) rfl) vs) rfl))) rfl)) (bE (cA rfl) (by lia) c1) d1) rfl)).trans ?_;refine dE (items:=b.rs.map dY) (cA (aI rfl rfl i2)) (λi ρ=>∃(F G B q N:Option D),ρ=[some V,some (.tup (dZ b)),some (.lst (P++(b.rs.take i).map λr=>bX (wR b r))),F,G,B,q,N,none,none,none,none,none]) ⟨none,none,none,none,none,by rw[List.take_zero,W4,V6]⟩ ?_ ?_
 ·rintro i y ρ hy ⟨F,G,B,q,N,rfl⟩
  rw[TX]at hy;obtain⟨r,hr,rfl⟩:=map_some hy;have ad:=(List.getElem?_eq_some_iff.mp hr).1;have g:=h.rg (UU hr);have kj:=oJ g.j.1 g.j.2;have kk:=oJ g.k.1 g.k.2;refine⟨[some V,some (.tup (dZ b)),some (.lst (P++(b.rs.take (i+1)).map λr=>bX (wR b r))),some (.int r.j),some (.int r.k),some (.int r.a),some (.int r.b),some (.int r.p),none,none,none,none,none],?_,_,_,_,_,_,rfl⟩;have e:(P++(b.rs.take (i+1)).map λr=>bX (wR b r))=(P++(b.rs.take i).map λr=>bX (wR b r))++[bX (wR b r)]:=by
   rw[WN,hr,U3,ZV];rfl
  rw[e];refine EN (ρ':=[some V,some (.tup (dZ b)),some (.lst (P++(b.rs.take i).map λr=>bX (wR b r))),some (.int r.j),some (.int r.k),some (.int r.a),some (.int r.b),some (.int r.p),none,none,none,none,none]) rfl ?_;exact wY rfl (eL (aB rfl (aB (aI rfl rfl kj) (aB (aI rfl rfl kk) (aB (aH (aB rfl rfl) (jR g.a.1 g.a.2)) (aB (aH (aB rfl rfl) (jR g.b.1 g.b.2)) (aB (aH (aB rfl rfl) (jR g.p.1 g.p.2)) rfl))))))) (by simp[-S3,-S4,aA,aF];lia)
 ·rintro ρ ⟨F,G,B,q,N,rfl⟩
  rw[S5,WY];generalize hQ:P++(b.rs.map λr=>bX (wR b r))=Q;have ql:Q.length<=19:=by rw[<- hQ];simp[-S3,-S4,aA,aF];lia
  refine dE (items:=b.ms.map BD) (cA (aI rfl rfl i3)) (λi ρ=>∃(F G B q N o8 o9 U Y J:Option D),ρ=[some V,some (.tup (dZ b)),some (.lst (Q++(b.ms.take i).map λm=>bX (wM b m))),F,G,B,q,N,o8,o9,U,Y,J]) ⟨F,G,B,q,N,none,none,none,none,none,by rw[List.take_zero,W4,V6]⟩ ?_ ?_
  ·rintro i y ρ hy ⟨F,G,B,q,N,o8,o9,U,Y,J,rfl⟩
   rw[TX]at hy;obtain⟨m,hm,rfl⟩:=map_some hy;have ad:=(List.getElem?_eq_some_iff.mp hm).1;have g:=h.mg (UU hm);have tl:=sG g;have as:=g.tl;have k1:=yM (b:=b) m.tk none g.tb;have k2:=rK (λt ht=>sW ht) m.ts none none g.tt;have kg:=oJ g.gv.1 g.gv.2;have vp:=jR g.p.1 g.p.2;have a1:=eK (u:=[D.str "make",.str m.nm]) (v:=(m.tk.map (kw b)).map .str) (by simp[-S3,-S4,aA,aF];lia);have a2:=eK (u:=[D.str "make",.str m.nm]++(m.tk.map (kw b)).map .str) (v:=[.str ">",.str (kw b m.gv),.str (bV m.p),.str ":"]) (by simp[-S3,-S4,aA,aF];lia);have a3:=eK (u:=([D.str "make",.str m.nm]++(m.tk.map (kw b)).map .str)++[.str ">",.str (kw b m.gv),.str (bV m.p),.str ":"]) (v:=(m.ts.map oQ).map .str) (by simp[-S3,-S4,aA,aF];lia);rw[<- DK]at a3;generalize hW:([D.str "make",.str m.nm]++(m.tk.map (kw b)).map .str)++[.str ">",.str (kw b m.gv),.str (bV m.p),.str ":"]=W at a2 a3;refine⟨[some V,some (.tup (dZ b)),some (.lst (Q++(b.ms.take (i+1)).map λm=>bX (wM b m))),F,G,B,q,some (.int m.p),some (.str m.nm),some (tupI m.tk),some (.int m.gv),some (.tup (m.ts.map dB)),some (.lst W)],?_,_,_,_,_,_,_,_,_,_,_,rfl⟩;have e:(Q++(b.ms.take (i+1)).map λm=>bX (wM b m))=(Q++(b.ms.take i).map λm=>bX (wM b m))++[bX (wM b m)]:=by
    rw[WN,hm,U3,ZV];rfl
   rw[e];refine EN (ρ':=[some V,some (.tup (dZ b)),some (.lst (Q++(b.ms.take i).map λm=>bX (wM b m))),F,G,B,q,some (.int m.p),some (.str m.nm),some (tupI m.tk),some (.int m.gv),some (.tup (m.ts.map dB)),J]) rfl ?_;refine(aG (ρ':=[some V,some (.tup (dZ b)),some (.lst (Q++(b.ms.take i).map λm=>bX (wM b m))),F,G,B,q,some (.int m.p),some (.str m.nm),some (tupI m.tk),some (.int m.gv),some (.tup (m.ts.map dB)),some (.lst W)]) (bO (aI (aI (eL (aB rfl (aB rfl rfl))) (bE (cA rfl) (by rw[S5];lia) k1) a1) (eL (aB rfl (aB (aI rfl rfl kg) (aB (aH (aB rfl rfl) vp) (aB rfl rfl))))) a2) rfl)).trans ?_;exact wY rfl (aI rfl (bE (cA rfl) (by rw[S5];lia) k2) a3) (by simp[-S3,-S4,aA,aF];lia)
  ·rintro ρ ⟨F,G,B,q,N,o8,o9,U,Y,J,rfl⟩
   rw[S5,WY];refine c6 ?_;show some (D.lst _)=_;congr 2;rw[<- hQ,<- hP];unfold b0;simp only[U3,T7];rfl
theorem b7{c:Bv}{f:Ev}{τ:cC}{B y:List D}(F:∀o,aV (aL 0) c f B (o::τ)=some y):∀ {A x:List D} (o:Option D),aV (aL 0) c f A (o::τ)=some x->aV (aL 0) c f (A++B) (o::τ)=some (x++y)
 | [],x,o,h=>by cases h;exact F o
 | a::A,x,o,h=>by
  have e:aL 0 a (o::τ)=some (some a::τ):=rfl;rw[aV,e,aA]at h;rw[ZW,aV,e,aA];cases hc:c (some a::τ)with
  | none=>rw[hc]at h;cases h
  | some p=>
   rw[hc,aA]at h;rw[aA];cases p with
   | true=>
    rw[if_pos rfl]at h ⊢;obtain⟨z,hz,h⟩:=bind_some h;obtain⟨zs,q,h⟩:=bind_some h;cases h;rw[hz,aA,b7 F _ q,aA];rfl
   | false=>
    rw[if_neg (by decide)]at h ⊢;exact b7 F _ h
theorem bZ{c:Bv}{f:Ev}{τ:cC}:∀(A:List D) (o:Option D),(∀x∈A,c (some x::τ)=some false)->aV (aL 0) c f A (o::τ)=some []
 | [],_,_=>rfl
 | a::A,o,h=>by
  have e:aL 0 a (o::τ)=some (some a::τ):=rfl;rw[aV,e,aA,h a (TK ..),aA,if_neg (by decide)];exact bZ A _ λx q=>h x (TR _ q)
theorem gR{q:Type}{c:Bv}{f:Ev}{τ:cC}{enc y:q->D}:∀(l:List q) (o:Option D),(∀x∈l,c (some (enc x)::τ)=some true/\f (some (enc x)::τ)=some (y x))->aV (aL 0) c f (l.map enc) (o::τ)=some (l.map y)
 | [],_,_=>rfl
 | x::l,o,h=>cI (ρ':=some (enc x)::τ) rfl (h x (TK ..)).1 (h x (TK ..)).2 (gR l _ λz hz=>h z (TR _ hz))
theorem oN{s t:Str}{ws:List Str}{τ:cC}:eN (aT jW (aT aN (aC 0) (eC (.int 0))) (eC (.str t))) (some (bX (s::ws))::τ)=some (decide (s=t)):=by
 have q:aN (bX (s::ws)) (.int 0)=some (.str s):=by
  show kH _ ((0:Nat):Int)=_;exact fE rfl
 exact cE (aI (aI rfl rfl q) rfl (by simp[-S3,-S4,aA,aF]))
theorem l9{b:Rb}(h:Red b):fT [.str (dX b)]=some (vD b):=by
 obtain⟨N,rl⟩:=rL h;have hM:=h.ok.hM;have hn:=h.ok.hn;have sp:gJ (.str (dX b)) (.str "\n")=some (.lst (((b0 b).map c8).map .str)):=lZ (c:=10) (B:=1620) (λw hw=>by obtain⟨ws,hs,rfl⟩:=List.mem_map.mp hw;exact(eT (N ws hs).2).2.1) (by rw[S5];lia) (by unfold b0;simp[-S3,-S4,aA,aF]) (λw hw=>by obtain⟨ws,hs,rfl⟩:=List.mem_map.mp hw;exact(eT (N ws hs).2).2.2);have c0:=c5 (f:=aT gJ (aC 0) (eC (.str " "))) (τ:=[]) (enc:=λws=>D.str (c8 ws)) (y:=bX) (b0 b) none λws hs=>by
  obtain⟨ne,ak,hw⟩:=N ws hs;exact aI rfl rfl (lZ (c:=32) (B:=80) (λw z=>(hw w z).l) (by lia) ne λw z=>(hw w z).sp)
 have e0:(b0 b).map (λws=>D.str (c8 ws))=((b0 b).map c8).map .str:=by rw[T7];rfl
 rw[e0]at c0;have eR:(b0 b).map bX=(([bX [("wheel" : Str),bV b.M]]++(b4 b.c b.m b.n).map λk=>bX [("kind" : Str),k])++b.rs.map λr=>bX (wR b r))++b.ms.map λm=>bX (wM b m):=by
  unfold b0;simp only[U3,T7];rfl
 have G:((b0 b).map bX).length<=1000000:=by rw[S5];lia
 have W:aN (.lst ((b0 b).map bX)) (.int 0)=some (bX [("wheel" : Str),bV b.M]):=by
  show kH _ ((0:Nat):Int)=_;exact fE (by rw[eR];rfl)
 rw[eR]at c0 G W;have J:∀(t:Str),("wheel" : Str)≠t->∀ {τ:cC},∀x∈[bX [("wheel" : Str),bV b.M]],eN (aT jW (aT aN (aC 0) (eC (.int 0))) (eC (.str t))) (some x::τ)=some false:=λt ne τ x q=>by
  rw[List.mem_singleton.mp q,oN,decide_eq_false ne]
 have kk:∀(t:Str),("kind" : Str)≠t->∀ {τ:cC},∀x∈(b4 b.c b.m b.n).map λk=>bX [("kind" : Str),k],eN (aT jW (aT aN (aC 0) (eC (.int 0))) (eC (.str t))) (some x::τ)=some false:=λt ne τ x q=>by
  obtain⟨k,_,rfl⟩:=List.mem_map.mp q;rw[oN,decide_eq_false ne]
 have kr:∀(t:Str),("road" : Str)≠t->∀ {τ:cC},∀x∈b.rs.map λr=>bX (wR b r),eN (aT jW (aT aN (aC 0) (eC (.int 0))) (eC (.str t))) (some x::τ)=some false:=λt ne τ x q=>by
  obtain⟨r,_,rfl⟩:=List.mem_map.mp q;unfold wR;rw[oN,decide_eq_false ne]
 have F:∀m,∃ws,wM b m=("make" : Str)::ws:=λm=>⟨_,by unfold wM;simp[-S3,-S4,aA,aF];rfl⟩
 have km:∀(t:Str),("make" : Str)≠t->∀ {τ:cC},∀x∈b.ms.map λm=>bX (wM b m),eN (aT jW (aT aN (aC 0) (eC (.int 0))) (eC (.str t))) (some x::τ)=some false:=λt ne τ x q=>by
  obtain⟨m,_,rfl⟩:=List.mem_map.mp q;obtain⟨ws,e⟩:=F m;rw[e,oN,decide_eq_false ne]
 have vk:∀k:Str,eJ [bX [("kind" : Str),k]]=some (.str k):=λk=>aO (by
  unfold hU;exact(aG (ρ':=[some (bX [("kind" : Str),k])]) (s_iff (cE (aI (aH (aB rfl rfl) (show dW [bX [("kind" : Str),k]]=some (.int 2)from rfl)) rfl (by simp[-S3,-S4,aA,aF]))) rfl)).trans (c6 (aI rfl rfl rfl)))
 have c1:∀o,aV (aL 0) (eN (aT jW (aT aN (aC 0) (eC (.int 0))) (eC (.str "kind")))) (aP eJ (aE (aC 0) a6)) ((([bX [("wheel" : Str),bV b.M]]++(b4 b.c b.m b.n).map λk=>bX [("kind" : Str),k])++b.rs.map λr=>bX (wR b r))++b.ms.map λm=>bX (wM b m)) [o]=some (((([]++(b4 b.c b.m b.n).map .str)++[])++[])):=λo=>
  b7 (λo=>bZ _ o (km _ (by decide))) o (b7 (λo=>bZ _ o (kr _ (by decide))) o (b7 (λo=>gR (enc:=λk=>bX [("kind" : Str),k]) (y:=D.str) _ o λk _=>⟨by rw[oN];rfl,aH (aB rfl rfl) (vk k)⟩) o (bZ _ o (J _ (by decide)))))
 rw[WO,V6,V6]at c1;have Y:∀o,aV (aL 0) (eN (aT jW (aT aN (aC 0) (eC (.int 0))) (eC (.str "road")))) (aP eI (aE (aC 1) (aE (aC 0) a6))) ((([bX [("wheel" : Str),bV b.M]]++(b4 b.c b.m b.n).map λk=>bX [("kind" : Str),k])++b.rs.map λr=>bX (wR b r))++b.ms.map λm=>bX (wM b m)) [o,some (.lst (dZ b))]=some ((([]++[])++b.rs.map dY)++[]):=λo=>
  b7 (λo=>bZ _ o (km _ (by decide))) o (b7 (λo=>gR (enc:=λr=>bX (wR b r)) (y:=dY) _ o λr hr=>⟨by unfold wR;rw[oN];rfl,aH (aB rfl (aB rfl rfl)) (vK hn.2 (h.rg hr))⟩) o (b7 (λo=>bZ _ o (kk _ (by decide))) o (bZ _ o (J _ (by decide)))))
 rw[WO,WO,V6]at Y;have U:∀o,aV (aL 0) (eN (aT jW (aT aN (aC 0) (eC (.int 0))) (eC (.str "make")))) (aP eG (aE (aC 1) (aE (aC 0) a6))) ((([bX [("wheel" : Str),bV b.M]]++(b4 b.c b.m b.n).map λk=>bX [("kind" : Str),k])++b.rs.map λr=>bX (wR b r))++b.ms.map λm=>bX (wM b m)) [o,some (.lst (dZ b))]=some ((([]++[])++[])++b.ms.map eE):=λo=>
  b7 (λo=>gR (enc:=λm=>bX (wM b m)) (y:=eE) _ o λm hm=>⟨by obtain⟨ws,e⟩:=F m;rw[e,oN];rfl,aH (aB rfl (aB rfl rfl)) (vG hn.2 (h.mg hm))⟩) o (b7 (λo=>bZ _ o (kr _ (by decide))) o (b7 (λo=>bZ _ o (kk _ (by decide))) o (bZ _ o (J _ (by decide)))))
 rw[WO,WO,WO]at U;have vw:fZ [bX [("wheel" : Str),bV b.M]]=some (.int b.M):=aO (by
  have vn:=dN (n:=b.M) (by lia) hM.2.1;unfold f6;exact(aG (ρ':=[some (bX [("wheel" : Str),bV b.M])]) (s_iff (u6 (c:=false) (cE (aI (aH (aB rfl rfl) (show dW [bX [("wheel" : Str),bV b.M]]=some (.int 2)from rfl)) rfl (by simp[-S3,-S4,aA,aF]))) (A8 rfl (cE (aI (aI rfl rfl rfl) rfl (by simp[-S3,-S4,aA,aF]))))) rfl)).trans (c6 (aH (aB (aI rfl rfl rfl) rfl) vn)))
 have vb:=KC h.ok;rw[h.bk]at vb;have z0:(((b0 b).map c8).map D.str).length<=1000000:=by rw[S5,S5];lia
 generalize hL:(([bX [("wheel" : Str),bV b.M]]++(b4 b.c b.m b.n).map λk=>bX [("kind" : Str),k])++b.rs.map λr=>bX (wR b r))++(b.ms.map λm=>bX (wM b m))=L at *;refine aO ?_;unfold fX;rw[show aD 7 [.str (dX b)]=[some (.str (dX b)),none,none,none,none,none,none]from rfl];refine(aG (ρ':=[some (.str (dX b)),some (.lst L),none,none,none,none,none]) (bO (bE (dS (aI rfl rfl sp)) z0 c0) rfl)).trans ?_;refine(aG (ρ':=[some (.str (dX b)),some (.lst L),some (.int b.M),none,none,none,none]) (bO (aH (aB (aI rfl rfl W) rfl) vw) rfl)).trans ?_;refine(aG (ρ':=[some (.str (dX b)),some (.lst L),some (.int b.M),some (.lst (dZ b)),none,none,none]) (bO (bE (dS rfl) G (c1 none)) rfl)).trans ?_;refine(aG (ρ':=[some (.str (dX b)),some (.lst L),some (.int b.M),some (.lst (dZ b)),some (.lst (b.rs.map dY)),none,none]) (bO (bE (dS rfl) G (Y none)) rfl)).trans ?_;refine(aG (ρ':=[some (.str (dX b)),some (.lst L),some (.int b.M),some (.lst (dZ b)),some (.lst (b.rs.map dY)),some (.lst (b.ms.map eE)),none]) (bO (bE (dS rfl) G (U none)) rfl)).trans ?_;exact c6 (aH (aB rfl (aB rfl (aB rfl (aB rfl rfl)))) vb)
theorem tG{b:Rb}(h:Red b):kQ [.str (dX b)]=some (vD b):=by
 have a:=l9 h;have c:=kM h;refine aO ?_;unfold kY;refine(aG (ρ':=[some (.str (dX b)),some (vD b)]) (bO (aH (aB rfl rfl) a) rfl)).trans ?_;exact(aG (ρ':=[some (.str (dX b)),some (vD b)]) (s_iff (cE (aI (aH (aB rfl rfl) c) rfl (by simp[-S3,-S4,aA,aF]))) rfl)).trans (c6 rfl)
theorem wA{b:Rb}(h:Red b):mK [.str (dX b)]=some (vD b):=by
 refine aO ?_;unfold mC;refine(aG (ρ':=[some (.str (dX b)),some .non]) (bO rfl rfl)).trans ?_;exact(aG (ρ':=[some (.str (dX b)),some (vD b)]) (bO (aH (aB rfl rfl) (tG h)) rfl)).trans (c6 rfl)
theorem OM(ns:List Int)(B:ns.length<=63):bG 4 ES [.lst (ns.map .int)]=some (.bl true):=by
 obtain⟨b,M,ok⟩:=NW ns B;have G:=NL ok;have h:=GN ok;rw[JH]at G;have J:=F9 (by decide) (LG (EB ok));rw[h.bk]at J;generalize JQ b=q at *;have a:=vF h;have c:=BN h;have d:=kM h;have f:=wA h;refine aO ?_;unfold ES;refine(aG (ρ':=[some (.lst (ns.map .int)),some (vD q),none,none]) (bO (aH (aB (aH (aB rfl (aB rfl rfl)) M) rfl) G) rfl)).trans ?_;refine(aG (ρ':=[some (.lst (ns.map .int)),some (vD q),some (.str (dX q)),none]) (bO (aH (aB (aH (aB rfl rfl) a) rfl) c) rfl)).trans ?_;refine(aG (ρ':=[some (.lst (ns.map .int)),some (vD q),some (.str (dX q)),some (.str (dX q))]) (bO (aH (aB rfl rfl) d) rfl)).trans ?_;have F:jV "str" (.str (dX q))=true:=rfl;simp_all[F,f,J]
theorem QU:Bds top tab:=by
 unfold tab
 repeat (refine Bds.cons ?_ ?_;· (repeat intro _);rfl)
 exact Bds.nil
theorem KO{l:zai}{w:World}{K:S2}{h:Heap}{mg:Str->Option Value}{fa:Addr}{k:Nat}(X:K.In h)(G:h.Ns UC mg)(al:mg "law" = some (.ref fa))(D:Des K top tab)(B:Nos K blt)(J:Gis K R0)
  {f0:Addr} {am ai:Option Addr} {aj:Array (Option Value)} {ak ag ah af ad ae:Value} (a0:WC K UC "law" = some (some (.ref f0))) (l0:K.lookup f0=some ⟨ak,am,.func (VE "law" "law" (cY s_law) (bP s_law) (aK s_law) .none ag ah af ai ad ae),aj⟩) (c0:W3 K ad "law" = true) (k0:WG K (.ref f0)=true)
  {F:Addr} {ac:Option Addr} {ab:Nat} {aa:Array (Option Value)} {M U N Y:Tok} (gaWORDS:WC K UC "WORDS" = some (some (.ref F))) (glWORDS:K.lookup F=some ⟨.type "tuple",ac,.seq #[.str "let" M,.str "in" U,.str "pick" N,.str "again" Y] ab,aa⟩)
  {q:Tok} (gsFIGURES:WC K UC "FIGURES" = some (some (.str "0123456789" q)))
  (ok:∀base:Heap,K.In base->base.Ns UC mg->Txt K mg->My.BodyOk l.prog w K mg base "law" s_law ["script", "volume", "due", "found"] k (My.u4 K)) :
  ∃fd:U0,(∀(s:SZ) (v:Value),BindsTo s fd ⟨[v],[]⟩ [("script",v)])/\∀base:Heap,K.In base->base.Ns UC mg->FnOk l.prog w K mg base xC (k+1) fa fd ["script"] (My.u4 K):=by
 have e:=al.symm.trans (YF X G a0);cases e;have F0:=D6 (st:=s_law) l0 c0 k0;have T:Txt K mg:=⟨Des.d X G D QU,λx hx=>PySem.W.mg_none_of X G (B x hx),Gis.d X G J,⟨⟨_,YF X G gaWORDS,_,_,_,glWORDS,rfl,rfl,by show 4<=S7;decide,.cons ⟨_,rfl⟩ (.cons ⟨_,rfl⟩ (.cons ⟨_,rfl⟩ (.cons ⟨_,rfl⟩ (.nil))))⟩⟩,⟨⟨_,YF X G gsFIGURES⟩⟩⟩;refine⟨VE "law" "law" (cY s_law) (bP s_law) (aK s_law) .none ag ah af ai ad ae,λs v=>.of_eq rfl,λbase kb nb=>?_⟩;exact(ok base kb nb T).fn F0 sc_law (λvs H Q E h=>by obtain⟨a,ns,e,_⟩:=h;rw[e];rfl)
end Law
namespace PySem.W.Fast
theorem tw387321759786324165:0=0:=rfl
theorem tw4972084807741569353:0=0:=rfl
theorem tw12785015687110846024:0=0:=rfl
theorem tw17598048487506653192:0=0:=rfl
theorem tw5456200364972025207:0=0:=rfl
theorem tw4543786327793382201:0=0:=rfl
theorem tw2168362363413892592:0=0:=rfl
theorem tw17253630052780118789:0=0:=rfl
theorem tw449841450676432622:0=0:=rfl
theorem tw7021116882100407676:0=0:=rfl
theorem tw7644322908700054948:0=0:=rfl
theorem tw18248985538597016414:0=0:=rfl
theorem tw15094051193078777076:0=0:=rfl
theorem tw17981561542235105195:0=0:=rfl
theorem tw12908602381942566592:0=0:=rfl
theorem tw1089367255102815750:0=0:=rfl
theorem tw13406010487915182652:0=0:=rfl
theorem tw17459352628213997206:0=0:=rfl
theorem tw12785127652148813375:0=0:=rfl
theorem tw10941024964465943422:0=0:=rfl
theorem tw3837557359785758411:0=0:=rfl
theorem tw578315502275855511:0=0:=rfl
theorem tw12917534979337596549:0=0:=rfl
theorem tw12516462469330883771:0=0:=rfl
theorem tw357219356539935446:0=0:=rfl
theorem tw8952415383446326281:0=0:=rfl
theorem tw18423252943965120786:0=0:=rfl
theorem tw912895346128300090:0=0:=rfl
theorem tw18251700935008854554:0=0:=rfl
theorem tw18344076329355133777:0=0:=rfl
theorem tw11330635086596642492:0=0:=rfl
theorem tw10381286894267246820:0=0:=rfl
theorem tw3711977914425041102:0=0:=rfl
theorem tw6138111462997168772:0=0:=rfl
theorem tw9794412545294044002:0=0:=rfl
theorem tw2613452090779456025:0=0:=rfl
theorem tw2212237274875681209:0=0:=rfl
theorem tw17561930442722731918:0=0:=rfl
theorem tw11465921911646516854:0=0:=rfl
theorem tw15864491889154135032:0=0:=rfl
theorem tw15870509356843056178:0=0:=rfl
theorem tw14920613829464294963:0=0:=rfl
theorem tw8160754107846045036:0=0:=rfl
theorem tw2212972783859538290:0=0:=rfl
theorem tw15145480041119634058:0=0:=rfl
theorem tw18155627909670391830:0=0:=rfl
theorem tw2447705213663470604:0=0:=rfl
theorem tw1074460645717602461:0=0:=rfl
theorem tw10020159234452178975:0=0:=rfl
theorem tw8816141741502845986:0=0:=rfl
theorem tw2770484090687605526:0=0:=rfl
theorem tw7627554326585347170:0=0:=rfl
theorem tw11091701155251722429:0=0:=rfl
theorem tw4648139234377857327:0=0:=rfl
theorem tw16793148186929238598:0=0:=rfl
theorem tw5572309346912628207:0=0:=rfl
theorem tw16002033085984082431:0=0:=rfl
theorem tw5043258708849406082:0=0:=rfl
theorem tw10535980050948433119:0=0:=rfl
theorem tw4959492861848027709:0=0:=rfl
theorem tw14279061288643734067:0=0:=rfl
theorem tw10330051920485377580:0=0:=rfl
theorem tw738790043770630874:0=0:=rfl
theorem tw3924257966473384916:0=0:=rfl
theorem tw1496747768705652557:0=0:=rfl
theorem tw17636287064419727719:0=0:=rfl
theorem tw5022529816400521004:0=0:=rfl
theorem tw13731258905555462970:0=0:=rfl
theorem tw9585058449173937165:0=0:=rfl
theorem tw196974878212962406:0=0:=rfl
theorem tw8150346859383279209:0=0:=rfl
theorem tw1889717137620213331:0=0:=rfl
theorem tw10843856797182277431:0=0:=rfl
theorem tw157258858636513218:0=0:=rfl
theorem tw1421415469932429002:0=0:=rfl
theorem tw7581780726997478152:0=0:=rfl
theorem tw298577482083814942:0=0:=rfl
theorem tw7868618118627012269:0=0:=rfl
theorem tw2762683257833854857:0=0:=rfl
theorem tw12066586995380531667:0=0:=rfl
theorem tw2465891618477475688:0=0:=rfl
theorem tw15158079930678607142:0=0:=rfl
theorem tw13283180380853049571:0=0:=rfl
theorem tw7319371884202541689:0=0:=rfl
theorem tw15116674748438275076:0=0:=rfl
theorem tw15183875147887976141:0=0:=rfl
theorem tw17339468239845103167:0=0:=rfl
theorem tw9498792049222515066:0=0:=rfl
theorem tw7475438330379842512:0=0:=rfl
theorem tw18225426321460583827:0=0:=rfl
theorem tw17402898283979787937:0=0:=rfl
theorem tw4600774608471006452:0=0:=rfl
theorem tw18320259930223845427:0=0:=rfl
theorem tw7786345059050194109:0=0:=rfl
theorem tw3855496497219947121:0=0:=rfl
theorem tw6233477550050213733:0=0:=rfl
theorem tw18143062756608736166:0=0:=rfl
theorem tw7629701783212471664:0=0:=rfl
theorem tw14585848651353347220:0=0:=rfl
theorem tw7706088955464307087:0=0:=rfl
theorem tw15225994870973970407:0=0:=rfl
theorem tw12520864473367766138:0=0:=rfl
theorem tw13781920510342559640:0=0:=rfl
theorem tw14974391920374456887:0=0:=rfl
theorem tw12405428775090904554:0=0:=rfl
theorem tw2951803501988935759:0=0:=rfl
theorem tw2414216697922270638:0=0:=rfl
theorem tw6853040529253072277:0=0:=rfl
theorem tw4820234491248842293:0=0:=rfl
theorem tw6949833651023457348:0=0:=rfl
theorem tw14036926373111180902:0=0:=rfl
theorem tw10995089262132885563:0=0:=rfl
theorem tw5799308953362400799:0=0:=rfl
theorem tw8515867458732902975:0=0:=rfl
theorem tw12167092475533191335:0=0:=rfl
theorem tw15444010415047698654:0=0:=rfl
theorem tw2904025958879828076:0=0:=rfl
theorem tw1126844772541208174:0=0:=rfl
theorem tw12139501009424227321:0=0:=rfl
theorem tw12509774008152983359:0=0:=rfl
theorem tw18180170967879491833:0=0:=rfl
theorem tw16677181603041648298:0=0:=rfl
theorem tw14885761211776686050:0=0:=rfl
theorem tw17517677455744143182:0=0:=rfl
theorem tw17568909310241157455:0=0:=rfl
theorem tw9961373362100029744:0=0:=rfl
theorem tw14962894740506898367:0=0:=rfl
theorem tw17493944701996678967:0=0:=rfl
theorem tw8921420580120541323:0=0:=rfl
theorem tw3106400784427975081:0=0:=rfl
theorem tw3205772711379924271:0=0:=rfl
theorem tw13574784889341279581:0=0:=rfl
theorem tw3861992331945219782:0=0:=rfl
theorem tw13335620641433155420:0=0:=rfl
theorem tw16335961540943957497:0=0:=rfl
theorem tw10363019175584018614:0=0:=rfl
theorem tw3324735480013780775:0=0:=rfl
theorem tw15468176491127242137:0=0:=rfl
theorem tw3597586234622207213:0=0:=rfl
theorem tw7608609866506942273:0=0:=rfl
theorem tw3298966507346706474:0=0:=rfl
theorem tw4569278172600015894:0=0:=rfl
theorem tw4856482806488430764:0=0:=rfl
theorem tw11019745394155428065:0=0:=rfl
theorem tw1971897354750223770:0=0:=rfl
theorem tw14678692005335800526:0=0:=rfl
theorem tw12464808429224081223:0=0:=rfl
theorem tw9464731144457666777:0=0:=rfl
theorem tw17626264875646973566:0=0:=rfl
theorem tw4372654384396720165:0=0:=rfl
theorem tw17542551433133212895:0=0:=rfl
theorem tw11322297056562184581:0=0:=rfl
theorem tw16521824584495407014:0=0:=rfl
theorem tw1993473480003697951:0=0:=rfl
theorem tw5177167093107583988:0=0:=rfl
theorem tw16877359531420590669:0=0:=rfl
theorem tw34317718317759024:0=0:=rfl
theorem tw11263883141820328381:0=0:=rfl
theorem tw10197918980369539665:0=0:=rfl
theorem tw6142223031943172053:0=0:=rfl
theorem tw7413385150782838351:0=0:=rfl
theorem tw5897612335689517428:0=0:=rfl
theorem tw280701100263059776:0=0:=rfl
theorem tw15704787514016969364:0=0:=rfl
theorem tw13163760438323409875:0=0:=rfl
theorem tw3061181472870236176:0=0:=rfl
theorem tw11457298375109041749:0=0:=rfl
theorem tw10965674190890354941:0=0:=rfl
theorem tw7356712005543390832:0=0:=rfl
theorem tw5538595544608485699:0=0:=rfl
theorem tw331799136827236606:0=0:=rfl
end PySem.W.Fast
open PySem PySem.W PyProof.Rows
set_option maxRecDepth 100000 in
set_option maxHeartbeats 0 in
theorem PySem.Challenge.cw_chiefway_k81_a_books_text_holds : PySem.Challenge.rw_chiefway_k81_a_books_text.Holds := by
 w_on;o_law;k_head;(case hw=>w_witness2)
 k_fill
 refine My.walk (l:=PySem.Challenge.rw_chiefway_k81_a_books_text) (k:=13) (by decide) rfl rfl (λw h Y=>PySem.W.kIn_of Y) ?F
 case F=>
  intro w mg U h KX G N;refine' Law.KO (k:=12) KX G N ?D ?B ?J ?a0 ?l0 ?c0 ?k0 ?gaWORDS ?glWORDS ?gsFIGURES ?ok
  (case D=>unfold Law.tab;(repeat (apply P.Des.cons;(case a=>k_is);(case l=>k_is);(case c=>k_is);(case k=>k_is)));exact P.Des.nil)
  (case B=>unfold Law.blt;(repeat (apply P.Nos.cons;(case a=>k_is)));exact P.Nos.nil)
  (case J=>unfold Law.R0;(repeat (apply P.Gis.cons;(case a=>k_is)));exact P.Gis.nil)
  (case a0=>k_is)
  (case l0=>k_is)
  (case c0=>k_is)
  (case k0=>k_is)
  (case gaWORDS=>k_is)
  (case glWORDS=>k_is)
  (case gsFIGURES=>k_is)
  (case ok=>exact λbase kb nb T=>P.LI (f:=Law.ES) (O':=[]) rfl (λU M A q s H E hr=>Law.IX.2 T U M A q s H E hr) Law.OM)
