import PyProof.Rows.All
import Wide.All
import OpenK.AllK
import Wide.FinOn
import Lean
import PyProof.EqAt
import PyProof.EqKinds
import PyProof.TupleCall
import KE.KEqDict
import PySem.Challenge.RW_chiefway_k13_books_refused
set_option autoImplicit true
set_option relaxedAutoImplicit true
set_option Elab.async false
set_option linter.all false
set_option maxRecDepth 100000
open PySem renaming wpAny_bind → XD, Shared → XE, starEach → XI, wpAny_pure → XJ, Program → XM, sizeLine → XQ, Around → XS, compareOp → XY, backTo → X0, wpAny_mono → X3, bootBuiltins → YC, rawInt → YD, wpAny_field → YI, mainGlobals → YK, swapsWith → YL, Paired → YQ, binaryOp → YT, wpAny_holding → Y1, pyNext → Y2, assignEach → ZA, wpAny_newObj_type → ZD, sysModules → ZI, FuncData → ZK, Builtin → ZL, wpAny_call_entry → ZM, assign → ZO, codeAny → ZQ, wpAny_truthy_bool → ZT, relabel → Z2, DictEntry → Z6, wpAny_setField → Z9, wpAny_setField_rec → zaa, IsEnum → zab, tupleKind → zad, foldedSetIterable → zaf, Result → zag, NameKind → zah, IsPart → zaj, getItem → zak, wpAny_callSpecial?_slot → zal, sliceBounds → zan, typeOf → zao, behindInMarks → zau, codeAny_mono → zav, Keyword → zax, wpAny_loadPart' → zaz, wpAny_execs_cons → zaF, wpAny_standAt → zaG, sizeLine_eq → zaH, setField → zaJ, codeAny_builtin → zaK, plainId_quiet → zaL, wpAny_Call_Name_kw → zaR, leaving → zaS, valueAt → zaU, callerA → zaW, noteFrame → zaX, setFlight → za1, wpAny_Name → za4, lastMarks → za6, wpAny_call → za8, cellsFrom → za9, attributeBase → zbe, wpAny_dictEntries → zbk, wpAny_dictEpoch → zbl, wpAny_attempt → zbm, firstArgMember → zbn, wpAny_letGo → zbo, wpAny_updateSeq → zbq, wpAny_execs_nil → zby, wpAny_pyIter_tuple → zbz, wpAny_passesOwn → zbA, mem_of_lookup → zbC, typeIs_int → zbF, call_meets → zbH, wpAny_throw → zbM, updateSeq → zbP, swapsWithSole → zb7, swappedStores → zb8, letOwnedTupleGo → zb9, IsRangeIter → zca, wpAny_typeOf → zci, subscripted → zcl, keywordEach → zcm, tupleKind_room_in1 → zcp, wpAny_typeNameOfWhole_keyiter → zcu, wpAny_typeNameOf_keyiter → zcv, wpAny_fieldsOf → zcw, wpAny_of_eq → zcx, wpAny_handled → zcy, wpAny_typeNameOfWhole_itemiter → zcB, wpAny_typeNameOf_itemiter → zcC, wpAny_newTuple → zcD, wpAny_newList → zcF, wpAny_seqItems → zcI, wpAny_tryCatch → zcK, ExcAttrBase → zcL, wpAny_Assign_Name → zcW, wpAny_pyIter_list → zcX, noFill_tuple_add → zc2, wpAny_isInstance → zdh, wpAny_isOneOf_itemiter → zdi, wpAny_Try_except → zdl
open PySem.W renaming Frag → XF, subIn → YG, kia_one → ZP, kitOne → ZU, fnOf → Z0, nsIn → zar, keepIn → zaw, hideAll → zaQ, mg_of → za2, findIn → za7, codeIn → zba, callWith_K → zbB, kitAny → zbV, of_hideAll → zb3, kitx_dict → zcc, excIn → zcM, clsIn → zcN, instObj → zcQ, methodObj → zcR, hideAll_get → zcT, OpenLaw → zda
open Option renaming bind_some → XG, map_some → XH
open PySem.Value renaming ref → XN, none → X4, bool → YV, type → zac, builtin → zbT
open PySem.Heap renaming lt_size → XO, get?_push_of_some → XT, get?_push_size → X9, SameBut → YN, get?_update_other → Y5, get?_update_self → ZS, HeldW → ZW, FlyingW → Z3, ExtBut → zbL, size_push → zbN, MadeExcOf → zbU, get?_none_of_le → zb5
open List renaming length_map → XR, map_cons → XW, size_toArray → XX, mem_cons_self → X8, getElem?_map → YB, replicate → YE, mem_cons_of_mem → YH, mem_of_getElem? → YO, length_append → Y3, length_cons → Y4, getElem?_eq_getElem → Y6, mem_cons → Y7, not_mem_nil → Y8, range → Y9, find?_cons → ZC, map_map → ZH, getElem?_set_ne → ZX, mem_append_right → ZY, append_nil → ZZ, any_cons → Z1, mem_append_left → Z4, getD → Z8, length_take → zai, length → zay, replicate_succ → zaA, take_add_one → zaD, map_take → zaO, flatten_cons → zaT, filter_cons → zaV, lookup_cons → za0, take_length → za3, length_nil → zbb, length_set → zbc, all_cons → zbd, all_eq_true → zbg, map_append → zbr, getElem_inj → zbx, length_drop → zbE, foldl_cons → zbG, ext_getElem → zbI, toArray → zbJ, getElem_mem → zbQ, getElem?_range → zbR, drop_eq_getElem_cons → zbS, contains_iff_mem → zbW, set_cons_succ → zbX, set_cons_zero → zbY, filter_append → zbZ, map_drop → zb0, mem_of_mem_take → zb1, mem_of_mem_drop → zb2, getElem?_set_self → zb6, getElem?_append_right → zce, getElem?_append_left → zcf, map_nil → zck, length_singleton → zco, forall_mem_cons → zcP, filterMap_cons → zcU, of_mem_zip → zcY, getElem?_replicate → zcZ, zip_nil_left → zc0, zip_cons_cons → zc1, drop_length → zdk
open Nat renaming le_refl → XU, ne_of_lt → YA, ne_of_gt → YS, zero_le → YY, lt_of_lt_of_le → YZ, le_trans → Y0, lt_irrefl → ZN, lt_trans → zbf, zero_add → zbt, min_eq_left → zbw, le_of_lt → zb4, le_of_eq → zcq, lt_of_le_of_lt → zcr, le_of_ble_eq_true → zdm
open Bool renaming false_ne_true → XZ, and_eq_true → YU, not_eq_true → ZV, false_eq_true → zaB, eq_iff_iff → za5, eq_false_iff → zdb, beq_eq_decide_eq → zdc, or_eq_true → zde
open Int renaming emod_nonneg → X2, emod_lt_of_pos → X6, toNat_natCast → ZF, reducePow → zas, ediv_nonneg → zdd
open Ne renaming symm → X5
open Sum renaming inl → X7, inr → zaP
open False renaming elim → YF
open Option.some renaming inj → YJ
open PyProof.Rows renaming seqObj → YM, envOfC → YW, IntsAre → YX, kindOf → ZR, AllBare → zae, callWith_type1 → zcb, slot_tuple_getitem → zch
open Or renaming inl → YR, inr → Z7
open PySem.Obj renaming mapSeq → ZE, mapFields → ZG, data_mapFields → zap, isFreed_of_fields → zaY, cls_mapFields → zdg
open Array renaming length_toList → ZJ, getD → zbj, getElem?_toList → zbs, append_assoc → zcS, getElem?_eq_getElem → zdf, getElem?_setIfInBounds_ne → zdy
open True renaming intro → Z5
open PySem.Str renaming ofString → zam
open Classical renaming byContradiction → zaq, propDecidable → zaM
open PySem.Builtin.Range renaming rangeSize → zat, small → zbh
open PySem.NameKind renaming free → zaC
open PySem.Paired renaming length → zaE
open PySem.Calls renaming spliced_cons → zaI, spliced_nil → zcd, evalArgs_plain → zcn, Constant_str → zcV, callWith_builtin → zc7
open PySem.PassesOwn renaming leaving → zaN
open PySem.Heap.SameBut renaming update → zaZ
open ForInStep renaming yield → zbi
open PySem.Around renaming under_plainId → zbp
open ToString renaming toString → zbu
open PySem.F renaming plain_max_loop → zbv, plain_extend_loop → zbO, slot_dict_keyiterator_next → zct, slot_dict_itemiterator_next → zcA, slot_tuple_iterator_next → zcH, slot_enumerate_next → zcJ, plainAttrs_list → zcO, slot_tuple_add → zc3, entry_tuple_add → zc4, args_tuple_add_2 → zc5, slot_dict_get → zc9, entry_dict_keyiterator_next → zdn, args_dict_keyiterator_next_1 → zdo, entry_dict_itemiterator_next → zdp, args_dict_itemiterator_next_1 → zdq, slot_dict_items_iter → zdr, entry_tuple_iterator_next → zdt, args_tuple_iterator_next_1 → zdu, attrBase_ValueError → zdz
open PySem.SeqAt renaming EqAt → zbD
open PySem.Builtin.Dict_items renaming ownsTuple → zbK, pairFromOwner → zcz, ownedTupleIsFree → zcE, ownedTupleFields → zds
open PySem.Builtin.Slice renaming slicePlaces → zcg, sliceAdjust → zc6
open PySem.Builtin.Tuple renaming tupleExact → zcj
open PySem.Builtin.Dict renaming showsAll → zcs
open PySem.Builtin.SmallTypes renaming nextOf → zcG, ownedTupleIsFree → zdv, ownedTupleHandOut → zdw
open PySem.Builtin.List renaming listTooLong → zc8, listExtendWith → zdj
open PySem.Builtin.Builtins renaming bindParams → zdx
noncomputable section
namespace L2
open PySem PySem.Spec PyProof.Rows
abbrev Key:=Sum Int Str
def uK:Key->Value->Bool
 | .inl k,v=>Value.isInt k v
 | .inr x,v=>Value.isStrOf x v
def U1(w:World):Key->Int
 | .inl k=>hashInt k
 | .inr x=>hashStr w x
theorem b5:∀ {k:Key} {v:Value},uK k v=true->(∃i t,k=X7 i/\v=Value.int i t)\/(∃x t,k=zaP x/\v=Value.str x t)
 | .inl i,v,h=>by
  obtain⟨t,e⟩:=Value.isInt_shape (k:=i) (v:=v) h;exact .inl ⟨i,t,rfl,e⟩
 | .inr x,v,h=>by
  obtain⟨t,e⟩:=Value.isStrOf_shape (x:=x) (v:=v) h;exact .inr ⟨x,t,rfl,e⟩
theorem CF(i:Int)(t:Tok):uK (.inl i) (.int i t)=true:=by simp[uK,Value.isInt]
theorem CZ(x:Str)(t:Tok):uK (.inr x) (.str x t)=true:=by simp[uK,Value.isStrOf]
theorem NQ(a b:Int):decide ((X7 a:Key)=X7 b)=(a == b):=by
 by_cases e:a=b
 ·subst e;simp
 ·have h:¬ (X7 a:Key)=X7 b:=λq=>e (Sum.inl.inj q)
  rw[decide_eq_false h];exact(beq_eq_false_iff_ne.mpr e).symm
theorem PZ(a b:Str):decide ((zaP a:Key)=zaP b)=decide (a=b):=by
 by_cases e:a=b
 ·subst e;simp
 ·have h:¬ (zaP a:Key)=zaP b:=λq=>e (Sum.inr.inj q)
  rw[decide_eq_false h,decide_eq_false e]
theorem QW(a:Int)(b:Str):decide ((X7 a:Key)=zaP b)=false:=decide_eq_false (λq=>nomatch q)
theorem N4(a:Str)(b:Int):decide ((zaP a:Key)=X7 b)=false:=decide_eq_false (λq=>nomatch q)
def bR(prog:XM)(w:World):PySem.KeyKind prog w Key where
 is:=uK
 hash:=U1 w
 inj:=λv a b G F=>by
  rcases b5 G with⟨i,t,rfl,rfl⟩|⟨x,t,rfl,rfl⟩
  ·rcases b5 F with⟨j,u,rfl,e⟩|⟨y,u,rfl,e⟩
   ·injection e with e1 _;rw[e1]
   ·exact nomatch e
  ·rcases b5 F with⟨j,u,rfl,e⟩|⟨y,u,rfl,e⟩
   ·exact nomatch e
   ·injection e with e1 _;rw[e1]
 byValue:=λk v h=>by
  rcases b5 h with⟨i,t,rfl,rfl⟩|⟨x,t,rfl,rfl⟩ <;> rfl
 pyHash:=λq h=>by
  rcases b5 q with⟨i,t,rfl,rfl⟩|⟨x,t,rfl,rfl⟩
  ·exact wpAny_pyHash_int h
  ·exact wpAny_pyHash_str h
 eqBool:=λJ q h=>by
  rcases b5 J with⟨i,t,rfl,rfl⟩|⟨x,t,rfl,rfl⟩
  ·rcases b5 q with⟨j,u,rfl,rfl⟩|⟨y,u,rfl,rfl⟩
   ·rw[NQ]at h;exact wpAny_eqBool_int h
   ·rw[QW]at h;exact SeqAt.EqAt.int_str i t y u _ _ _ _ h
  ·rcases b5 q with⟨j,u,rfl,rfl⟩|⟨y,u,rfl,rfl⟩
   ·rw[N4]at h;exact SeqAt.EqAt.str_int x t j u _ _ _ _ h
   ·rw[PZ]at h;exact wpAny_eqBool_str h
 «strs»:=λk x t v h=>by
  rcases b5 h with⟨i,u,rfl,e⟩|⟨y,u,rfl,e⟩
  ·exact nomatch e
  ·injection e with e1 _
   subst e1;cases v <;> rfl
theorem wM(prog:XM)(w:World)(i:Int)(t:Tok):(bR prog w).is (.inl i) (.int i t)=true:=CF i t
theorem wF(prog:XM)(w:World)(x:Str)(t:Tok):(bR prog w).is (.inr x) (.str x t)=true:=CZ x t
inductive V where
 | non|bl (b:Bool)|int (i:Int)|str (x:Str)|byt (b:Array UInt8)|flt (b:UInt64)|ref (a:Addr)|ty (n:String)
 deriving DecidableEq
noncomputable def RelV:V->Value->Prop
 | .non,u=>u=X4
 | .bl b,u=>u=YV b
 | .int i,u=>∃t,u=Value.int i t
 | .str x,u=>∃t,u=Value.str x t
 | .byt b,u=>∃t,u=Value.bytes b t
 | .flt b,u=>∃t,u=Value.float b t
 | .ref a,u=>u=XN a
 | .ty n,u=>u=zac n
abbrev Vals:List V->List Value->Prop:=YQ RelV
theorem Vals.length(r:Vals xs us):xs.length=us.length:=zaE r
theorem Vals.get:∀ {xs:List V} {us:List Value} {i:Nat} {x:V},Vals xs us->xs[i]?=some x->∃u,us[i]?=some u/\RelV x u
 | _,_,_,_,.nil,e=>by simp at e
 | _,_,0,_,.cons r _,e=>by simp at e;subst e;exact⟨_,rfl,r⟩
 | _,_,i+1,x,.cons _ t,e=>by
  obtain⟨u,h1,h2⟩:=Vals.get (i:=i) (x:=x) t (by simpa using e);exact⟨u,by simpa using h1,h2⟩
theorem Vals.set(r:RelV x u):∀ {xs:List V} {us:List Value} (i:Nat),Vals xs us->Vals (xs.set i x) (us.set i u)
 | _,_,_,.nil=>.nil
 | _,_,0,.cons _ t=>.cons r t
 | _,_,i+1,.cons q t=>.cons q (Vals.set r i t)
theorem Vals.append:∀ {xs ys:List V} {us ws:List Value},Vals xs us->Vals ys ws->Vals (xs++ys) (us++ws)
 | _,_,_,_,.nil,s=>s
 | _,_,_,_,.cons r t,s=>.cons r (Vals.append t s)
theorem Vals.take:∀ {xs:List V} {us:List Value} (n:Nat),Vals xs us->Vals (xs.take n) (us.take n)
 | _,_,0,_=>.nil
 | _,_,_+1,.nil=>.nil
 | _,_,n+1,.cons r t=>.cons r (Vals.take n t)
theorem Vals.drop:∀ {xs:List V} {us:List Value} (n:Nat),Vals xs us->Vals (xs.drop n) (us.drop n)
 | _,_,0,r=>r
 | _,_,_+1,.nil=>.nil
 | _,_,n+1,.cons _ t=>Vals.drop n t
def RelO:Option V->Option Value->Prop
 | some v,some u=>RelV v u
 | none,none=>True
 | _,_=>False
def KV{κ:Type}:List (κ×V)->List (κ×Value)->Prop:=YQ λ(p:κ×V) (q:κ×Value)=>p.1=q.1/\RelV p.2 q.2
def kV:Key->V
 | .inl i=>.int i
 | .inr x=>.str x
inductive HO where
 /-- a list -/
 | lst (xs:List V)
 /-- a tuple (never changes) -/
 | tup (xs:List V)
 /-- a dict whose keys are ints and texts;one whose keys are tuples of ints and texts (the empty one is both) -/
 | dK (kvs:List (Key×V))|dT (kvs:List (List Key×V))
 /-- a set of ints: its members, its size -/
 | set (S:Int->Bool) (n:Nat)
 /-- an instance of the class at C, its dict at dx, its attributes -/
 | ins (C dx:Addr) (fs:List (Str×V))
 /-- the dict of the instance at x -/
 | own (x:Addr)
 /-- the dict of an exception -/
 | xd (fs:List (Str×V))
 /-- a bound method, f of x -/
 | met (f x:Addr)
 /-- a range object lo, lo+1, .. below hi -/
 | rng (lo hi:Int)
 /-- a thing that is known to the object (the script;a dict while a loop walks it): read, never written while it is so -/
 | frz (o:Obj) (u:HO)
 /-- a code object's table -/
 | tbl (ps:Array Value)
 /-- any other thing, by what is true of its one object (a def of one's own: SetO a S n:=HO.ext λh => ..) -/
 | ext (φ:Heap->Prop)
abbrev Hp:=Addr->Option HO
def upd(H:Hp)(a:Addr)(o:HO):Hp:=λb=>if b=a then some o else H b
theorem aN:upd H a o a=some o:=by unfold upd;rw[if_pos rfl]
theorem aL(h:b≠a):upd H a o b=H b:=by unfold upd;rw[if_neg h]
theorem R9{H:Hp}{a b:Addr}{o u:HO}(h:H a=some o)(h':H b=some u)(d:o≠u):a≠b:=by
 intro e;subst e;rw[h]at h';exact d (YJ h')
theorem bM{H:Hp}{a b:Addr}{o:HO}(h:H a=some o)(h':H b=none):a≠b:=by
 intro e;subst e;rw[h]at h';cases h'
section
variable (P:XM)(w:World)
def IsTupN(h:Heap)(a:Addr)(items:Array Value):Prop:=∃o,h.get? a=some o/\o.cls=.type "tuple" /\ ∃n,o.data=.seq items n/\o.dict=none
theorem IsTupN.tup{h:Heap}{a:Addr}{items:Array Value}(x:IsTupN h a items):IsTup h a items:=let ⟨o,e,c,n,d,_⟩:=x;⟨o,e,c,n,d⟩
theorem IsTupN.lt(x:IsTupN h a items):a<h.objs.size:=x.tup.lt
theorem IsTupN.new(h:Heap)(items:Array Value):IsTupN (h.push {cls:=.type "tuple",data:=.seq items}) h.objs.size items:=⟨_,X9 _ rfl,rfl,_,rfl,rfl⟩
def ObjOk(H:Hp)(h:Heap)(a:Addr):HO->Prop
 | .lst xs=>xs.length<=XQ/\∃(its:List Value) (n:Nat),Vals xs its/\h.get? a=some {cls:=.type "list",data:=.seq its.toArray n}
 | .tup xs=>xs.length<=XQ/\∃its:List Value,Vals xs its/\IsTupN h a its.toArray
 | .dK kvs=>kvs.length<=XQ/\(a == ZI)=false/\∃vs,KV kvs vs/\h.DictOf (bR P w) a vs
 | .dT kvs=>kvs.length<=XQ/\(a == ZI)=false/\∃xs:List (List Key×Addr×Value),
   YQ (λ(p:List Key×V) (q:List Key×Addr×Value)=>p.1=q.1/\H q.2.1=some (.tup (p.1.map kV))/\RelV p.2 q.2.2) kvs xs /\
   ∃o es ep,h.get? a=some o/\o.ExactDict/\o.data=.dict es ep/\es.toList=xs.map (entryOfKey (zad (bR P w)))/\(xs.map (·.1)).Nodup
 | .set S n=>h.SetOf (intKind P w) a S n
 | .ins C dx fs=>H dx=some (.own a)/\fs.length<=1000/\dx≠a/\h.get? a=some (zcQ C dx) /\
   ∃mA,h.Ns1 dx mA/\(∀f,RelO (fs.lookup f) (mA f))/\PySem.Within mA (fs.map (·.1))
 | .own _=>∃o,h.get? a=some o
 | .xd fs=>∃mA,h.Ns1 a mA/\∀f,RelO (fs.lookup f) (mA f)
 | .rng lo hi=>∃t u v,h.get? a=some {cls:=.type "range",data:=.fields #[.int lo t,.int hi u,.int 1 v]}
 | .frz o u=>h.get? a=some o/\ObjOk H h a u
 | .tbl ps=>h.get? a=some {cls:=.none,data:=.fields ps}
 | .met f x=>h.get? a=some (zcR (.ref f) (.ref x))
 | .ext φ=>φ h/\(∃o,h.get? a=some o)/\∀h1 h2:Heap,φ h1->(∀o,h1.get? a=some o->h2.get? a=some o)->φ h2
def HOk(H:Hp)(h:Heap):Prop:=∀a o,H a=some o->ObjOk P w H h a o
end
section
variable {P:XM}{w:World}{H H':Hp}{h h':Heap}{a:Addr}{o:HO}
theorem ObjOk.lt(x:ObjOk P w H h a o):a<h.objs.size:=by
 cases o with
 | lst xs=>obtain⟨_,_,_,_,e⟩:=x;exact XO e
 | tup xs=>obtain⟨_,_,_,p⟩:=x;exact p.lt
 | dK kvs=>obtain⟨_,_,_,_,o,_,_,e,_⟩:=x;exact XO e
 | dT kvs=>obtain⟨_,_,_,_,o,_,_,e,_⟩:=x;exact XO e
 | set S n=>obtain⟨o,_,_,_,e,_⟩:=x;exact XO e
 | ins C dx fs=>obtain⟨_,_,_,e,_⟩:=x;exact XO e
 | own y=>obtain⟨_,e⟩:=x;exact XO e
 | xd fs=>obtain⟨_,⟨_,_,_,e,_⟩,_⟩:=x;exact XO e
 | rng lo hi=>obtain⟨_,_,_,e⟩:=x;exact XO e
 | frz ob u=>obtain⟨e,_⟩:=x;exact XO e
 | tbl ps=>exact XO (show h.get? a=some _ from x)
 | met f y=>exact XO (show h.get? a=some _ from x)
 | ext φ=>obtain⟨_,⟨_,e⟩,_⟩:=x;exact XO e
theorem Paired.mapP{q J:Type}{F G:q->J->Prop}:∀ {l₁:List q} {l₂:List J},YQ F l₁ l₂->(∀a b,F a b->G a b)->YQ G l₁ l₂
 | _,_,.nil,_=>.nil
 | _,_,.cons r t,f=>.cons (f _ _ r) (Paired.mapP t f)
theorem ObjOk.stay(x:ObjOk P w H h a o)(k:∀b u,(b=a\/H b=some (.own a))->h.get? b=some u->h'.get? b=some u)
  (N:∀b,H b=some (.own a)->H' b=some (.own a)) (J:∀b xs,H b=some (.tup xs)->H' b=some (.tup xs)):ObjOk P w H' h' a o:=by
 induction o with
 | lst xs=>obtain⟨z,F,n,r,e⟩:=x;exact⟨z,F,n,r,k _ _ (.inl rfl) e⟩
 | tup xs=>obtain⟨z,F,r,ob,e,c⟩:=x;exact⟨z,F,r,ob,k _ _ (.inl rfl) e,c⟩
 | dK kvs=>obtain⟨z,y,vs,r,ob,es,ep,e,c⟩:=x;exact⟨z,y,vs,r,ob,es,ep,k _ _ (.inl rfl) e,c⟩
 | dT kvs=>
  obtain⟨z,y,xs,r,ob,es,ep,e,c⟩:=x;exact⟨z,y,xs,Paired.mapP r λp q z=>⟨z.1,J _ _ z.2.1,z.2.2⟩,ob,es,ep,k _ _ (.inl rfl) e,c⟩
 | set S n=>obtain⟨ob,es,ep,t,e,c⟩:=x;exact⟨ob,es,ep,t,k _ _ (.inl rfl) e,c⟩
 | ins C dx fs=>
  obtain⟨d,z,ne,e,mA,⟨od,es,ep,G,c⟩,r⟩:=x;exact⟨N _ d,z,ne,k _ _ (.inl rfl) e,mA,⟨od,es,ep,k _ _ (.inr d) G,c⟩,r⟩
 | own y=>obtain⟨ob,e⟩:=x;exact⟨ob,k _ _ (.inl rfl) e⟩
 | xd fs=>obtain⟨mA,⟨od,es,ep,e,c⟩,r⟩:=x;exact⟨mA,⟨od,es,ep,k _ _ (.inl rfl) e,c⟩,r⟩
 | rng lo hi=>obtain⟨t,u,v,e⟩:=x;exact⟨t,u,v,k _ _ (.inl rfl) e⟩
 | frz ob u ih=>obtain⟨e,q⟩:=x;exact⟨k _ _ (.inl rfl) e,ih q⟩
 | tbl ps=>
  have e:h.get? a=some {cls:=.none,data:=.fields ps}:=x;show h'.get? a=some {cls:=.none,data:=.fields ps};exact k a _ (.inl rfl) e
 | met f y=>
  have e:h.get? a=some (zcR (.ref f) (.ref y)):=x;show h'.get? a=some (zcR (.ref f) (.ref y));exact k a _ (.inl rfl) e
 | ext φ=>obtain⟨p,⟨o,e⟩,st⟩:=x;exact⟨st _ _ p λo q=>k _ _ (.inl rfl) q,⟨o,k _ _ (.inl rfl) e⟩,st⟩
theorem HOk.lt(x:HOk P w H h)(e:H a=some o):a<h.objs.size:=(x a o e).lt
theorem HOk.fresh(x:HOk P w H h)(e:h.objs.size<=a):H a=none:=by
 cases q:H a with
 | none=>rfl
 | some u=>exact absurd (YZ (x.lt q) e) (ZN _)
theorem HOk.kept(x:HOk P w H h)(k:∀b u,h.get? b=some u->h'.get? b=some u):HOk P w H h':=λa o e=>
 (x a o e).stay (λb u _ q=>k b u q) (λ_ q=>q) λ_ _ q=>q
theorem HOk.laid(x:HOk P w H h)(k:∀b u,h.get? b=some u->h'.get? b=some u)(J:h.objs.size<=a)(new:ObjOk P w (upd H a o) h' a o):HOk P w (upd H a o) h':=λb u e=>by
 have F:=x.fresh J;by_cases G:b=a
 ·subst G;rw[aN]at e;cases e;exact new
 ·rw[aL G]at e
  exact(x b u e).stay (λc v _ q=>k c v q) (λc q=>by rw[aL (bM q F)];exact q) λc xs q=>by rw[aL (bM q F)];exact q
end
def Rd(H:Hp)(a:Addr)(u:HO):Prop:=H a=some u\/∃o,H a=some (.frz o u)
theorem Rd.of(h:H a=some u):Rd H a u:=.inl h
theorem Rd.ok(r:Rd H a u)(x:HOk P w H h):ObjOk P w H h a u:=by
 rcases r with r|⟨o,r⟩
 ·exact x a u r
 ·obtain⟨_,q⟩:=x a _ r
  exact q
def UG:Option HO->Prop
 | some (.lst _)=>True
 | some (.dK _)=>True
 | some (.dT _)=>True
 | some (.set _ _)=>True
 | some (.ins _ _ _)=>True
 | some (.ext _)=>True
 | _=>False
section
variable {P:XM}{w:World}{H:Hp}{h h':Heap}{x e:Addr}{o':HO}
theorem HOk.write(ok:HOk P w H h)(N:UG (H x))(he:e=x\/H e=some (.own x))(k:∀b u,b≠e->h.get? b=some u->h'.get? b=some u)(Y:∃u,h'.get? e=some u)
  (new:ObjOk P w (upd H x o') h' x o'):HOk P w (upd H x o') h':=λb u q=>by
 have G:∀c y,H c=some (.own y)->c≠x:=λc y r z=>by subst z;rw[r]at N;exact N
 have J:∀c xs,H c=some (.tup xs)->c≠x:=λc xs r z=>by subst z;rw[r]at N;exact N
 by_cases U:b=x
 ·subst U;rw[aN]at q;cases q;exact new
 ·rw[aL U]at q
  by_cases F:b=e
  ·have q':H b=some (.own x):=by
    rcases he with z|z
    ·exact absurd (F.trans z) U
    ·rw[F];exact z
   rw[q]at q';cases q';obtain⟨v,hv⟩:=Y;exact⟨v,by rw[F];exact hv⟩
  ·refine(ok b u q).stay (λc v W r=>k c v ?_ r) (λc r=>by rw[aL (G c b r)];exact r) λc xs r=>by rw[aL (J c xs r)];exact r
   rcases W with rfl|W
   ·exact F
   ·rintro rfl
    rcases he with z|z
    ·exact G c b W z
    ·rw[W]at z;cases z;exact U rfl
end
structure Un(fs ex:List Addr)(H H':Hp)(h h':Heap):Prop where
 keep:∀b o,h.get? b=some o->H b=none->b∉fs->b∉ex->h'.get? b=some o
 slot:∀b o,h.get? b=some o->H b=none->b∈fs->b∉ex->∃sl,h'.get? b=some {o with slots:=sl}
 free:∀b o,h.get? b=some o->H b=none->b∉ex->H' b=none
 there:∀b o,h.get? b=some o->b∉ex->∃o',h'.get? b=some o'
 tups:∀b xs,H b=some (.tup xs)->H' b=some (.tup xs)
 frzs:∀b o u,H b=some (.frz o u)->H' b=some (.frz o u)
 tbls:∀b ps,H b=some (.tbl ps)->∃more,H' b=some (.tbl (ps++more))
section
variable {fs fs' ex ex':List Addr}{H H1 H2:Hp}{h h1 h2 h':Heap}{a x e:Addr}{o:HO}
theorem Un.any(u:Un fs ex H H1 h h1)(q:h.get? b=some ob)(n:H b=none)(G:b∉ex):∃J,h1.get? b=some {ob with slots:=J}:=by
 by_cases F:b∈fs
 ·exact u.slot b ob q n F G
 ·exact⟨ob.slots,u.keep b ob q n F G⟩
theorem Un.trans(a:Un fs ex H H1 h h1)(b:Un fs ex H1 H2 h1 h2):Un fs ex H H2 h h2 where
 keep:=λc ob q n J F=>b.keep c ob (a.keep c ob q n J F) (a.free c ob q n F) J F
 slot:=λc ob q n J F=>by
  obtain⟨sl,G⟩:=a.slot c ob q n J F;obtain⟨N,U⟩:=b.slot c _ G (a.free c ob q n F) J F;exact⟨N,U⟩
 free:=λc ob q n F=>by
  obtain⟨o',G⟩:=a.there c ob q F;exact b.free c o' G (a.free c ob q n F) F
 there:=λc ob q F=>by
  obtain⟨o',G⟩:=a.there c ob q F;exact b.there c o' G F
 tups:=λc xs q=>b.tups c xs (a.tups c xs q)
 frzs:=λc ob xs q=>b.frzs c ob xs (a.frzs c ob xs q)
 tbls:=λc ps q=>by
  obtain⟨Y,G⟩:=a.tbls c ps q;obtain⟨W,U⟩:=b.tbls c _ G;exact⟨Y++W,by rw[U,zcS]⟩
theorem Un.kept(k:∀b u,h.get? b=some u->h'.get? b=some u):Un fs ex H H h h':=
 ⟨λb ob q _ _ _=>k b ob q,λb ob q _ _ _=>⟨ob.slots,k b ob q⟩,λ_ _ _ n _=>n,λb ob q _=>⟨ob,k b ob q⟩,λ_ _ q=>q,λ_ _ _ q=>q,λ_ ps q=>⟨#[],by rw[q];simp⟩⟩
theorem Un.refl:Un fs ex H H h h:=Un.kept λ_ _ q=>q
theorem Un.laid(k:∀b u,h.get? b=some u->h'.get? b=some u)(G:h.objs.size<=a)(F:H a=none):Un fs ex H (upd H a o) h h' where
 keep:=λb u q _ _ _=>k b u q
 slot:=λb u q _ _ _=>⟨u.slots,k b u q⟩
 free:=λb u q n _=>by rw[aL (YA (YZ (XO q) G))];exact n
 there:=λb u q _=>⟨u,k b u q⟩
 tups:=λb xs q=>by rw[aL (bM q F)];exact q
 frzs:=λb u xs q=>by rw[aL (bM q F)];exact q
 tbls:=λb ps q=>⟨#[],by rw[aL (bM q F),q];simp⟩
theorem Un.write(G:UG (H x))(Y:e=x\/H e=some (.own x))(k:∀b u,b≠e->h.get? b=some u->h'.get? b=some u)(J:∃u,h'.get? e=some u):Un fs ex H (upd H x o) h h':=by
 have W:∀b,H b=none->b≠x:=λb n z=>by subst z;rw[n]at G;exact G
 have U:∀b,H b=none->b≠e:=λb n z=>by
  subst z;rcases Y with r|r
  ·exact W b n r
  ·rw[n]at r;cases r
 have N:∀b u,H b=some u->¬ UG (some u)->b≠x:=λb u q nm z=>by subst z;rw[q]at G;exact nm G
 refine⟨λb u q n _ _=>k b u (U b n) q,λb u q n _ _=>⟨u.slots,k b u (U b n) q⟩,λb u q n _=>by rw[aL (W b n)];exact n,λb u q _=>?_,
  λb xs q=>by rw[aL (N b _ q λz=>z)];exact q,λb u xs q=>by rw[aL (N b _ q λz=>z)];exact q,λb ps q=>⟨#[],by rw[aL (N b _ q λz=>z),q];simp⟩⟩
 by_cases F:b=e
 ·subst F;exact J
 ·exact⟨u,k b u F q⟩
theorem Un.mono(u:Un fs ex H H1 h h1)(hs:∀b∈fs,b∈fs')(G:∀b∈ex,b∈ex'):Un fs' ex' H H1 h h1:=
 ⟨λb ob q n J F=>u.keep b ob q n (λz=>J (hs b z)) λz=>F (G b z),λ_ _ q n _ F=>u.any q n λz=>F (G _ z),λb ob q n F=>u.free b ob q n λz=>F (G b z),λb ob q F=>u.there b ob q λz=>F (G b z),u.tups,u.frzs,u.tbls⟩
end
def UN(h:Heap)(H:Hp):List Addr:=(Y9 h.objs.size).filter λa=>(H a).isSome
def v6(h:Heap)(H:Hp):Heap:=zaQ h (UN h H)
theorem DL(h:Heap)(H:Hp):(v6 h H).objs.size=h.objs.size:=PySem.W.hideAll_size _ _
theorem F3(e:h.get? b=some o)(n:H b=none):(v6 h H).get? b=some o:=
 zcT _ e λF=>by
  have q:(H b).isSome=true:=(List.mem_filter.mp F).2;rw[n]at q;simp at q
theorem K1(e:(v6 h H).get? b=some o):h.get? b=some o/\H b=none:=by
 have F:h.get? b=some o:=zb3 (UN h H) e;refine⟨F,?_⟩;cases q:H b with
 | none=>rfl
 | some x=>
  have G:b∈UN h H:=List.mem_filter.mpr ⟨List.mem_range.mpr (XO F),by simp[q]⟩;have z:(v6 h H).get? b=none:=PySem.W.hideAll_none (UN h H) G;rw[z]at e;cases e
noncomputable def LP(g h:Heap)(L:Addr):List (Addr×Obj):=(Y9 h.objs.size).filterMap λa=>if a=L\/(g.get? a).isSome=true then none else(h.get? a).map λo=>(a,o)
def rest(g h:Heap)(L d:Addr):List (Addr×Obj):=(LP g h L).filter λp=>decide (p.1≠d)
structure Mod(K:XF)(mg:Str->Option Value)(base:Heap):Prop where
 kin:K.In base
 glob:base.Ns YK mg
 blt:∃mb,base.Ns builtinsNs mb/\∀x:Str,x ≠ "__name__" -> mb x=YC x
 nolimit:base.NoLimit
structure Cx where
 prog:XM
 w:World
 K:XF
 mg:Str->Option Value
 base:Heap
 A:XS
 N:List Str
 s₀:XE
 H₀:Hp
 env:Env
 outer:List Env
 stack:List Env
 ex:List Addr
 fn:Str->Bool
 calm:Bool
 pn:List (Addr×Obj)
 xe:Value->XE->Prop
noncomputable def frs(l:List Env):List Addr:=l.filterMap (·.frame)
abbrev Cx.fs(X:Cx):List Addr:=frs X.outer
def EJ(sc:Scope)(x:Str):Prop:=sc.names.lookup x=some .local\/sc.names.lookup x=some .cell\/sc.names.lookup x=some .free
def Loc(sc:Scope)(x:Str):Prop:=sc.names.lookup x=some .local\/sc.names.lookup x=some .cell
def Look(env:Env)(h:Heap)(m:Str->Option Value)(x:Str)(u:Value):Prop:=
 (env.kindOf x=some .local/\m x=some u)\/((env.kindOf x=some .cell\/env.kindOf x=some .free)/\∃c,env.cells.lookup x=some c/\h.IsCell c (some u))
structure Cx.Ok(X:Cx):Prop where
 mod:Mod X.K X.mg X.base
 kind:X.env.scope.kind=.function
 glob:X.env.globals=YK
 blt:X.env.builtins=builtinsNs
 above:X.s₀.heap.objs.size<=X.env.locals
 inj:∀x y c,X.env.cells.lookup x=some c->X.env.cells.lookup y=some c->x=y
 has:∀x,(X.env.kindOf x=some .cell\/X.env.kindOf x=some .free)->∃c,X.env.cells.lookup x=some c
 cab:∀x c,X.fn x=true->X.env.cells.lookup x=some c->X.s₀.heap.objs.size<=c
 hd:X.calm=true->X.A.handled=none
 frames:X.A.frames=some X.stack
 stk:X.stack=X.outer\/(X.stack=X.env::X.outer/\X.env.frame=some X.env.locals)
 exf:∀b∈X.ex,b≠X.env.locals/\∀x c,X.env.cells.lookup x=some c->c≠b
 bs:∀b o,X.base.get? b=some o->X.s₀.heap.get? b=some o/\X.H₀ b=none
 bsz:X.base.objs.size<=X.s₀.heap.objs.size
 noex:∀b o,X.base.get? b=some o->b∉X.ex
 exfs:∀b∈X.ex,b∉X.fs
 funs:X.s₀.heap.FunFrames X.base X.outer
 frf:∀b∈X.fs,X.H₀ b=none
structure Inv(X:Cx)(pins:List (Addr×Obj))(σ:List (Option V))(H:Hp)(s:XE):Prop where
 ok:X.Ok
 os:s.os=X.s₀.os
 bare:zae s.gens
 base:Un X.fs X.ex X.H₀ H X.s₀.heap s.heap
 loc:∃m,s.heap.Ns X.env.locals m/\∀(i:Nat) (x:Str) (v:V),X.N[i]?=some x->σ[i]?=some (some v)->EJ X.env.scope x->∃u,RelV v u/\Look X.env s.heap m x u
 cell:∀x c,X.env.cells.lookup x=some c->∃v,s.heap.IsCell c v
 free:H X.env.locals=none
 freeC:∀x c,X.env.cells.lookup x=some c->H c=none
 pin:∀p∈X.pn++pins,s.heap.get? p.1=some p.2/\H p.1=none/\p.1≠X.env.locals/\p.1∉X.fs/\∀v,p.2.data≠.cell v
 hok:HOk X.prog X.w H s.heap
 len:σ.length=X.N.length
section
variable {X:Cx}{pins:List (Addr×Obj)}{σ:List (Option V)}{H H':Hp}{s:XE}{h':Heap}
theorem Cx.Ok.nofr(ok:X.Ok)(e:X.base.get? b=some o):b∉X.fs:=λq=>by
 have:=(ok.funs.mem q).1;rw[e]at this;cases this
theorem Inv.bs(I:Inv X pins σ H s):∀b o,X.base.get? b=some o->s.heap.get? b=some o/\H b=none:=λb o e=>
 ⟨I.base.keep b o (I.ok.bs b o e).1 (I.ok.bs b o e).2 (I.ok.nofr e) (I.ok.noex b o e),I.base.free b o (I.ok.bs b o e).1 (I.ok.bs b o e).2 (I.ok.noex b o e)⟩
theorem Inv.bk(I:Inv X pins σ H s):∀b o,X.base.get? b=some o->s.heap.get? b=some o:=λb o e=>(I.bs b o e).1
theorem Inv.mod(I:Inv X pins σ H s):Mod X.K X.mg X.base:=I.ok.mod
theorem Inv.kIn(I:Inv X pins σ H s):X.K.In s.heap:=I.ok.mod.kin.keeps I.bk
theorem Inv.lt(I:Inv X pins σ H s):X.env.locals<s.heap.objs.size:=let ⟨_,hn,_⟩:=I.loc;hn.lt
theorem Inv.sz(I:Inv X pins σ H s):X.s₀.heap.objs.size<=s.heap.objs.size:=Y0 I.ok.above (zb4 I.lt)
theorem Inv.nofs(I:Inv X pins σ H s)(h:s.heap.objs.size<=a):a∉X.fs:=λq=>by
 obtain⟨_,o,F,_⟩:=I.ok.funs.mem q;exact absurd (YZ (XO F) (Y0 I.sz h)) (ZN _)
theorem Inv.cne(I:Inv X pins σ H s):∀x c,X.env.cells.lookup x=some c->c≠X.env.locals:=λx c e z=>by
 obtain⟨v,o,J,G⟩:=I.cell x c e;obtain⟨m,⟨o',es,ep,F,q,_⟩,_⟩:=I.loc;rw[z,F]at J;cases J;rw[q]at G;cases G
theorem Inv.funs(I:Inv X pins σ H s):s.heap.FunFrames X.base X.outer:=by
 have all:∀(l:List Env),(∀b∈frs l,b∈X.fs)->X.s₀.heap.FunFrames X.base l->s.heap.FunFrames X.base l:=by
  intro l;induction l with
  | nil=>intro _ _;trivial
  | cons env r ih=>
   intro hs J;obtain⟨Y,⟨L,o,q,hn,W,N⟩,U⟩:=J;have G:L∈X.fs:=hs L (by unfold frs;rw[zcU,q];exact X8);obtain⟨sl,e⟩:=I.base.slot L o W (I.ok.frf L G) G λz=>I.ok.exfs L z G
   exact⟨Y,⟨L,_,q,hn,e,N⟩,ih (λb F=>hs b (by unfold frs;rw[zcU,q];exact YH _ F)) U⟩
 exact all X.outer (λ_ F=>F) I.ok.funs
theorem Inv.stack(I:Inv X pins σ H s):s.heap.FunFrames X.base X.stack:=by
 rcases I.ok.stk with e|⟨e,q⟩
 ·rw[e];exact I.funs
 ·rw[e]
  obtain⟨m,F,_⟩:=I.loc;refine .cons (by rw[I.ok.kind];decide) q F ?_ I.funs;exact zb5 (Y0 I.ok.bsz I.ok.above)
theorem Inv.stkSub(I:Inv X pins σ H s):∀b∈frs X.stack,b∈X.env.locals::X.fs:=λb q=>by
 rcases I.ok.stk with e|⟨e,F⟩
 ·rw[e]at q;exact YH _ q
 ·rw[e]at q
  unfold frs at q;rw[zcU,F]at q;exact q
theorem Inv.stkFree(I:Inv X pins σ H s):∀b∈frs X.stack,H b=none:=λb q=>by
 rcases List.mem_cons.mp (I.stkSub b q)with e|q
 ·rw[e];exact I.free
 ·obtain⟨_,o,F,_⟩:=I.ok.funs.mem q
  exact I.base.free b o F (I.ok.frf b q) λz=>I.ok.exfs b z q
theorem Inv.step{g':Array GenState}{t':Nat}{d':Drawn}{ch:List Addr}(I:Inv X pins σ H s)
  (N:∀b∈ch,(b∈X.ex\/X.s₀.heap.objs.size<=b)/\b≠X.env.locals/\(∀x c,X.env.cells.lookup x=some c->c≠b)/\∀p∈X.pn++pins,p.1≠b)
  (keep:∀b o,b≠X.env.locals->b∉X.fs->b∉ch->s.heap.get? b=some o->H b=none->h'.get? b=some o)
  (Y:∀b o,b≠X.env.locals->b∈X.fs->b∉ch->s.heap.get? b=some o->H b=none->∃sl,h'.get? b=some {o with slots:=sl}) (free:∀b o,b∉ch->s.heap.get? b=some o->H b=none->H' b=none)
  (there:∀b o,b∉ch->s.heap.get? b=some o->∃o',h'.get? b=some o')
  (ae:∀b xs,H b=some (.tup xs)->H' b=some (.tup xs)) (ad:∀b o u,H b=some (.frz o u)->H' b=some (.frz o u)) (ac:∀b ps,H b=some (.tbl ps)->∃more,H' b=some (.tbl (ps++more)))
  (ns:∀m,s.heap.Ns X.env.locals m->h'.Ns X.env.locals m) (hok:HOk X.prog X.w H' h') (hg:zae g') :
  Inv X pins σ H' {s with heap:=h',gens:=g',drawn:=d',toks:=t'}:=by
 have ag:∀b o,X.s₀.heap.get? b=some o->b≠X.env.locals:=λb o e=>YA (YZ (XO e) I.ok.above)
 have W:∀b o,X.s₀.heap.get? b=some o->b∉X.ex->b∉ch:=λb o e F hb=>by
  rcases(N b hb).1 with z|z
  ·exact F z
  ·exact absurd (YZ (XO e) z) (ZN _)
 have G:∀x c,X.env.cells.lookup x=some c->∀v,s.heap.IsCell c v->h'.IsCell c v:=by
  rintro x c e v ⟨o,ho,hd⟩;have J:c∉ch:=λz=>(N c z).2.2.1 x c e rfl
  by_cases hc:c∈X.fs
  ·obtain⟨sl,q⟩:=Y c o (I.cne x c e) hc J ho (I.freeC x c e)
   exact⟨_,q,hd⟩
  ·exact⟨o,keep c o (I.cne x c e) hc J ho (I.freeC x c e),hd⟩
 refine⟨I.ok,I.os,hg,⟨λb o e n hb F=>?_,λb o e n hb F=>?_,λb o e n F=>?_,λb o e F=>?_,λb xs e=>ae b xs (I.base.tups b xs e),λb o xs e=>ad b o xs (I.base.frzs b o xs e),λb ps e=>?_⟩,?_,λx c e=>?_,?_,λx c e=>?_,λp hp=>?_,hok,I.len⟩
 ·exact keep b o (ag b o e) hb (W b o e F) (I.base.keep b o e n hb F) (I.base.free b o e n F)
 ·obtain⟨sl,U⟩:=I.base.slot b o e n hb F
  obtain⟨aj,e2⟩:=Y b _ (ag b o e) hb (W b o e F) U (I.base.free b o e n F);exact⟨aj,e2⟩
 ·obtain⟨o',U⟩:=I.base.there b o e F
  exact free b o' (W b o e F) U (I.base.free b o e n F)
 ·obtain⟨o',U⟩:=I.base.there b o e F
  exact there b o' (W b o e F) U
 ·obtain⟨m1,U⟩:=I.base.tbls b ps e
  obtain⟨m2,e2⟩:=ac b _ U;exact⟨m1++m2,by rw[e2,zcS]⟩
 ·obtain⟨m,hn,hl⟩:=I.loc
  refine⟨m,ns m hn,λi x v U e2 e3=>?_⟩;obtain⟨u,r,l⟩:=hl i x v U e2 e3;refine⟨u,r,?_⟩;rcases l with l|⟨k,c,e,z⟩
  ·exact .inl l
  ·exact .inr ⟨k,c,e,G x c e _ z⟩
 ·obtain⟨v,z⟩:=I.cell x c e
  exact⟨v,G x c e v z⟩
 ·obtain⟨m,⟨o,_,_,ho,_⟩,_⟩:=I.loc
  exact free _ o (λz=>(N _ z).2.1 rfl) ho I.free
 ·obtain⟨v,o,ho,hd⟩:=I.cell x c e
  exact free c o (λz=>(N c z).2.2.1 x c e rfl) ho (I.freeC x c e)
 ·obtain⟨e,n,ne,nf,d⟩:=I.pin p hp
  have J:p.1∉ch:=λz=>(N p.1 z).2.2.2 p hp rfl
  exact⟨keep p.1 p.2 ne nf J e n,free p.1 p.2 J e n,ne,nf,d⟩
theorem Inv.un{t':Nat}(I:Inv X pins σ H s)(u:Un X.fs [] H H' s.heap h')(hok:HOk X.prog X.w H' h'):Inv X pins σ H' {s with heap:=h',toks:=t'}:=by
 obtain⟨m,⟨o,es,ep,N,r⟩,_⟩:=id I.loc;obtain⟨sl,Y⟩:=u.any N I.free (by simp);exact I.step (g':=s.gens) (d':=s.drawn) (ch:=[]) (λ_ z=>nomatch z) (λb o _ G _ e n=>u.keep b o e n G (by simp)) (λb o _ G _ e n=>u.slot b o e n G (by simp)) (λb o _ e n=>u.free b o e n (by simp)) (λb o _ e=>u.there b o e (by simp)) u.tups u.frzs u.tbls (λm' W=>by
  obtain⟨o',F,J,q,U⟩:=W;rw[N]at q;cases q;exact⟨_,F,J,Y,U⟩) hok I.bare
theorem Inv.call{g':Array GenState}{t':Nat}{d':Drawn}{ch:List Addr}(I:Inv X pins σ H s)(u:Un (frs X.stack) ch H H' s.heap h')(hok:HOk X.prog X.w H' h')(hg:zae g')
  (F:∀b∈ch,(b∈X.ex\/X.s₀.heap.objs.size<=b)/\b≠X.env.locals/\(∀x c,X.env.cells.lookup x=some c->c≠b)/\∀p∈X.pn++pins,p.1≠b) :
  Inv X pins σ H' {s with heap:=h',gens:=g',drawn:=d',toks:=t'}:=by
 obtain⟨m,⟨o,es,ep,W,r⟩,_⟩:=id I.loc;obtain⟨sl,N⟩:=u.any W I.free λz=>(F _ z).2.1 rfl
 exact I.step (ch:=ch) F (λb o N hb q e n=>u.keep b o e n (λz=>(List.mem_cons.mp (I.stkSub b z)).elim N hb) q) (λb o _ _ q e n=>u.any e n q) (λb o q e n=>u.free b o e n q) (λb o q e=>u.there b o e q) u.tups u.frzs u.tbls (λm' hm=>by
  obtain⟨o',J,U,G,Y⟩:=hm;rw[W]at G;cases G;exact⟨_,J,U,N,Y⟩) hok hg
theorem Inv.turned{t':Nat}{it:Addr}(I:Inv X pins σ H s)(k:∀b o,b≠it->s.heap.get? b=some o->h'.get? b=some o)(hn:H it=none)(J:it≠X.env.locals)
  (h1:it∈X.ex\/X.s₀.heap.objs.size<=it) (h2:∀x c,X.env.cells.lookup x=some c->c≠it) (N:∀p∈X.pn++pins,p.1≠it):Inv X pins σ H {s with heap:=h',toks:=t'}:=by
 have G:∀b u,H b=some u->b≠it:=λb u e z=>by rw[z,hn]at e;cases e
 refine I.step (g':=s.gens) (d':=s.drawn) (ch:=[it]) (λb U=>?_) (λb o _ _ F e _=>k b o (λz=>F (by simp[z])) e) (λb o _ _ F e _=>⟨o.slots,k b o (λz=>F (by simp[z])) e⟩) (λ_ _ _ _ n=>n)
  (λb o F e=>⟨o,k b o (λz=>F (by simp[z])) e⟩) (λ_ _ e=>e) (λ_ _ _ e=>e) (λb ps e=>⟨#[],by rw[e];simp⟩) (λm W=>?_) (λb u e=>?_) I.bare
 ·have e:b=it:=by simpa using U
  subst e;exact⟨h1,J,h2,N⟩
 ·obtain⟨o,es,ep,Y,r⟩:=W
  exact⟨o,es,ep,k _ o (X5 J) Y,r⟩
 ·refine(I.hok b u e).stay (λc v F q=>k c v ?_ q) (λ_ q=>q) λ_ _ q=>q
  rcases F with z|z
  ·rw[z];exact G b u e
  ·exact G c _ z
theorem Inv.tok(I:Inv X pins σ H s)(t:Nat):Inv X pins σ H {s with toks:=t}:=I.un (h':=s.heap) (t':=t) Un.refl I.hok
theorem Inv.kept(I:Inv X pins σ H s)(k:∀b u,s.heap.get? b=some u->h'.get? b=some u):Inv X pins σ H {s with heap:=h',toks:=t'}:=I.un (Un.kept k) (I.hok.kept k)
theorem Inv.laid(I:Inv X pins σ H s)(k:∀b u,s.heap.get? b=some u->h'.get? b=some u)(q:s.heap.objs.size<=a)(new:ObjOk X.prog X.w (upd H a o) h' a o) :
  Inv X pins σ (upd H a o) {s with heap:=h',toks:=t'}:=I.un (Un.laid k q (I.hok.fresh q)) (I.hok.laid k q new)
theorem Inv.write(I:Inv X pins σ H s)(G:UG (H x))(F:e=x\/H e=some (.own x))(k:∀b u,b≠e->s.heap.get? b=some u->h'.get? b=some u)(q:∃u,h'.get? e=some u)
  (new:ObjOk X.prog X.w (upd H x o) h' x o):Inv X pins σ (upd H x o) {s with heap:=h',toks:=t'}:=I.un (Un.write G F k q) (I.hok.write G F k q new)
theorem Inv.pins_of(I:Inv X pins σ H s)(h:∀p∈pins',s.heap.get? p.1=some p.2/\H p.1=none/\p.1≠X.env.locals/\p.1∉X.fs/\∀v,p.2.data≠.cell v):Inv X pins' σ H s:=
 ⟨I.ok,I.os,I.bare,I.base,I.loc,I.cell,I.free,I.freeC,λp q=>(List.mem_append.mp q).elim (λz=>I.pin p (Z4 _ z)) (h p),I.hok,I.len⟩
theorem qK{N:List Str}(F:N.Nodup){i j:Nat}{x:Str}(a:N[i]?=some x)(b:N[j]?=some x):i=j:=by
 obtain⟨h1,G⟩:=List.getElem?_eq_some_iff.mp a;obtain⟨h2,q⟩:=List.getElem?_eq_some_iff.mp b;exact(zbx F).mp (G.trans q.symm)
theorem tG{M:Model}{A:XS}{E:Value->XE->Prop}{i:Nat}{x:Str}{v:V}{u:Value}{Q:Unit->XE->Prop}(I:Inv X pins σ H s)(hN:X.N.Nodup)(hi:X.N[i]?=some x)(U:Loc X.env.scope x)(r:RelV v u)
  (h:∀s',Inv X pins (σ.set i (some v)) H s'->(∃a,YN a s.heap s'.heap/\(a=X.env.locals\/X.env.cells.lookup x=some a))->Q () s') (hf:X.fn x=true\/X.env.scope.names.lookup x=some .local:=by first|exact .inl rfl|exact .inr rfl|assumption):wpAny M A (storeName X.env x u) Q E s:=by
 obtain⟨m,hn,hl⟩:=id I.loc;have aj:(X.env.scope.kind == .class || (X.env.scope.kind == .module && X.env.locals != X.env.globals))=false:=by rw[I.ok.kind];rfl
 have aa:i<σ.length:=by rw[I.len];exact(List.getElem?_eq_some_iff.mp hi).1
 have cne:=I.cne;have G:∀ {a:Addr} {h':Heap},(∃o,s.heap.get? a=some o/\H a=none)->YN a s.heap h'->HOk X.prog X.w H h':=λ{a h'} ha hs b ob e=>by
  obtain⟨_,_,W⟩:=ha;refine(I.hok b ob e).stay (λc w' J q=>(hs.2 c ?_).trans q) (λ_ q=>q) λ_ _ q=>q
  rintro rfl;rcases J with rfl|J
  ·rw[W]at e;cases e
  ·rw[W]at J;cases J
 rcases U with hk|hk
 ·refine wpAny_storeName_local hk hn (λh' ax hs=>?_) aj
  obtain⟨oL,_,_,am,_⟩:=id hn;refine h _ ⟨I.ok,I.os,I.bare,⟨λb o e n hb U=>?_,λb o e n hb U=>?_,I.base.free,λb o e U=>?_,I.base.tups,I.base.frzs,I.base.tbls⟩,⟨_,ax,λj y v' F Y e3=>?_⟩,λy c e=>?_,I.free,I.freeC,λp hp=>?_,G ⟨oL,am,I.free⟩ hs,by simpa using I.len⟩ ⟨_,hs,.inl rfl⟩
  ·exact(hs.2 b (YA (YZ (XO e) I.ok.above))).trans (I.base.keep b o e n hb U)
  ·obtain⟨sl,F⟩:=I.base.slot b o e n hb U
   exact⟨sl,(hs.2 b (YA (YZ (XO e) I.ok.above))).trans F⟩
  ·obtain⟨o',F⟩:=I.base.there b o e U
   exact⟨o',(hs.2 b (YA (YZ (XO e) I.ok.above))).trans F⟩
  ·by_cases hj:j=i
   ·subst hj
    rw[hi]at F;cases F;rw[zb6 aa]at Y;cases Y;exact⟨u,r,.inl ⟨hk,by simp⟩⟩
   ·rw[ZX (X5 hj)]at Y
    obtain⟨u',r',q⟩:=hl j y v' F Y e3;refine⟨u',r',?_⟩;rcases q with⟨k,e⟩|⟨k,c,e,z⟩
    ·refine .inl ⟨k,?_⟩
     have:y≠x:=λe=>hj (qK hN F (e ▸ hi))
     simp[this,e]
    ·exact .inr ⟨k,c,e,z.sameBut hs (cne y c e)⟩
  ·obtain⟨w',z⟩:=I.cell y c e
   exact⟨w',z.sameBut hs (cne y c e)⟩
  ·obtain⟨e,n,ne,nf,d⟩:=I.pin p hp
   exact⟨(hs.2 p.1 ne).trans e,n,ne,nf,d⟩
 ·have ad:X.fn x=true:=by
   rcases hf with z|z
   ·exact z
   ·rw[z]at hk;cases hk
  obtain⟨c,J⟩:=I.ok.has x (.inl hk);obtain⟨w',z⟩:=I.cell x c J;refine wpAny_storeName_cell I.ok.kind hk J z (λh' ai hs=>?_);obtain⟨oc,ah,af⟩:=id z;refine h {s with heap:=h'} ⟨I.ok,I.os,I.bare,⟨λb o e n hb U=>?_,λb o e n hb U=>?_,I.base.free,λb o e U=>?_,I.base.tups,I.base.frzs,I.base.tbls⟩,⟨m,hn.sameBut hs (X5 (cne x c J)),λj y v' F Y e3=>?_⟩,λy c' e=>?_,I.free,I.freeC,λp hp=>?_,G ⟨oc,ah,I.freeC x c J⟩ hs,by simpa using I.len⟩ ⟨c,hs,.inr J⟩
  ·exact(hs.2 b (YA (YZ (XO e) (I.ok.cab x c ad J)))).trans (I.base.keep b o e n hb U)
  ·obtain⟨sl,F⟩:=I.base.slot b o e n hb U
   exact⟨sl,(hs.2 b (YA (YZ (XO e) (I.ok.cab x c ad J)))).trans F⟩
  ·obtain⟨o',F⟩:=I.base.there b o e U
   exact⟨o',(hs.2 b (YA (YZ (XO e) (I.ok.cab x c ad J)))).trans F⟩
  ·by_cases hj:j=i
   ·subst hj
    rw[hi]at F;cases F;rw[zb6 aa]at Y;cases Y;exact⟨u,r,.inr ⟨.inl hk,c,J,ai⟩⟩
   ·rw[ZX (X5 hj)]at Y
    obtain⟨u',r',q⟩:=hl j y v' F Y e3;refine⟨u',r',?_⟩;rcases q with q|⟨k,c',e,z'⟩
    ·exact .inl q
    ·refine .inr ⟨k,c',e,z'.sameBut hs ?_⟩
     rintro rfl;exact hj (qK hN F (I.ok.inj _ _ _ e J ▸ hi))
  ·by_cases ag:c'=c
   ·subst ag;exact⟨_,ai⟩
   ·obtain⟨w2,z2⟩:=I.cell y c' e
    exact⟨w2,z2.sameBut hs ag⟩
  ·obtain⟨e,n,ne,nf,d⟩:=I.pin p hp
   refine⟨(hs.2 p.1 ?_).trans e,n,ne,nf,d⟩;intro q;rw[q,ah]at e;have q':oc=p.2:=YJ e;exact d w' (by rw[<- q'];exact af)
theorem i5(I:Inv X pins σ H s)(G:X.N.Nodup)(hi:X.N[i]?=some x)(J:Loc X.env.scope x)(r:RelV v u)
  (h:∀s',Inv X pins (σ.set i (some v)) H s'->Q () s') (q:X.fn x=true\/X.env.scope.names.lookup x=some .local:=by first|exact .inl rfl|exact .inr rfl|assumption):wpAny M A (storeName X.env x u) Q E s:=
 tG I G hi J r (λs' F _=>h s' F) q
theorem Inv.call'(I:Inv X pins σ H s)(F:s'.os=s.os)(u:Un (frs X.stack) ch H H' s.heap s'.heap)(hok:HOk X.prog X.w H' s'.heap)(G:zae s'.gens)
  (q:∀b∈ch,(b∈X.ex\/X.s₀.heap.objs.size<=b)/\b≠X.env.locals/\(∀x c,X.env.cells.lookup x=some c->c≠b)/\∀p∈X.pn++pins,p.1≠b):Inv X pins σ H' s':=by
 obtain⟨h',g',d',t',o'⟩:=s';have e:o'=s.os:=F;subst e;exact I.call (g':=g') (t':=t') (d':=d') u hok G q
end
abbrev XK:=Value->Option Addr->Hp->Prop
abbrev St:=List (Option V)
abbrev VK:=V->Hp->Prop
abbrev TE:=St->Hp->VK->Prop
abbrev TT:=St->Hp->(Bool->Hp->Prop)->Prop
abbrev TA:=St->Hp->(List V->Hp->Prop)->Prop
structure Ends where
 nx:St->Hp->Prop
 rt:VK
 bk:St->Hp->Prop:=λ_ _=>False
 ct:St->Hp->Prop:=λ_ _=>False
abbrev TS:=Ends->St->Hp->Prop
inductive EP(X:Cx)(pins:List (Addr×Obj))(σ:St)(Q:VK)(u:Value)(s':XE):Prop
 | mk (v:V) (H':Hp) (i:Inv X pins σ H' s') (r:RelV v u) (q:Q v H'):EP X pins σ Q u s'
inductive TP(X:Cx)(pins:List (Addr×Obj))(σ:St)(Q:Bool->Hp->Prop)(b:Bool)(s':XE):Prop
 | mk (H':Hp) (i:Inv X pins σ H' s') (q:Q b H'):TP X pins σ Q b s'
inductive AP(X:Cx)(pins:List (Addr×Obj))(σ:St)(Q:List V->Hp->Prop)(us:List Value)(s':XE):Prop
 | mk (vs:List V) (H':Hp) (i:Inv X pins σ H' s') (r:Vals vs us) (q:Q vs H'):AP X pins σ Q us s'
def SP(X:Cx)(pins:List (Addr×Obj))(D:Ends)(f:Flow)(s':XE):Prop:=
 match f with
 | .next=>∃σ' H',Inv X pins σ' H' s'/\D.nx σ' H'
 | .brk=>∃σ' H',Inv X pins σ' H' s'/\D.bk σ' H'
 | .cont=>∃σ' H',Inv X pins σ' H' s'/\D.ct σ' H'
 | .ret u=>∃v σ' H',Inv X pins σ' H' s'/\RelV v u/\D.rt v H'
def PE(X:Cx)(e:Expr)(t:TE):Prop:=
 ∀(pins:List (Addr×Obj)) (s:XE) (σ:St) (H:Hp) (Q:VK),Inv X pins σ H s->t σ H Q->wpAny (model X.prog X.w) X.A (eval e X.env) (EP X pins σ Q) X.xe s
def PT(X:Cx)(e:Expr)(t:TT):Prop:=
 ∀(pins:List (Addr×Obj)) (s:XE) (σ:St) (H:Hp) (Q:Bool->Hp->Prop),Inv X pins σ H s->t σ H Q->wpAny (model X.prog X.w) X.A (isTrue e X.env (eval e X.env)) (TP X pins σ Q) X.xe s
def PW(X:Cx)(e:Expr)(t:TT):Prop:=
 ∀(whole:Sem Value) (pins:List (Addr×Obj)) (s:XE) (σ:St) (H:Hp) (Q:Bool->Hp->Prop),Inv X pins σ H s->t σ H Q->wpAny (model X.prog X.w) X.A (isTrue e X.env whole) (TP X pins σ Q) X.xe s
theorem PW.pt{X:Cx}{e:Expr}{t:TT}(h:PW X e t):PT X e t:=h _
def PA(X:Cx)(es:List Expr)(t:TA):Prop:=
 ∀(pos:Pos) (pins:List (Addr×Obj)) (s:XE) (σ:St) (H:Hp) (Q:List V->Hp->Prop),Inv X pins σ H s->t σ H Q->wpAny (model X.prog X.w) X.A (spliced (X0 pos (XI es X.env))) (AP X pins σ Q) X.xe s
def PS(X:Cx)(st:Stmt)(t:TS):Prop:=
 ∀(pins:List (Addr×Obj)) (s:XE) (σ:St) (H:Hp) (D:Ends),Inv X pins σ H s->t D σ H->wpAny (model X.prog X.w) X.A (exec st X.env) (SP X pins D) X.xe s
def PSs(X:Cx)(st:List Stmt)(t:TS):Prop:=
 ∀(pins:List (Addr×Obj)) (s:XE) (σ:St) (H:Hp) (D:Ends),Inv X pins σ H s->t D σ H->wpAny (model X.prog X.w) X.A (execs st X.env) (SP X pins D) X.xe s
theorem bX{F:Type}{t:Sem F}{Q q:F->XE->Prop}{M:Model}{A:XS}{E:Value->XE->Prop}{s:XE}(h:wpAny M A t Q E s)(G:∀a s,Q a s->q a s):wpAny M A t q E s:=X3 h G λ_ _ x=>x
section
variable {X:Cx}
def iN(i:Nat):TE:=λσ H Q=>∃v,σ[i]?=some (some v)/\Q v H
def tC(v:V):TE:=λ_ H Q=>Q v H
theorem HG(Y:X.N[i]?=some x)(hv:EJ X.env.scope x)(G:(x == ("__debug__" : Str))=false:=by decide)(J:(x == ("__classdict__" : Str))=false:=by decide):PE X (.Name x pos) (iN i):=by
 intro pins s σ H Q I h;obtain⟨v,e,h⟩:=h;obtain⟨m,hn,W⟩:=I.loc;obtain⟨u,r,l⟩:=W i x v Y e hv;have fin:EP X pins σ Q u s:=⟨v,H,I,r,h⟩;rcases l with⟨F,hm⟩|⟨F,c,U,q⟩
 ·exact za4 (wpAny_loadName_local I.ok.kind F hn hm fin) G
 ·rcases F with F|F
  ·exact za4 (wpAny_loadName_cell I.ok.kind F U q fin) G
  ·exact za4 (wpAny_loadName_free I.ok.kind F U q fin J) G
theorem NR{i j pos}:PE X (.Constant (.int i) j pos) (tC (.int i)):=λ_ _ _ H _ I h=>wpAny_Constant_int ⟨.int i,H,I.tok _,⟨_,rfl⟩,h⟩
theorem RW{b j pos}:PE X (.Constant (.bool b) j pos) (tC (.bl b)):=λ_ _ _ H _ I h=>Constant_bool ⟨.bl b,H,I,rfl,h⟩
theorem OZ{j pos}:PE X (.Constant .none j pos) (tC .non):=λ_ _ _ H _ I h=>Constant_none ⟨.non,H,I,rfl,h⟩
theorem QS{x j pos}:PE X (.Constant (.str x) j pos) (tC (.str x)):=λ_ _ _ H _ I h=>zcV ⟨.str x,H,I.tok _,⟨_,rfl⟩,h⟩
def Gl(X:Cx)(x:Str):Prop:=X.env.kindOf x=some .globalImplicit
theorem eX(I:Inv X pins σ H s)(G:Gl X x)(q:X.mg x=some u)(h:Q u s)
  (F:(x == ("__debug__" : Str))=false:=by decide):wpAny (model X.prog X.w) X.A (eval (.Name x pos) X.env) Q E s:=
 Calls.Name_function_global I.ok.kind G (Calls.loadGlobal_global (by rw[I.ok.glob];exact I.mod.glob.keeps I.bk) q h) F
theorem mO{E:Value->XE->Prop}{pins:List (Addr×Obj)}{s:XE}{σ:St}{H:Hp}{x:Str}{u:Value}{pos:Pos}{Q:Value->XE->Prop}(I:Inv X pins σ H s)(G:Gl X x)(F:X.mg x=none)(J:YC x=some u)(h:Q u s)
  (N:x ≠ "__name__" := by decide) (q:(x == ("__debug__" : Str))=false:=by decide):wpAny (model X.prog X.w) X.A (eval (.Name x pos) X.env) Q E s:=by
 obtain⟨U,h1,h2⟩:=I.mod.blt;exact Calls.Name_function_global I.ok.kind G (Calls.loadGlobal_builtin (by rw[I.ok.glob];exact I.mod.glob.keeps I.bk) F (by rw[I.ok.blt];exact h1.keeps I.bk) ((h2 x N).trans J) h) q
theorem lX(G:Gl X x)(F:X.mg x=some u)(r:RelV v u)(q:(x == ("__debug__" : Str))=false:=by decide):PE X (.Name x pos) (tC v):=
 λ_ _ _ H _ I h=>eX I G F ⟨v,H,I,r,h⟩ q
theorem BD(G:Gl X x)(F:X.mg x=none)(J:YC x=some u)(r:RelV v u)(N:x ≠ "__name__" := by decide)(q:(x == ("__debug__" : Str))=false:=by decide):PE X (.Name x pos) (tC v):=
 λ_ _ _ H _ I h=>mO I G F J ⟨v,H,I,r,h⟩ N q
variable {a b:Expr}{ta tb:TE}{pos:Pos}
def tB(t:TE):TT:=λσ H Q=>t σ H λx H1=>∃c,x=.bl c/\Q c H1
theorem OP{e:Expr}{t:TE}(h:PE X e t)(J:∀F,isTrue e X.env F=(do let v <- F;standAt e.pos;holding [v] (truthy v)):=by intro _;rfl):PT X e (tB t):=by
 intro pins s σ H Q I hw;refine isTrue_plain (bX (h pins s σ H _ I hw) λv W ⟨x,H1,N,U,G⟩=>?_) (J _);obtain⟨d,rfl,q⟩:=G;cases U;exact ZT ⟨H1,N,q⟩
variable {tA tB':TT}{rest:List Expr}
def VR(t u:TT):TT:=λσ H Q=>t σ H λc H1=>if c=true then u σ H1 Q else Q false H1
def W5(t u:TT):TT:=λσ H Q=>t σ H λc H1=>if c=true then Q true H1 else u σ H1 Q
def U4(t:TT):TT:=λσ H Q=>t σ H λc H1=>Q (!c) H1
theorem KB(q:PT X a tA):PW X (.BoolOp .And [a] pos) tA:=by
 intro G pins s σ H Q I h;refine isTrue_and (bX (q pins s σ H Q I h) λc F e=>?_);cases c with
 | true=>exact isTrue_and_nil e
 | false=>exact e
theorem PN(q:PT X a tA):PW X (.BoolOp .Or [a] pos) tA:=by
 intro G pins s σ H Q I h;refine isTrue_or (bX (q pins s σ H Q I h) λc F e=>?_);cases c with
 | false=>exact isTrue_or_nil e
 | true=>exact e
theorem N2(N:PT X a tA)(J:PW X (.BoolOp .And (b::rest) pos) tB'):PW X (.BoolOp .And (a::b::rest) pos) (VR tA tB'):=by
 intro U pins s σ H Q I h;refine isTrue_and (bX (N pins s σ H _ I h) λc G ⟨H1,F,q⟩=>?_);cases c with
 | true=>exact J U pins G σ H1 Q F q
 | false=>exact⟨H1,F,q⟩
theorem SR(N:PT X a tA)(J:PW X (.BoolOp .Or (b::rest) pos) tB'):PW X (.BoolOp .Or (a::b::rest) pos) (W5 tA tB'):=by
 intro U pins s σ H Q I h;refine isTrue_or (bX (N pins s σ H _ I h) λc G ⟨H1,F,q⟩=>?_);cases c with
 | true=>exact⟨H1,F,q⟩
 | false=>exact J U pins G σ H1 Q F q
theorem PU(F:PT X a tA):PT X (.UnaryOp .Not a pos) (U4 tA):=by
 intro pins s σ H Q I h;exact isTrue_not (bX (F pins s σ H (λc H1=>Q (!c) H1) I h) λ_ _ ⟨H',i,q⟩=>⟨H',i,q⟩)
def RQ(ta tb:TE):TE:=λσ H Q=>ta σ H λx H1=>∃c,x=.bl c/\if c=true then tb σ H1 Q else Q (.bl false) H1
def U5(ta tb:TE):TE:=λσ H Q=>ta σ H λx H1=>∃c,x=.bl c/\if c=true then Q (.bl true) H1 else tb σ H1 Q
def RV(ta:TE):TE:=λσ H Q=>ta σ H λx H1=>∃c,x=.bl c/\Q (.bl (!c)) H1
theorem HE{op}(h:PE X a t):PE X (.BoolOp op [a] pos) t:=λpins s σ H Q I hw=>BoolOp_one (h pins s σ H Q I hw)
theorem QC(N:PE X a ta)(J:PE X (.BoolOp .And (b::rest) pos) tb):PE X (.BoolOp .And (a::b::rest) pos) (RQ ta tb):=by
 intro pins s σ H Q I h;refine BoolOp_and (bX (N pins s σ H _ I h) λv G ⟨x,H1,F,U,q⟩=>?_);obtain⟨c,rfl,q⟩:=q;cases U;refine ZT ?_;cases c with
 | true=>exact J pins G σ H1 Q F q
 | false=>exact⟨.bl false,H1,F,rfl,q⟩
theorem SX(N:PE X a ta)(J:PE X (.BoolOp .Or (b::rest) pos) tb):PE X (.BoolOp .Or (a::b::rest) pos) (U5 ta tb):=by
 intro pins s σ H Q I h;refine BoolOp_or (bX (N pins s σ H _ I h) λv G ⟨x,H1,F,U,q⟩=>?_);obtain⟨c,rfl,q⟩:=q;cases U;refine ZT ?_;cases c with
 | false=>exact J pins G σ H1 Q F q
 | true=>exact⟨.bl true,H1,F,rfl,q⟩
theorem IL(F:PE X a ta):PE X (.UnaryOp .Not a pos) (RV ta):=by
 intro pins s σ H Q I h;refine UnaryOp_ (bX (F pins s σ H _ I h) λv N ⟨x,H1,G,J,q⟩=>?_);obtain⟨c,rfl,q⟩:=q;cases J;exact not_of (ZT ⟨.bl (!c),H1,G,rfl,q⟩)
end
def SqL(K:XF)(H:Hp)(a:Addr)(xs:List V):Prop:=
 Rd H a (.lst xs) \/
  ∃(o:Obj) (its:Array Value) (n:Nat),K.lookup a=some o/\o.cls=.type "list" /\ o.dict=none/\o.data=.seq its n/\its.size<=XQ/\Vals xs its.toList
def SqT(K:XF)(H:Hp)(a:Addr)(xs:List V):Prop:=
 Rd H a (.tup xs) \/
  ∃(o:Obj) (its:Array Value) (n:Nat),K.lookup a=some o/\o.cls=.type "tuple" /\ o.data=.seq its n/\its.size<=XQ/\Vals xs its.toList
noncomputable def VY:Value->Option V
 | .none=>some .non
 | .bool b=>some (.bl b)
 | .int i _=>some (.int i)
 | .str x _=>some (.str x)
 | .bytes b _=>some (.byt b)
 | .float b _=>some (.flt b)
 | .ref a=>some (.ref a)
 | .type n=>some (.ty n)
 | _=>none
theorem RelV.abs(r:RelV x u):VY u=some x:=by
 cases x with
 | non=>cases r;rfl
 | bl _=>cases r;rfl
 | int _=>obtain⟨t,rfl⟩:=r;rfl
 | str _=>obtain⟨t,rfl⟩:=r;rfl
 | byt _=>obtain⟨t,rfl⟩:=r;rfl
 | flt _=>obtain⟨t,rfl⟩:=r;rfl
 | ref _=>cases r;rfl
 | ty _=>cases r;rfl
theorem RelV.inj(r:RelV x u)(q:RelV y u):x=y:=YJ (r.abs.symm.trans q.abs)
theorem Vals.inj:∀ {xs ys:List V} {us:List Value},Vals xs us->Vals ys us->xs=ys
 | _,_,_,.nil,.nil=>rfl
 | _,_,_,.cons r t,.cons r' t'=>by rw[r.inj r',Vals.inj t t']
section
variable {X:Cx}{pins:List (Addr×Obj)}{σ:St}{H:Hp}{s:XE}{a:Addr}{xs ys:List V}
theorem SqL.of{K:XF}(h:H a=some (.lst xs)):SqL K H a xs:=.inl (.inl h)
theorem SqT.of{K:XF}(h:H a=some (.tup xs)):SqT K H a xs:=.inl (.inl h)
theorem Inv.list(I:Inv X pins σ H s)(h:SqL X.K H a xs):∃q:List Value,Vals xs q/\PlainL s.heap a q.toArray/\xs.length<=XQ:=by
 rcases h with h|⟨o,q,n,F,J,G,hs,hz,r⟩
 ·obtain⟨z,q,n,r,e⟩:=h.ok I.hok
  exact⟨q,r,⟨_,n,e,rfl,rfl,rfl⟩,z⟩
 ·refine⟨q.toList,r,⟨o,n,I.kIn a o F,J,G,by simpa using hs⟩,?_⟩
  have e:=r.length;simp only[ZJ]at e
  lia
theorem Inv.tuple(I:Inv X pins σ H s)(h:SqT X.K H a xs):∃q:List Value,Vals xs q/\IsTup s.heap a q.toArray/\xs.length<=XQ:=by
 rcases h with h|⟨o,q,n,F,G,hs,hz,r⟩
 ·obtain⟨z,q,r,p⟩:=h.ok I.hok
  exact⟨q,r,p.tup,z⟩
 ·refine⟨q.toList,r,⟨o,I.kIn a o F,G,n,by simpa using hs⟩,?_⟩
  have e:=r.length;simp only[ZJ]at e
  lia
theorem Inv.list_inj(I:Inv X pins σ H s)(h:SqL X.K H a xs)(h':SqL X.K H a ys):xs=ys:=by
 obtain⟨q,r,⟨o,n,e,_,_,d⟩,_⟩:=I.list h;obtain⟨its',G,⟨o',J,F,_,_,d'⟩,_⟩:=I.list h';rw[e]at F;cases F;rw[d]at d';injection d' with d1 _
 have:q=its':=by simpa using congrArg Array.toList d1
 subst this;exact r.inj G
theorem Inv.tuple_inj(I:Inv X pins σ H s)(h:SqT X.K H a xs)(h':SqT X.K H a ys):xs=ys:=by
 obtain⟨q,r,⟨o,e,_,n,d⟩,_⟩:=I.tuple h;obtain⟨its',G,⟨o',F,_,J,d'⟩,_⟩:=I.tuple h';rw[e]at F;cases F;rw[d]at d';injection d' with d1 _
 have:q=its':=by simpa using congrArg Array.toList d1
 subst this;exact r.inj G
end
abbrev Cx.wish(X:Cx)(E:Value->XE->Prop):Cx:={X with xe:=E}
abbrev Cx.nox(X:Cx):Cx:=X.wish λ_ _=>False
theorem Cx.Ok.wish{X:Cx}(ok:X.Ok)(E:Value->XE->Prop):(X.wish E).Ok:=
 ⟨ok.mod,ok.kind,ok.glob,ok.blt,ok.above,ok.inj,ok.has,ok.cab,ok.hd,ok.frames,ok.stk,ok.exf,ok.bs,ok.bsz,ok.noex,ok.exfs,ok.funs,ok.frf⟩
theorem Cx.Ok.unwish{X:Cx}{E:Value->XE->Prop}(ok:(X.wish E).Ok):X.Ok:=
 ⟨ok.mod,ok.kind,ok.glob,ok.blt,ok.above,ok.inj,ok.has,ok.cab,ok.hd,ok.frames,ok.stk,ok.exf,ok.bs,ok.bsz,ok.noex,ok.exfs,ok.funs,ok.frf⟩
section
variable {X:Cx}{pins:List (Addr×Obj)}{σ:St}{H:Hp}{s:XE}{E:Value->XE->Prop}
theorem Inv.wish(I:Inv X pins σ H s)(E:Value->XE->Prop):Inv (X.wish E) pins σ H s:=⟨I.ok.wish E,I.os,I.bare,I.base,I.loc,I.cell,I.free,I.freeC,I.pin,I.hok,I.len⟩
theorem Inv.unwish(I:Inv (X.wish E) pins σ H s):Inv X pins σ H s:=⟨I.ok.unwish,I.os,I.bare,I.base,I.loc,I.cell,I.free,I.freeC,I.pin,I.hok,I.len⟩
theorem SP.unwish(h:SP (X.wish E) pins D f s'):SP X pins D f s':=by
 cases f with
 | next=>obtain⟨F,H',I,q⟩:=h;exact⟨F,H',I.unwish,q⟩
 | brk=>obtain⟨F,H',I,q⟩:=h;exact⟨F,H',I.unwish,q⟩
 | cont=>obtain⟨F,H',I,q⟩:=h;exact⟨F,H',I.unwish,q⟩
 | ret u=>obtain⟨v,F,H',I,r,q⟩:=h;exact⟨v,F,H',I.unwish,r,q⟩
theorem PE.nox(h:PE X.nox e t):PE X e t:=λpins s σ H Q I hw=>
 X3 (h pins s σ H Q (I.wish _) hw) (λ_ _ ⟨v,H',F,r,q⟩=>⟨v,H',F.unwish,r,q⟩) λ_ _ z=>YF z
theorem PT.nox(h:PT X.nox e t):PT X e t:=λpins s σ H Q I hw=>
 X3 (h pins s σ H Q (I.wish _) hw) (λ_ _ ⟨H',F,q⟩=>⟨H',F.unwish,q⟩) λ_ _ z=>YF z
theorem PSs.nox{st:List Stmt}{t:TS}(h:PSs X.nox st t):PSs X st t:=λpins s σ H D I hw=>
 X3 (h pins s σ H D (I.wish _) hw) (λ_ _ q=>q.unwish) λ_ _ z=>YF z
end
section
variable {X:Cx}{st:Stmt}{rest:List Stmt}{t u:TS}{e:Expr}{te:TE}{pos:Pos}
def R8:TS:=λD σ H=>D.nx σ H
def T7(t u:TS):TS:=λD σ H=>t {D with nx:=u D} σ H
theorem BL:PSs X [] R8:=λ_ _ σ H _ I h=>zby ⟨σ,H,I,h⟩
theorem lL(h1:PS X st t)(h2:PSs X rest u):PSs X (st::rest) (T7 t u):=by
 intro pins s σ H D I h;refine zaF (bX (h1 pins s σ H {D with nx:=u D} I h) λf G q=>?_);cases f with
 | next=>
  obtain⟨F,H',J,q⟩:=q;exact h2 pins G F H' D J q
 | ret v=>exact q
 | brk=>exact q
 | cont=>exact q
theorem BZ(h1:PS X st t):PSs X [st] t:=by
 intro pins s σ H D I h;refine zaF (bX (h1 pins s σ H D I h) λf F q=>?_);cases f with
 | next=>exact zby q
 | ret v=>exact q
 | brk=>exact q
 | cont=>exact q
theorem Inv.quiet(I:Inv X pins σ H s):interactive X.env=false:=by simp[interactive,I.ok.kind]
def RP(te:TE):TS:=λD σ H=>te σ H λ_ H1=>D.nx σ H1
theorem n9(G:PE X e te)(hs:YL e none pos.line X.env=pure false:=by rfl):PS X (.Expr e pos) (RP te):=by
 intro pins s σ H D I h;exact wpAny_Expr_any (bX (G pins s σ H _ I h) λv J ⟨x,H1,F,N,q⟩=>⟨σ,H1,F,q⟩) I.quiet hs
def VX(te:TE):TS:=λD σ H=>te σ H D.rt
theorem HD(G:PE X e te):PS X (.Return (some e) pos) (VX te):=by
 intro pins s σ H D I h;exact wpAny_Return_some (bX (G pins s σ H _ I h) λv N ⟨x,H1,F,J,q⟩=>⟨x,σ,H1,F,J,q⟩)
def U6(c:TT)(t u:TS):TS:=λD σ H=>c σ H λb H1=>if b=true then t D σ H1 else u D σ H1
theorem TB{c:Expr}{a b:List Stmt}{tc:TT}(U:PT X c tc)(N:PSs X a t)(J:PSs X b u):PS X (.If c a b pos) (U6 tc t u):=by
 intro pins s σ H D I h;refine wpAny_If (bX (U pins s σ H _ I h) λd q ⟨H1,G,F⟩=>?_);cases d with
 | true=>exact N pins q σ H1 D G F
 | false=>exact J pins q σ H1 D G F
end
abbrev TG:=V->St->Hp->(St->Hp->Prop)->Prop
abbrev NK:=List V->St->Hp->(St->Hp->Prop)->Prop
def PG(X:Cx)(q:Expr)(t:TG):Prop:=
 ∀(pins:List (Addr×Obj)) (s:XE) (σ:St) (H:Hp) (v:V) (u:Value) (Q:St->Hp->Prop),Inv X pins σ H s->RelV v u->t v σ H Q->
  wpAny (model X.prog X.w) X.A (ZO q X.env u) (λ_ s'=>∃F H',Inv X pins F H' s'/\Q F H') X.xe s
def PGs(X:Cx)(ts:List Expr)(t:NK):Prop:=
 ∀(pins:List (Addr×Obj)) (s:XE) (σ:St) (H:Hp) (vs:List V) (us:List Value) (Q:St->Hp->Prop),Inv X pins σ H s->Vals vs us->t vs σ H Q->
  wpAny (model X.prog X.w) X.A (assignInOrder ((ZA ts X.env).map (·.2)) us) (λ_ s'=>∃q H',Inv X pins q H' s'/\Q q H') X.xe s
abbrev IY:=V->V->V->Hp->(Hp->Prop)->Prop
def MN(X:Cx)(t:IY):Prop:=
 ∀(pins:List (Addr×Obj)) (s:XE) (σ:St) (H:Hp) (o i v:V) (ov iv u:Value) (Q:Hp->Prop),Inv X pins σ H s->RelV o ov->RelV i iv->RelV v u->t o i v H Q->
  wpAny (model X.prog X.w) X.A (setItem ov iv u) (λ_ s'=>∃H',Inv X pins σ H' s'/\Q H') X.xe s
section
variable {X:Cx}{pos:Pos}
def rH(i:Nat):TG:=λv σ H Q=>Q (σ.set i (some v)) H
theorem BR(F:X.N.Nodup)(hi:X.N[i]?=some x)(G:Loc X.env.scope x)(q:X.fn x=true\/X.env.scope.names.lookup x=some .local:=by first|exact .inl rfl|exact .inr rfl|assumption):PG X (.Name x pos) (rH i):=by
 intro pins s σ H v u Q I r h;exact wpAny_assign_Name (i5 I F hi G r (λs' J=>⟨_,H,J,h⟩) q)
def U8:NK:=λvs σ H Q=>vs=[]/\Q σ H
def M7(t:TG)(u:NK):NK:=λvs σ H Q=>∃v r,vs=v::r/\t v σ H λq H'=>u r q H' Q
theorem L4:PGs X [] U8:=by
 intro pins s σ H vs q Q I r h;obtain⟨e,h⟩:=h;subst e;cases r;exact assignInOrder_nil ⟨σ,H,I,h⟩
theorem FS{e:Expr}{es:List Expr}{t:TG}{u:NK}(h1:PG X e t)(h2:PGs X es u)
  (hs:(ZA (e::es) X.env).map (·.2)=ZO e X.env::(ZA es X.env).map (·.2):=by rfl):PGs X (e::es) (M7 t u):=by
 intro pins s σ H vs W Q I r h;obtain⟨v,U,G,h⟩:=h;subst G;cases r with
 | cons r rr=>
  rw[hs];refine assignInOrder_cons (bX (h1 pins s σ H _ _ _ I r h) λ_ F ⟨q,H1,N,J⟩=>?_);exact h2 pins F q H1 _ _ Q N rr J
def TX(K:XF)(n:Nat)(t:NK):TG:=λv σ H Q=>∃a xs,v=.ref a/\SqT K H a xs/\xs.length=n/\t xs σ H Q
theorem IH(hc:X.calm=true)(h:PGs X es t)
  (hn:(ZA es X.env).length=n:=by rfl) (q:(ZA es X.env).findIdx? (·.1)=none:=by rfl):PG X (.Tuple es k pos) (TX X.K n t):=by
 intro pins s σ H v u Q I r hw;obtain⟨a,xs,G,N,J,hw⟩:=hw;subst G;cases r;obtain⟨U,F,W,hz⟩:=I.tuple N;refine assign_Tuple_tuple (I.ok.hd hc) W (by simp[hn,<- J,F.length]) q λh' Y=>?_
 have I1:Inv X pins σ H {s with heap:=h'}:=I.kept (t':=s.toks) λb o e=>Y b o (YA (XO e)) e
 exact h pins _ σ H xs _ Q I1 (by simpa using F) hw
def Q0(to F:TE)(t:IY):TG:=λv σ H Q=>to σ H λo H1=>F σ H1 λi H2=>t o i v H2 λq=>Q σ q
theorem HQ{o i:Expr}{to G:TE}{t:IY}(ho:PE X o to)(hi:PE X i G)(hs:MN X t)
  (W:∀v, ZO (.Subscript o i pos) X.env v = (do
   let q <- holding [v] (eval o X.env);let F <- holding [v,q] (eval i X.env)
   standAt pos
   holding [v,q,F] (setItem q F v)
   release [v,q,F] []):=by intro _;rfl):PG X (.Subscript o i pos) (Q0 to G t):=by
 intro pins s σ H v u Q I r h;rw[W];refine XD (Y1 (bX (ho pins s σ H _ I h) λq J ⟨x,H1,I1,r1,N⟩=>?_));refine XD (Y1 (bX (hi pins J σ H1 _ I1 N) λF U ⟨y,H2,I2,r2,q2⟩=>?_));refine XD (zaG (XD (Y1 (bX (hs pins U σ H2 x y v q F u _ I2 r1 r2 r q2) λ_ s3 ⟨H3,Y,q3⟩=>?_))));exact wpAny_release ⟨σ,H3,Y,q3⟩
def I0(te:TE)(g:TG):TS:=λD σ H=>te σ H λx H1=>g x σ H1 D.nx
theorem HL{tg e:Expr}{te:TE}{g:TG}(J:PE X e te)(N:PG X tg g)(hs:zb7 [tg] e pos.line X.env=pure false:=by rfl)(hw:zb8 [tg] e X.env=pure none:=by rfl)
  (h1:(ZA [tg] X.env).map (·.2)=[ZO tg X.env]:=by rfl):PS X (.Assign [tg] e pos) (I0 te g):=by
 intro pins s σ H D I h;refine wpAny_Assign_stores (bX (J pins s σ H _ I h) λv F ⟨x,H1,U,W,G⟩=>?_) hs hw;rw[h1];exact bX (N pins F σ H1 x v _ U W G) λ_ Y q=>q
theorem qQ{i:Nat}{x:Str}{e:Expr}{te:TE}{pos':Pos}(J:X.N.Nodup)(hi:X.N[i]?=some x)(W:Loc X.env.scope x)(F:PE X e te)(hs:YL e (some (.Name x pos')) pos.line X.env=pure false:=by rfl)(G:X.fn x=true\/X.env.scope.names.lookup x=some .local:=by first|exact .inl rfl|exact .inr rfl|assumption) :
  PS X (.Assign [.Name x pos'] e pos) (I0 te (rH i)):=by
 intro pins s σ H D I h;refine zcW (bX (F pins s σ H _ I h) λv s1 ⟨y,H1,Y,r1,q⟩=>?_) hs;exact i5 Y J hi W r1 (λs2 U=>⟨_,H1,U,q⟩) G
end
section
variable {X:Cx}{pos:Pos}
end
structure It where
 go:Nat->Hp->Prop
 yld:Nat->Hp->V->Hp->Prop
 stop:Nat->Hp->Prop
def jU(X:Cx)(pins:List (Addr×Obj))(H:Hp)(b:Addr):Prop:=
 H b=none/\b≠X.env.locals/\b∉X.fs/\(b∈X.ex\/X.s₀.heap.objs.size<=b)/\(∀x c,X.env.cells.lookup x=some c->c≠b)/\∀p∈X.pn++pins,p.1≠b
theorem Inv.fpOk(I:Inv X pins σ H s)(F:s.heap.objs.size<=b)(J:H' b=none):jU X pins H' b:=by
 refine⟨J,YS (YZ I.lt F),I.nofs F,.inr (Y0 I.sz F),λx c e z=>?_,λp G z=>?_⟩
 ·obtain⟨v,q⟩:=I.cell x c e
  exact absurd (YZ q.lt (by rw[z];exact F)) (ZN _)
 ·exact absurd (YZ (XO (I.pin p G).1) (by rw[z];exact F)) (ZN _)
structure Turn(P:XM)(w:World)(K:XF)(tg:Expr)(J:It)(fp:List Addr)(it:Addr)(tn:Nat->Heap->Prop):Prop where
 mem:it∈fp
 obj:∀i h,tn i h->∀b∈fp,∃o,h.get? b=some o/\∀v,o.data≠.cell v
 keep:∀i h h',tn i h->(∀b∈fp,∀o,h.get? b=some o->h'.get? b=some o)->tn i h'
 item:∀(X:Cx),X.prog=P->X.w=w->X.K=K->X.calm=true->∀(i:Nat) (pins:List (Addr×Obj)) (s:XE) (σ:St) (H:Hp) (E:Value->XE->Prop),Inv X pins σ H s->(∀b∈fp,jU X pins H b)->tn i s.heap->J.go i H->
  wpAny (model P w) X.A (Y2 (.ref it)) (λr s1=>∃u,r=some u /\
   wpAny (model P w) X.A (zb9 tg (.ref it) u) (λ_ s2=>∃x H',Inv X pins σ H' s2/\RelV x u/\J.yld i H x H'/\tn (i+1) s2.heap/\∀b∈fp,H' b=none) E s1) E s
 done:∀(X:Cx),X.prog=P->X.w=w->X.K=K->X.calm=true->∀(i:Nat) (pins:List (Addr×Obj)) (s:XE) (σ:St) (H:Hp) (E:Value->XE->Prop),Inv X pins σ H s->(∀b∈fp,jU X pins H b)->tn i s.heap->J.stop i H->
  wpAny (model P w) X.A (Y2 (.ref it)) (λr s1=>r=none/\Inv X pins σ H s1) E s
 self:∀(A:XS) (i:Nat) (s:XE) (Q:Value->XE->Prop) (E:Value->XE->Prop),tn i s.heap->Q (.ref it) s->wpAny (model P w) A (pyIter (.ref it)) Q E s
abbrev TI:=St->Hp->(It->Hp->Prop)->Prop
def PIE(X:Cx)(pins:List (Addr×Obj))(σ:St)(tg:Expr)(R:It->Hp->Prop)(q:Value)(F:XE):Prop:=
 ∃(it:Addr) (fp:List Addr) (tn:Nat->Heap->Prop) (J:It) (H':Hp),q=.ref it/\Inv X pins σ H' F/\Turn X.prog X.w X.K tg J fp it tn/\tn 0 F.heap/\(∀b∈fp,jU X pins H' b)/\R J H'
def PI(X:Cx)(tg q:Expr)(wi:TI):Prop:=
 ∀(pins:List (Addr×Obj)) (s:XE) (σ:St) (H:Hp) (R:It->Hp->Prop),Inv X pins σ H s->wi σ H R->
  wpAny (model X.prog X.w) X.A (eval q X.env) (λv F=>wpAny (model X.prog X.w) X.A (pyIter v) (PIE X pins σ tg R) X.xe F) X.xe s
theorem rF(G:s.heap.get? it=some o)(J:o.cls=.type n)(F:o.data=.fields vs)
    (N:["enumerate", "zip", "dict_itemiterator", "dict_reverseitemiterator", "odict_iterator", "itertools.zip_longest", "itertools.pairwise"].contains n=false) (q:Q () s):wpAny M A (zb9 tg (.ref it) u) Q E s:=by
  unfold zb9;cases tg <;> first
    | exact XJ q
    | (cases u <;> first
        | exact XJ q
        | (refine XD (wpAny_load G ?_)
           rw[J,F];show wpAny M A (if(["enumerate", "zip", "dict_itemiterator", "dict_reverseitemiterator", "odict_iterator", "itertools.zip_longest", "itertools.pairwise"].contains n && vs[0]? == some (YD _))=true then _ else _) Q E s;rw[if_neg (by intro h;rw[N,Bool.false_and]at h;cases h)];exact XJ q))
def WF(K:XF)(a:Addr):It:=
 ⟨λi H=>∃xs x,SqL K H a xs/\xs[i]?=some x,λi H x H'=>H'=H/\∀xs,SqL K H a xs->xs[i]?=some x,λi H=>∃xs,SqL K H a xs/\xs.length<=i⟩
def WA(K:XF)(a:Addr):It:=
 ⟨λi H=>∃xs x,SqT K H a xs/\xs[i]?=some x,λi H x H'=>H'=H/\∀xs,SqT K H a xs->xs[i]?=some x,λi H=>∃xs,SqT K H a xs/\xs.length<=i⟩
noncomputable def UY(lo:Int)(n:Nat):It:=⟨λi _=>i<n,λi H x H'=>H'=H/\x=.int (lo+i),λi _=>n<=i⟩
theorem DY{P:XM}{w:World}{K:XF}{tg:Expr}(a it:Addr):Turn P w K tg (WF K a) [it] it (λi h=>h.IsListIter it a i) where
 mem:=by simp
 obj:=λi h st b q=>by
  have e:b=it:=by simpa using q
  subst e;obtain⟨o,e,c,d⟩:=st;exact⟨o,e,λv z=>by rw[d]at z;cases z⟩
 keep:=λi h h' st k=>st.at λo e=>k it (by simp) o e
 item:=by
  intro X hP hw hK hc i pins s σ H E I J st W;subst hP hw hK;obtain⟨xs,x,G,hx⟩:=W;obtain⟨Y,N,p,hz⟩:=I.list G;obtain⟨u,hu,ru⟩:=N.get hx;obtain⟨f0,f1,f2,f3,U,f5⟩:=J it (by simp);refine wpAny_pyNext_list_item st p.isList (x:=u) (by simpa using hu) λh' F sb=>?_
  have I1:Inv X pins σ H {s with heap:=h'}:=I.turned (t':=s.toks) (λb o q e=>(sb.2 b q).trans e) f0 f1 f3 U f5;obtain⟨o,e,c,d⟩:=id F;exact⟨u,rfl,rF (s:={s with heap:=h'}) e c d (by decide) ⟨x,H,I1,ru,⟨rfl,λys hy=>by rw[I.list_inj hy G];exact hx⟩,F,λb q=>(J b q).1⟩⟩
 done:=by
  intro X hP hw hK hc i pins s σ H E I J st W;subst hP hw hK;obtain⟨xs,G,hx⟩:=W;obtain⟨Y,N,p,hz⟩:=I.list G;obtain⟨f0,f1,f2,f3,U,f5⟩:=J it (by simp);have hl:=N.length;exact wpAny_pyNext_list_end (I.ok.hd hc) st p.isList (by simp;lia) λh' eb=>⟨rfl,I.turned (t':=s.toks) (λb o q e=>eb b o q e) f0 f1 f3 U f5⟩
 self:=λ_ _ _ _ _ st h=>wpAny_pyIter_listiter st h
theorem yY{P:XM}{w:World}{K:XF}{tg:Expr}(a it:Addr):Turn P w K tg (WA K a) [it] it (λi h=>h.IsTupleIter it a i) where
 mem:=by simp
 obj:=λi h st b q=>by
  have e:b=it:=by simpa using q
  subst e;obtain⟨o,e,c,d⟩:=st;exact⟨o,e,λv z=>by rw[d]at z;cases z⟩
 keep:=λi h h' st k=>st.at λo e=>k it (by simp) o e
 item:=by
  intro X hP hw hK hc i pins s σ H E I N st Y;subst hP hw hK;obtain⟨xs,x,J,hx⟩:=Y;obtain⟨F,U,p,hz⟩:=I.tuple J;obtain⟨u,hu,ru⟩:=U.get hx;obtain⟨f0,f1,f2,f3,W,f5⟩:=N it (by simp);refine wpAny_pyNext_tuple_item st (show s.heap.IsTuple a F.toArray from p) (x:=u) (by simpa using hu) λh' G sb=>?_
  have I1:Inv X pins σ H {s with heap:=h'}:=I.turned (t':=s.toks) (λb o q e=>(sb.2 b q).trans e) f0 f1 f3 W f5;obtain⟨o,e,c,d⟩:=id G;exact⟨u,rfl,rF (s:={s with heap:=h'}) e c d (by decide) ⟨x,H,I1,ru,⟨rfl,λys hy=>by rw[I.tuple_inj hy J];exact hx⟩,G,λb q=>(N b q).1⟩⟩
 done:=by
  intro X hP hw hK hc i pins s σ H E I N st Y;subst hP hw hK;obtain⟨xs,J,hx⟩:=Y;obtain⟨F,U,p,hz⟩:=I.tuple J;obtain⟨f0,f1,f2,f3,W,f5⟩:=N it (by simp);have hl:=U.length;exact wpAny_pyNext_tuple_end (I.ok.hd hc) st (show s.heap.IsTuple a F.toArray from p) (by simp;lia) λh' eb=>⟨rfl,I.turned (t':=s.toks) (λb o q e=>eb b o q e) f0 f1 f3 W f5⟩
 self:=λ_ _ _ _ _ st h=>wpAny_pyIter_tupleiter st h
theorem yU{P:XM}{w:World}{K:XF}{tg:Expr}(it:Addr)(lo:Int)(n:Nat):Turn P w K tg (UY lo n) [it] it (λi h=>zca h it (lo+(i:Nat)*1) ((n:Int)-(i:Nat)) 1) where
 mem:=by simp
 obj:=λi h st b q=>by
  have e:b=it:=by simpa using q
  subst e;exact⟨_,st,λv z=>by
   have z':Data.fields _=Data.cell v:=z;cases z'⟩
 keep:=λi h h' st k=>k it (by simp) _ st
 item:=by
  intro X N hw Y hc i pins s σ H E I G st hg;subst N hw Y;obtain⟨f0,f1,f2,J,f4,U⟩:=G it (by simp);have W:=Walks.range (prog:=X.prog) (w:=X.w) (I.ok.hd hc) it lo 1 n;refine W.item i s _ _ hg st λv h' tk hv F kk=>?_
  obtain⟨t,rfl⟩:=hv;have I1:Inv X pins σ H {s with heap:=h',toks:=tk}:=I.turned (λb o q e=>kk b o (by simpa using q) e) f0 f1 J f4 U;refine⟨_,rfl,rF (s:={s with heap:=h',toks:=tk}) (n := "range_iterator") F rfl rfl (by decide) ⟨.int (lo+i),H,I1,⟨t,?_⟩,⟨rfl,rfl⟩,F,λb q=>(G b q).1⟩⟩;rw[Int.mul_one]
 done:=by
  intro X N hw Y hc i pins s σ H E I G st hg;subst N hw Y;obtain⟨f0,f1,f2,J,f4,U⟩:=G it (by simp);exact wpAny_pyNext_range_end (I.ok.hd hc) st (by have:n<=i:=hg;lia) λh' eb=>⟨rfl,I.turned (t':=s.toks) (λb o q e=>eb b o q e) f0 f1 J f4 U⟩
 self:=λ_ _ _ _ _ st h=>wpAny_pyIter_rangeiter st h
section
variable {X:Cx}{tg:Expr}
def S2(K:XF)(tl:TE):TI:=λσ H R=>tl σ H λx H1=>∃a,x=.ref a/\(∃xs,SqL K H1 a xs)/\R (WF K a) H1
def V6(K:XF)(tl:TE):TI:=λσ H R=>tl σ H λx H1=>∃a,x=.ref a/\(∃xs,SqT K H1 a xs)/\R (WA K a) H1
theorem LB{l:Expr}{tl:TE}(J:PE X l tl):PI X tg l (S2 X.K tl):=by
 intro pins s σ H R I h;refine bX (J pins s σ H _ I h) λv F ⟨x,H1,G,r1,N⟩=>?_
 obtain⟨a,e,⟨xs,Y⟩,q⟩:=N;subst e;cases r1;obtain⟨W,rv,p,hz⟩:=G.list Y;refine zcX p.isList ?_;refine⟨F.heap.objs.size,[F.heap.objs.size],_,_,H1,rfl,G.kept (t':=F.toks) λb o e=>XT _ e,DY a _,⟨_,X9 _ rfl,rfl,rfl⟩,λb U=>?_,q⟩;have e:b=F.heap.objs.size:=by simpa using U
 subst e;exact G.fpOk (XU _) (G.hok.fresh (XU _))
theorem OJ{l:Expr}{tl:TE}(N:PE X l tl):PI X tg l (V6 X.K tl):=by
 intro pins s σ H R I h;refine bX (N pins s σ H _ I h) λv F ⟨x,H1,G,r1,U⟩=>?_
 obtain⟨a,e,⟨xs,Y⟩,q⟩:=U;subst e;cases r1;obtain⟨J,rv,p,hz⟩:=G.tuple Y;refine zbz (show F.heap.IsTuple a J.toArray from p) ?_;refine⟨F.heap.objs.size,[F.heap.objs.size],_,_,H1,rfl,G.kept (t':=F.toks) λb o e=>XT _ e,yY a _,⟨_,X9 _ rfl,rfl,rfl⟩,λb W=>?_,q⟩;have e:b=F.heap.objs.size:=by simpa using W
 subst e;exact G.fpOk (XU _) (G.hok.fresh (XU _))
theorem FJ{pins:List (Addr×Obj)}{σ:St}{H:Hp}{s:XE}{R:It->Hp->Prop}{E:Value->XE->Prop}{lo hi:Int}{t u v:Tok}{tk:Nat}(I:Inv X pins σ H s)(h1:-(2^62)<=lo)(h2:lo<2^62)(G:-(2^62)<=hi)(U:hi<2^62)
  (q:R (UY lo (hi-lo).toNat) H):wpAny (model X.prog X.w) X.A (pyIter (.ref s.heap.objs.size)) (PIE X pins σ tg R) E {s with heap:=s.heap.push {cls:=.type "range",data:=.fields #[.int lo t,.int hi u,.int 1 v]},toks:=tk}:=by
 refine wpAny_pyIter_range (IsRange.new ..) (small_one h1 h2 G U) ?_;have F:Inv X pins σ H {s with heap:=s.heap.push {cls:=.type "range",data:=.fields #[.int lo t,.int hi u,.int 1 v]},toks:=tk}:=I.kept λb o e=>XT _ e
 refine⟨(s.heap.push {cls:=.type "range",data:=.fields #[.int lo t,.int hi u,.int 1 v]}).objs.size,[(s.heap.push {cls:=.type "range",data:=.fields #[.int lo t,.int hi u,.int 1 v]}).objs.size],_,_,H,rfl,
  F.kept (t':=tk) λb o e=>XT _ e,yU _ lo (hi-lo).toNat,?_,λb W=>?_,q⟩
 ·have J:lo+((0:Nat):Int)*1=lo:=by simp
  have N:(((hi-lo).toNat:Nat):Int)-((0:Nat):Int)=zat lo hi 1:=by rw[rangeSize_one];split <;> lia
  show zca _ _ (lo+((0:Nat):Int)*1) ((((hi-lo).toNat:Nat):Int)-((0:Nat):Int)) 1;rw[J,N];exact X9 _ rfl
 ·have e:b=(s.heap.push {cls:=.type "range",data:=.fields #[.int lo t,.int hi u,.int 1 v]}).objs.size:=by simpa using W
  subst e;exact F.fpOk (XU _) (F.hok.fresh (XU _))
def S9(ta:TA):TI:=λσ H R=>ta σ H λvs H1=>∃j:Int,vs=[.int j]/\-(2^62)<=j/\j<2^62/\R (UY 0 j.toNat) H1
theorem CV{a:Expr}{ta:TA}{p pos:Pos}(U:Gl X "range")(J:X.mg "range" = none)(G:PA X [a] ta)(hs:XI [a] X.env=[(false,eval a X.env)]:=by rfl):PI X tg (.Call (.Name "range" p) [a] [] pos) (S9 ta):=by
 intro pins s σ H R I h;refine Call_ (mO I U J boot_range (zcb (bX (G pos pins s σ H _ I h) λus s1 ⟨vs,H1,W,Y,F⟩=>?_) hs rfl));obtain⟨j,e,F,N,q⟩:=F;subst e;cases Y with
 | cons r rr=>
  cases rr;obtain⟨t,rfl⟩:=r;exact call_range_1 (FJ W (by lia) (by lia) F N (by simpa using q))
def V3(wi:TI)(g:TG)(tb:TS):TS:=λD σ H=>wi σ H λJ H1=>∃W:Nat->Nat->St->Hp->Prop,(∃m,W 0 m σ H1)/\∀i m σ H,W i m σ H->
 (J.stop i H/\D.nx σ H)\/(J.go i H/\∃N:St->Hp->Prop,(∀q H',N q H'->∃G,G<m/\W (i+1) G q H')/\∀x H',J.yld i H x H'->g x σ H' λF H2=>tb {D with nx:=N,ct:=N,bk:=D.nx} F H2)
noncomputable def qX(fp:List Addr)(h:Heap):List (Addr×Obj):=fp.filterMap λb=>(h.get? b).map λo=>(b,o)
theorem hV(q:b∈fp)(e:h.get? b=some o):(b,o)∈qX fp h:=List.mem_filterMap.mpr ⟨b,q,by rw[e];rfl⟩
theorem DH(F:p∈qX fp h):p.1∈fp/\h.get? p.1=some p.2:=by
 obtain⟨b,G,e⟩:=List.mem_filterMap.mp F;cases q:h.get? b with
 | none=>rw[q]at e;cases e
 | some o=>
  rw[q]at e;have J:(b,o)=p:=YJ e;subst J;exact⟨G,q⟩
theorem Inv.pinned(I:Inv X pins σ H s)(G:∀b∈fp,jU X pins H b)(N:∀b∈fp,∃o,s.heap.get? b=some o/\∀v,o.data≠.cell v):Inv X (pins++qX fp s.heap) σ H s:=
 I.pins_of λp J=>(List.mem_append.mp J).elim (λz=>I.pin p (ZY _ z)) λz=>by
  obtain⟨q,e⟩:=DH z;obtain⟨f0,W,U,_⟩:=G p.1 q;obtain⟨o,F,d⟩:=N p.1 q;rw[e]at F;cases F;exact⟨e,f0,W,U,d⟩
theorem Inv.unpinned(I:Inv X (pins++pl) σ H s):Inv X pins σ H s:=I.pins_of λp q=>I.pin p (ZY _ (Z4 _ q))
theorem GW{ad:Expr}{body:List Stmt}{wi:TI}{g:TG}{tb:TS}{pos:Pos}(hp:PassesOwn (model X.prog X.w) X.A X.env X.xe)(hc:X.calm=true)(hi:PI X tg ad wi)(hg:PG X tg g)(U:PSs X body tb)
  (hs:∀x,zaf ad X.env x=pure x:=by intro _;rfl):PS X (.For tg ad body [] pos) (V3 wi g tb):=by
 intro pins s σ H D I h;refine wpAny_For (bX (hi pins s σ H _ I h) λv s1 h1=>bX h1 λbp s2 h2=>?_) hs;obtain⟨it,fp,tn,J,H2,e,I2,T,ap,f2,W,⟨m0,w0⟩,turn⟩:=h2;subst e
 -- what stays true of the iterator's objects through the loop
 have Y:∀ {H':Hp},(∀b∈fp,H' b=none)->∀b∈fp,jU X pins H' b:=λhn b U=>⟨hn b U,(f2 b U).2⟩
 refine codeAny_forLoop_any (λn s'=>∃i ac H',Inv X pins ac H' s'/\tn i s'.heap/\(∀b∈fp,H' b=none)/\W i n ac H') ?_ m0 ⟨0,σ,H2,I2,ap,λb U=>(f2 b U).1,w0⟩;rintro n s3 ⟨i,ab,H3,I3,ai,ag,w3⟩;rcases turn i n ab H3 w3 with⟨aj,qn⟩|⟨go,N,hN,step⟩
 ·refine zbA hp (bX (T.done X rfl rfl rfl hc i pins s3 ab H3 X.xe I3 (Y ag) ai aj) λr s4 ⟨hr,I4⟩=>?_)
  subst hr;exact zby ⟨ab,H3,I4,qn⟩
 ·refine zbA hp (bX (T.item X rfl rfl rfl hc i pins s3 ab H3 X.xe I3 (Y ag) ai go) λr s4 ⟨u,hr,h4⟩=>?_)
  subst hr;refine zbA hp (bX h4 λ_ s5 ⟨x,H5,I5,r5,y5,af,an⟩=>?_);have ar:=I5.pinned (Y an) (T.obj _ _ af);refine zbA hp (bX (hg _ s5 ab H5 x u _ ar r5 (step x H5 y5)) λ_ s6 ⟨ao,H6,I6,q6⟩=>?_);refine zbA hp (bX (U _ s6 ao H6 _ I6 q6) λf s7 q7=>?_);have G:∀ {q:St} {H7:Hp},Inv X (pins++qX fp s5.heap) q H7 s7->N q H7->∃m,m<n/\∃i ac H',Inv X pins ac H' s7/\tn i s7.heap/\(∀b∈fp,H' b=none)/\W i m ac H':=λ{q H7} F n7=>by
   obtain⟨m',hm,w7⟩:=hN q H7 n7;refine⟨m',hm,i+1,q,H7,F.unpinned,T.keep _ _ _ af λb U o e=>(F.pin (b,o) (ZY _ (ZY _ (hV U e)))).1,λb U=>?_,w7⟩;obtain⟨o,e,d⟩:=T.obj _ _ af b U;exact(F.pin (b,o) (ZY _ (ZY _ (hV U e)))).2.1
  cases f with
  | next=>obtain⟨q,H7,F,n7⟩:=q7;exact G F n7
  | cont=>obtain⟨q,H7,F,n7⟩:=q7;exact G F n7
  | brk=>obtain⟨q,H7,F,q7⟩:=q7;exact⟨q,H7,F.unpinned,q7⟩
  | ret v=>obtain⟨x7,q,H7,F,r7,q7⟩:=q7;exact⟨x7,q,H7,F.unpinned,r7,q7⟩
end
abbrev R2:=V->V->Hp->VK->Prop
def OpR(X:Cx)(f:Value->Value->Sem Value)(r:R2):Prop:=
 ∀(pins:List (Addr×Obj)) (s:XE) (σ:St) (H:Hp) (x y:V) (v u:Value) (Q:VK),Inv X pins σ H s->RelV x v->RelV y u->r x y H Q->
  wpAny (model X.prog X.w) X.A (f v u) (EP X pins σ Q) X.xe s
def WH(X:Cx)(f:Value->Sem Value)(r:V->Hp->VK->Prop):Prop:=
 ∀(pins:List (Addr×Obj)) (s:XE) (σ:St) (H:Hp) (x:V) (v:Value) (Q:VK),Inv X pins σ H s->RelV x v->r x H Q->
  wpAny (model X.prog X.w) X.A (f v) (EP X pins σ Q) X.xe s
def CallR(X:Cx)(f:Value)(r:List V->Hp->VK->Prop):Prop:=
 ∀(pins:List (Addr×Obj)) (s:XE) (σ:St) (H:Hp) (xs:List V) (us:List Value) (Q:VK),Inv X pins σ H s->Vals xs us->r xs H Q->
  wpAny (model X.prog X.w) X.A (call f us) (EP X pins σ Q) X.xe s
def RM(r:R2)(ta tb:TE):TE:=λσ H Q=>ta σ H λx H1=>tb σ H1 λy H2=>r x y H2 Q
def WS(r:V->Hp->VK->Prop)(ta:TE):TE:=λσ H Q=>ta σ H λx H1=>r x H1 Q
def rI(C:Int->Int->Prop)(g:Int->Int->V):R2:=λx y H Q=>∃i j,x=.int i/\y=.int j/\C i j/\Q (g i j) H
def M1(g:Int->Int->V):R2:=λx y H Q=>∃i j,x=.int i/\y=.int j/\Q (g i j) H
def rU(g:Int->V):V->Hp->VK->Prop:=λx H Q=>∃i,x=.int i/\Q (g i) H
section
variable {X:Cx}{a b c:Expr}{ta tb tc:TE}{pos:Pos}
theorem Q1(Y:PE X a ta)(W:PE X b tb){pins:List (Addr×Obj)}{s:XE}{σ:St}{H:Hp}{R:V->V->Hp->Prop}(I:Inv X pins σ H s)
  (h:ta σ H λx H1=>tb σ H1 λy H2=>R x y H2) {Q:Value->XE->Prop} {f:Value->Value->Sem Value}
  (U:∀v u G x y H2,Inv X pins σ H2 G->RelV x v->RelV y u->R x y H2->wpAny (model X.prog X.w) X.A (f v u) Q X.xe G) :
  wpAny (model X.prog X.w) X.A (eval a X.env) (λv F=>wpAny (model X.prog X.w) X.A (eval b X.env) (λu q=>wpAny (model X.prog X.w) X.A (f v u) Q X.xe q) X.xe F) X.xe s:=by
 refine bX (Y pins s σ H _ I h) λv J ⟨x,H1,I1,r1,N⟩=>?_
 refine bX (W pins J σ H1 _ I1 N) λu G ⟨y,H2,I2,r2,q2⟩=>?_
 exact U v u G x y H2 I2 r1 r2 q2
theorem M5{op:Operator}{r:R2}(U:OpR X (YT op) r)(J:PE X a ta)(F:PE X b tb):PE X (.BinOp a op b pos) (RM r ta tb):=by
 intro pins s σ H Q I h;exact wpAny_BinOp (Q1 J F I h λv u G x y H2 N Y W q=>U pins G σ H2 x y v u Q N Y W q)
theorem SD{op:UnaryOp}{r:V->Hp->VK->Prop}(J:WH X (unaryOp op) r)(G:PE X a ta):PE X (.UnaryOp op a pos) (WS r ta):=by
 intro pins s σ H Q I h;exact UnaryOp_ (bX (G pins s σ H _ I h) λv q ⟨x,H1,N,U,F⟩=>J pins q σ H1 x v Q N U F)
theorem UO{f:Value->Value->Sem Value}{C:Int->Int->Prop}{g:Int->Int->Int}
  (F:∀(i j:Int) (t u:Tok) (s:XE) (Q:Value->XE->Prop) (E:Value->XE->Prop),C i j->Q (.int (g i j) s.toks) {s with toks:=s.toks+1}->wpAny (model X.prog X.w) X.A (f (.int i t) (.int j u)) Q E s) :
  OpR X f (rI C λi j=>.int (g i j)):=by
 intro pins s σ H x y v u Q I G N h;obtain⟨i,j,rfl,rfl,J,q⟩:=h;obtain⟨t,rfl⟩:=G;obtain⟨t',rfl⟩:=N;exact F i j t t' s _ _ J ⟨.int (g i j),H,I.tok _,⟨_,rfl⟩,q⟩
theorem T3{f:Value->Value->Sem Value}{g:Int->Int->Int}
  (F:∀(i j:Int) (t u:Tok) (s:XE) (Q:Value->XE->Prop) (E:Value->XE->Prop),Q (.int (g i j) s.toks) {s with toks:=s.toks+1}->wpAny (model X.prog X.w) X.A (f (.int i t) (.int j u)) Q E s) :
  OpR X f (M1 λi j=>.int (g i j)):=by
 intro pins s σ H x y v u Q I G J h;obtain⟨i,j,rfl,rfl,q⟩:=h;obtain⟨t,rfl⟩:=G;obtain⟨t',rfl⟩:=J;exact F i j t t' s _ _ ⟨.int (g i j),H,I.tok _,⟨_,rfl⟩,q⟩
theorem Q2{f:Value->Value->Sem Value}{g:Int->Int->Bool}
  (F:∀(i j:Int) (t u:Tok) (s:XE) (Q:Value->XE->Prop) (E:Value->XE->Prop),Q (.bool (g i j)) s->wpAny (model X.prog X.w) X.A (f (.int i t) (.int j u)) Q E s) :
  OpR X f (M1 λi j=>.bl (g i j)):=by
 intro pins s σ H x y v u Q I G J h;obtain⟨i,j,rfl,rfl,q⟩:=h;obtain⟨t,rfl⟩:=G;obtain⟨t',rfl⟩:=J;exact F i j t t' s _ _ ⟨.bl (g i j),H,I,rfl,q⟩
def MW(i j:Int):Prop:=0<j/\j<1073741824
def MQ(i j:Int):Prop:=0<=j/\j<=1000000/\i.natAbs<2^64
theorem OT:OpR X (YT .Add) (M1 λi j=>.int (i+j)):=T3 λ_ _ _ _ _ _ _ q=>add_int q
theorem OO:OpR X (YT .Sub) (M1 λi j=>.int (i-j)):=T3 λ_ _ _ _ _ _ _ q=>sub_int q
theorem JN:OpR X (YT .FloorDiv) (rI MW λi j=>.int (i/j)):=UO λi j _ _ _ _ _ F q=>by
 have h1:(0:Int)<j:=F.1;have h2:j<1073741824:=F.2;exact floordiv_int (by lia) (by rw[Int.fdiv_eq_ediv_of_nonneg i (by lia)];exact q) (.inl (PyProof.noPylong_small (by lia)))
theorem N6:OpR X (YT .Mod) (rI (λ_ j=>0<j) λi j=>.int (i%j)):=UO λi j _ _ _ _ _ F q=>by
 have h1:(0:Int)<j:=F;exact mod_int' (by lia) (by rw[Int.fmod_eq_emod_of_nonneg i (by lia)];exact q)
theorem QB:OpR X (YT .Pow) (rI MQ λi j=>.int (i^j.toNat)):=UO λ_ _ _ _ _ _ _ F q=>pow_int_small F.1 F.2.1 F.2.2 q
theorem W4{f:Value->Sem Value}{g:Int->Int}
  (F:∀(i:Int) (t:Tok) (s:XE) (Q:Value->XE->Prop) (E:Value->XE->Prop),Q (.int (g i) s.toks) {s with toks:=s.toks+1}->wpAny (model X.prog X.w) X.A (f (.int i t)) Q E s) :
  WH X f (rU λi=>.int (g i)):=by
 intro pins s σ H x v Q I G h;obtain⟨i,rfl,q⟩:=h;obtain⟨t,rfl⟩:=G;exact F i t s _ _ ⟨.int (g i),H,I.tok _,⟨_,rfl⟩,q⟩
theorem ON:WH X (unaryOp .USub) (rU λi=>.int (-i)):=W4 λ_ _ _ _ _ q=>neg_int q
end
noncomputable def Q6:V->V->Bool
 | .non,.non=>true | .non,.int _=>true | .int _,.non=>true | .non,.bl _=>true | .bl _,.non=>true | .non,.str _=>true | .str _,.non=>true
 | .int _,.int _=>true | .bl _,.bl _=>true | .str _,.str _=>true | .byt _,.byt _=>true
 | .int _,.str _=>true | .str _,.int _=>true | .bl _,.str _=>true | .str _,.bl _=>true
 | _,_=>false
def XA:R2:=λx y H Q=>Q6 x y=true/\Q (.bl (decide (x=y))) H
def W7:R2:=λx y H Q=>Q6 x y=true/\Q (.bl (!decide (x=y))) H
theorem BO:decide (V.int i=V.int j)=(i == j):=by
 rw[za5];simp
theorem HV:decide (V.bl i=V.bl j)=(i == j):=by
 rw[za5];simp
theorem A3:decide (V.str i=V.str j)=(i == j):=by
 rw[za5];simp
theorem AO:decide (V.byt i=V.byt j)=(i.toList == j.toList):=by
 rw[za5];cases i;cases j;simp
section
variable {X:Cx}{a b c:Expr}{ta tb tc:TE}{pos:Pos}
theorem bC(I:Inv X pins σ H s)(q:Q (.bl k) H)(e:k=k'):EP X pins σ Q (.bool k') s:=by
 subst e;exact⟨.bl k,H,I,rfl,q⟩
theorem S8:OpR X (XY .Eq) XA:=by
 intro pins s σ H x y v u Q I G F h;obtain⟨hs,q⟩:=h;cases x with
 | non=>
  cases G;cases y with
  | non=>cases F;exact PySem.EqNone.eq_none_none (bC I q (by simp))
  | bl j=>cases F;exact PySem.EqNone.eq_none_bool (bC I q (by simp))
  | int j=>obtain⟨t',rfl⟩:=F;exact PySem.EqNone.eq_none_int (bC I q (by simp))
  | str j=>obtain⟨t',rfl⟩:=F;exact PySem.EqNone.eq_none_str (bC I q (by simp))
  | _=>exact absurd (show false=true from hs) XZ
 | bl i=>
  cases G;cases y with
  | non=>cases F;exact PySem.EqNone.eq_bool_none (bC I q (by simp))
  | bl j=>cases F;exact eq_bool (bC I q HV)
  | str j=>obtain⟨t',rfl⟩:=F;exact PySem.EqMixed.eq_bool_str (bC I q (by simp))
  | _=>exact absurd (show false=true from hs) XZ
 | int i=>
  obtain⟨t,rfl⟩:=G;cases y with
  | non=>cases F;exact PySem.EqNone.eq_int_none (bC I q (by simp))
  | int j=>obtain⟨t',rfl⟩:=F;exact eq_int (bC I q BO)
  | str j=>obtain⟨t',rfl⟩:=F;exact PySem.EqMixed.eq_int_str (bC I q (by simp))
  | _=>exact absurd (show false=true from hs) XZ
 | str i=>
  obtain⟨t,rfl⟩:=G;cases y with
  | non=>cases F;exact PySem.EqNone.eq_str_none (bC I q (by simp))
  | bl j=>cases F;exact PySem.EqMixed.eq_str_bool (bC I q (by simp))
  | int j=>obtain⟨t',rfl⟩:=F;exact PySem.EqMixed.eq_str_int (bC I q (by simp))
  | str j=>obtain⟨t',rfl⟩:=F;exact eq_str (bC I q A3)
  | _=>exact absurd (show false=true from hs) XZ
 | byt i=>
  obtain⟨t,rfl⟩:=G;cases y with
  | byt j=>obtain⟨t',rfl⟩:=F;exact PySem.W.eq_bytes (bC I q AO)
  | _=>exact absurd (show false=true from hs) XZ
 | _=>cases y <;> exact absurd (show false=true from hs) XZ
theorem SJ:OpR X (XY .NotEq) W7:=by
 intro pins s σ H x y v u Q I G F h;obtain⟨hs,q⟩:=h;cases x with
 | non=>
  cases G;cases y with
  | non=>cases F;exact PySem.EqNone.ne_none_none (bC I q (by simp))
  | bl j=>cases F;exact PySem.EqNone.ne_none_bool (bC I q (by simp))
  | int j=>obtain⟨t',rfl⟩:=F;exact PySem.EqNone.ne_none_int (bC I q (by simp))
  | str j=>obtain⟨t',rfl⟩:=F;exact PySem.EqNone.ne_none_str (bC I q (by simp))
  | _=>exact absurd (show false=true from hs) XZ
 | bl i=>
  cases G;cases y with
  | non=>cases F;exact PySem.EqNone.ne_bool_none (bC I q (by simp))
  | bl j=>cases F;exact ne_bool (bC I q (congrArg not HV))
  | str j=>obtain⟨t',rfl⟩:=F;exact PySem.EqMixed.ne_bool_str (bC I q (by simp))
  | _=>exact absurd (show false=true from hs) XZ
 | int i=>
  obtain⟨t,rfl⟩:=G;cases y with
  | non=>cases F;exact PySem.EqNone.ne_int_none (bC I q (by simp))
  | int j=>obtain⟨t',rfl⟩:=F;exact ne_int (bC I q (congrArg not BO))
  | str j=>obtain⟨t',rfl⟩:=F;exact PySem.EqMixed.ne_int_str (bC I q (by simp))
  | _=>exact absurd (show false=true from hs) XZ
 | str i=>
  obtain⟨t,rfl⟩:=G;cases y with
  | non=>cases F;exact PySem.EqNone.ne_str_none (bC I q (by simp))
  | bl j=>cases F;exact PySem.EqMixed.ne_str_bool (bC I q (by simp))
  | int j=>obtain⟨t',rfl⟩:=F;exact PySem.EqMixed.ne_str_int (bC I q (by simp))
  | str j=>obtain⟨t',rfl⟩:=F;exact ne_str (bC I q (congrArg not A3))
  | _=>exact absurd (show false=true from hs) XZ
 | byt i=>
  obtain⟨t,rfl⟩:=G;cases y with
  | byt j=>obtain⟨t',rfl⟩:=F;exact PySem.W.ne_bytes (bC I q (congrArg not AO))
  | _=>exact absurd (show false=true from hs) XZ
 | _=>cases y <;> exact absurd (show false=true from hs) XZ
theorem R4:OpR X (XY .Lt) (M1 λi j=>.bl (decide (i<j))):=Q2 λ_ _ _ _ _ _ _ q=>lt_int q
theorem RT:OpR X (XY .LtE) (M1 λi j=>.bl (decide (i<=j))):=Q2 λ_ _ _ _ _ _ _ q=>le_int q
theorem S4:OpR X (XY .Gt) (M1 λi j=>.bl (decide (j<i))):=Q2 λ_ _ _ _ _ _ _ q=>gt_int q
theorem CQ:OpR X (XY .In) (λx y H Q=>∃i j,x=.str i/\y=.str j/\Q (.bl (!(Builtin.Str.occurrences j i 0 j.length 1).isEmpty)) H):=by
 intro pins s σ H x y v u Q I F G h;obtain⟨i,j,rfl,rfl,q⟩:=h;obtain⟨t,rfl⟩:=F;obtain⟨t',rfl⟩:=G;exact in_str (bC I q rfl)
theorem OpR.or(h:OpR X f r)(h':OpR X f r'):OpR X f (λx y H Q=>r x y H Q\/r' x y H Q):=by
 intro pins s σ H x y v u Q I F G q;rcases q with q|q
 ·exact h pins s σ H x y v u Q I F G q
 ·exact h' pins s σ H x y v u Q I F G q
theorem vZ(b:Expr)(h:op≠.In:=by decide)(h2:op≠.NotIn:=by decide):zau op b=false:=by
 have F:(op == CmpOp.In)=false:=by cases op <;> first|rfl|exact absurd rfl h
 have q:(op == CmpOp.NotIn)=false:=by cases op <;> first|rfl|exact absurd rfl h2
 cases b <;> simp[zau,F,q]
theorem K5(U:OpR X (XY op) r)(J:PE X a ta)(F:PE X b tb)(N:zau op b=false):PE X (.Compare a [op] [b] pos) (RM r ta tb):=by
 intro pins s σ H Q I h;exact wpAny_Compare1 (Q1 J F I h λv u G x y H2 W rx Y q=>U pins G σ H2 x y v u Q W rx Y q) N
def IQ(t:TE):TT:=λσ H Q=>t σ H λx H'=>∃k,x=.bl k/\Q k H'
theorem BA{op:CmpOp}{r:R2}(ho:OpR X (XY op) r)(W:PE X a ta)(N:PE X b tb)(Y:zau op b=false):PT X (.Compare a [op] [b] pos) (IQ (RM r ta tb)):=by
 intro pins s σ H Q I h;refine wpAny_isTrue_Compare1 (bX (W pins s σ H _ I h) λv q ⟨x,H1,I1,r1,F⟩=>bX (N pins q σ H1 _ I1 F) λu J ⟨y,H2,I2,r2,q2⟩=>
  bX (ho pins J σ H2 x y v u _ I2 r1 r2 q2) λc s3 ⟨z,H3,U,G,k,e,q3⟩=>?_) Y
 subst e;cases G;exact ZT ⟨H3,U,q3⟩
def zS(r F:R2)(ta tb tc:TE):TE:=λσ H Q=>ta σ H λx H1=>tb σ H1 λy H2=>r x y H2 λz q=>∃k,z=.bl k /\
 (if k=true then tc σ q λJ G=>F y J G Q else Q (.bl false) q)
theorem FY{op q:CmpOp}{r N:R2}(ho:OpR X (XY op) r)(F:OpR X (XY q) N)(ha:PE X a ta)(hb:PE X b tb)(hc:PE X c tc)
  (hm:za6 [op,q] [b,c]=false:=by with_unfolding_all rfl):PE X (.Compare a [op,q] [b,c] pos) (zS r N ta tb tc):=by
 intro pins s σ H Q I h;refine Compare_chain (bX (ha pins s σ H _ I h) λv Y ⟨x,H1,I1,r1,q1⟩=>chain_link (bX (hb pins Y σ H1 _ I1 q1) λu s2 ⟨y,H2,I2,J,q2⟩=>
  bX (ho pins s2 σ H2 x y v u _ I2 r1 J q2) λd s3 ⟨z,U,G,r3,k,e,W⟩=>?_)) hm
 subst e;cases r3;refine ZT ?_;cases k with
 | false=>exact ite_ff ⟨.bl false,U,G,rfl,W⟩
 | true=>exact ite_tt (chain_last (bX (hc pins s3 σ U _ G W) λw' s4 ⟨z',H4,I4,r4,q4⟩=>F pins s4 σ H4 y z' u w' Q I4 J r4 q4))
theorem E6{op q:CmpOp}{r N:R2}(ho:OpR X (XY op) r)(F:OpR X (XY q) N)(ha:PE X a ta)(hb:PE X b tb)(hc:PE X c tc)
  (hm:za6 [op,q] [b,c]=false:=by with_unfolding_all rfl):PT X (.Compare a [op,q] [b,c] pos) (IQ (zS r N ta tb tc)):=by
 intro pins s σ H Q I h;refine isTrue_chain (bX (ha pins s σ H _ I h) λv Y ⟨x,H1,I1,r1,q1⟩=>test_link (bX (hb pins Y σ H1 _ I1 q1) λu s2 ⟨y,H2,I2,J,q2⟩=>
  bX (ho pins s2 σ H2 x y v u _ I2 r1 J q2) λd s3 ⟨z,U,G,r3,k,e,W⟩=>?_)) hm
 subst e;cases r3;refine ZT ?_;cases k with
 | false=>
  obtain⟨k',e',q'⟩:=W;cases e';exact ite_ff ⟨U,G,q'⟩
 | true=>
  refine ite_tt (test_last (bX (hc pins s3 σ U _ G W) λw' s4 ⟨z',H4,I4,r4,q4⟩=>bX (F pins s4 σ H4 y z' u w' _ I4 J r4 q4) λd' s5 ⟨z2,H5,I5,r5,k2,e2,q5⟩=>?_));subst e2;cases r5;exact ZT ⟨H5,I5,q5⟩
theorem qU:(XQ:Nat)<2^63:=by rw[zaH];decide
theorem yP:OpR X (YT .Add) (λx y H Q=>∃i j,x=.str i/\y=.str j/\i.length+j.length<=XQ/\Q (.str (i++j)) H):=by
 intro pins s σ H x y v u Q I F G h;obtain⟨i,j,rfl,rfl,hz,q⟩:=h;obtain⟨t,rfl⟩:=F;obtain⟨t',rfl⟩:=G;exact add_str (λt' tk=>⟨.str (i++j),H,I.tok _,⟨_,rfl⟩,q⟩) hz
theorem vals1(r:Vals [x] us):∃u,us=[u]/\RelV x u:=by
 cases r with
 | cons r1 r2=>cases r2;exact⟨_,rfl,r1⟩
theorem vals2(r:Vals [x,y] us):∃u q,us=[u,q]/\RelV x u/\RelV y q:=by
 cases r with
 | cons r1 r2=>
  cases r2 with
  | cons r3 r4=>cases r4;exact⟨_,_,rfl,r1,r3⟩
theorem DB(G:X.calm=true):CallR X (.builtin "max") (λxs H Q=>∃i j,xs=[.int i,.int j]/\Q (.int (if j>i then j else i)) H):=by
 intro pins s σ H xs J Q I r h;obtain⟨i,j,rfl,q⟩:=h;obtain⟨u,N,rfl,⟨t,rfl⟩,⟨t',rfl⟩⟩:=vals2 r;refine max_two_ints (I.ok.hd G) λh' tk k=>⟨_,H,I.kept k,?_,q⟩
 by_cases F:j>i
 ·rw[if_pos F,if_pos F];exact⟨_,rfl⟩
 ·rw[if_neg F,if_neg F];exact⟨_,rfl⟩
theorem D4(G:X.calm=true):CallR X (.builtin "min") (λxs H Q=>∃i j,xs=[.int i,.int j]/\Q (.int (if j<i then j else i)) H):=by
 intro pins s σ H xs J Q I r h;obtain⟨i,j,rfl,q⟩:=h;obtain⟨u,N,rfl,⟨t,rfl⟩,⟨t',rfl⟩⟩:=vals2 r;refine min_two_ints (I.ok.hd G) λh' tk k=>⟨_,H,I.kept k,?_,q⟩
 by_cases F:j<i
 ·rw[if_pos F,if_pos F];exact⟨_,rfl⟩
 ·rw[if_neg F,if_neg F];exact⟨_,rfl⟩
def U3(K:XF)(x:V)(H:Hp)(n:Nat):Prop:=
 match x with
 | .str y=>y.length<=XQ/\n=y.length
 | .byt y=>y.size<=XQ/\n=y.size
 | .ref p=>(∃xs,SqL K H p xs/\n=xs.length)\/∃xs,SqT K H p xs/\n=xs.length
 | _=>False
theorem p5:CallR X (.builtin "len") (λxs H Q=>∃x n,xs=[x]/\U3 X.K x H n/\Q (.int n) H):=by
 intro pins s σ H xs us Q I r h;obtain⟨x,n,rfl,e,q⟩:=h;obtain⟨u,rfl,U⟩:=vals1 r;have hl:=qU;have hs:XQ=16777216:=zaH;cases x with
 | str y=>
  obtain⟨t,rfl⟩:=U;obtain⟨hy,G⟩:y.length<=XQ/\n=y.length:=e;subst G;exact len_str (by lia) ⟨.int _,H,I.tok _,⟨_,rfl⟩,q⟩
 | byt y=>
  obtain⟨t,rfl⟩:=U;obtain⟨hy,G⟩:y.size<=XQ/\n=y.size:=e;subst G;exact PySem.W.len_bytes (by lia) ⟨.int _,H,I.tok _,⟨_,rfl⟩,q⟩
 | ref p=>
  cases U;have G:(∃xs,SqL X.K H p xs/\n=xs.length)\/∃xs,SqT X.K H p xs/\n=xs.length:=e;rcases G with⟨xs,Y,G⟩|⟨xs,Y,G⟩
  ·subst G
   obtain⟨N,J,pl,hz⟩:=I.list Y;have F:=J.length;exact Calls.call_len_list pl.isList (by simp only[XX];lia) ⟨.int xs.length,H,I.tok _,⟨_,by simp only[XX];rw[F]⟩,q⟩
  ·subst G
   obtain⟨N,J,pl,hz⟩:=I.tuple Y;have F:=J.length;exact len_tuple pl (by simp only[XX];lia) ⟨.int xs.length,H,I.tok _,⟨_,by simp only[XX];rw[F]⟩,q⟩
 | _=>exact(show False from e).elim
end
structure ObjM(h:Heap)(x dx C:Addr)(mA:Str->Option Value):Prop where
 obj:h.get? x=some (zcQ C dx)
 ns:h.Ns1 dx mA
 ne:dx≠x
theorem DW{h:Heap}{dx:Addr}{mA:Str->Option Value}(n:h.Ns1 dx mA):∃od,h.get? dx=some od/\∀name,PySem.W.lookIn name od=some (mA name):=by
 obtain⟨o,es,ep,Y,J,hk,_,U⟩:=n;refine⟨o,Y,λname=>?_⟩;have e:=U name;unfold nsFind findBy at e;rw[<- Array.find?_toList]at e;unfold PySem.W.lookIn;rw[J];dsimp only;split
 ·rename_i y q
  rw[q]at e;exact congrArg some e
 ·rename_i q
  rw[q]at e;have a:es.toList.any (·.refKey)=false:=by
   rw[List.any_eq_false];intro y N;obtain⟨z,t,F⟩:=hk y (Array.mem_toList_iff.mp N);simp[DictEntry.refKey,F]
  have G:¬ es.toList.any (·.refKey)=true:=by rw[a];exact XZ
  rw[if_neg G];exact congrArg some e
theorem ObjM.look(I:ObjM h x dx C mA):∃od,PySem.W.InstAt h x (zcQ C dx) C (some od)/\∀name,PySem.W.lookIn name od=some (mA name):=
 let ⟨od,ho,hl⟩:=DW I.ns
 ⟨od,⟨I.obj,rfl,rfl,ho⟩,hl⟩
section
variable {prog:XM}{w:World}{A:XS}{E:Value->XE->Prop}{s:XE}{K:XF}{x dx C f:Addr}{mA:Str->Option Value}{name:Str}{v:Value}
end
theorem RelO.some_of(r:RelO (some v) o):∃u,o=some u/\RelV v u:=by
 cases o with
 | none=>exact(show False from r).elim
 | some u=>exact⟨u,rfl,r⟩
section
variable {P:XM}{w:World}{H H':Hp}{h h':Heap}{a C dx:Addr}{fs fs':List (Str×V)}
theorem JZ(hok:HOk P w H h)(e:H a=some (.ins C dx fs)):∃mA,ObjM h a dx C mA/\(∀f,RelO (fs.lookup f) (mA f))/\PySem.Within mA (fs.map (·.1))/\fs.length<=1000/\H dx=some (.own a):=by
 obtain⟨d,z,ne,ob,mA,n,r,q⟩:=(show ObjOk P w H h a (.ins C dx fs)from hok a _ e);exact⟨mA,⟨ob,n,ne⟩,r,q,z,d⟩
end
structure Cls(K:XF)(C:Addr):Prop where
 pg:PySem.W.plainGet K C Str.empty=true
 hd:PySem.W.hasDictIn K C=true
 po:PySem.W.plainOver K C=true
 sa:za7 K (.ref C) "__setattr__" = some (some (.builtin "object.__setattr__"))
theorem Cls.get{K:XF}{C:Addr}(c:Cls K C)(f:Str):PySem.W.plainGet K C f=true:=c.pg
section
variable {X:Cx}{pins:List (Addr×Obj)}{σ:St}{H:Hp}{s:XE}{a C dx:Addr}{fs:List (Str×V)}{f:Str}{v:V}{A:XS}{E:Value->XE->Prop}
end
section
variable {X:Cx}{o e value:Expr}{f:Str}{pos pos' tpos:Pos}{ta tv:TE}
end
section
variable {X:Cx}{pins:List (Addr×Obj)}{σ:St}{H:Hp}{s:XE}{A:XS}{E:Value->XE->Prop}{Q:Value->XE->Prop}{c:Value}{b:Bool}
inductive TyOf(K:XF)(H:Hp):V->Value->Prop where
 | non:TyOf K H .non (.type "NoneType")
 | bl (x:Bool):TyOf K H (.bl x) (.type "bool")
 | int (i:Int):TyOf K H (.int i) (.type "int")
 | str (x:Str):TyOf K H (.str x) (.type "str")
 | flt (x:UInt64):TyOf K H (.flt x) (.type "float")
 | lst {a:Addr} {xs:List V} (e:H a=some (.lst xs)):TyOf K H (.ref a) (.type "list")
 | frz {a:Addr} {o:Obj} {xs:List V} (e:H a=some (.frz o (.lst xs))):TyOf K H (.ref a) (.type "list")
 | tup {a:Addr} {xs:List V} (e:H a=some (.tup xs)):TyOf K H (.ref a) (.type "tuple")
 | dK {a:Addr} {kvs:List (Key×V)} (e:H a=some (.dK kvs)):TyOf K H (.ref a) (.type "dict")
 | dT {a:Addr} {kvs:List (List Key×V)} (e:H a=some (.dT kvs)):TyOf K H (.ref a) (.type "dict")
 | ins {a C dx:Addr} {fs:List (Str×V)} (e:H a=some (.ins C dx fs)) (cl:Cls K C) (ha:za7 K (.ref C) "__class__" = some (some (.builtin "object.__class__")))
   (hn:PySem.W.specialIn K (.builtin "object.__class__") "__get__" = some (some (.builtin "getset_descriptor.__get__"))) (htk:PySem.W.takesIn K (.builtin "object.__class__")=some true)
   (hm:PySem.W.mroIn K C (.type "object")=some true):TyOf K H (.ref a) (.ref C)
theorem C1(I:Inv X pins σ H s)(F:RelV x u)(ty:TyOf X.K H x t)(e:ZU X.K t c=some b)(h:∀tk,Q (.bool b) {s with toks:=tk}) :
  wpAny (model X.prog X.w) A (call (.builtin "isinstance") [u,c]) Q E s:=by
 cases ty with
 | non=>cases(show u=X4 from F);exact ZP PySem.W.kitx_none I.kIn Z5 e (λz=>nomatch z) h
 | bl y=>cases(show u=YV y from F);exact ZP PySem.W.kitx_bool I.kIn Z5 e (λz=>nomatch z) h
 | int i=>obtain⟨t,q⟩:=(show ∃t,u=Value.int i t from F);cases q;exact ZP PySem.W.kitx_int I.kIn Z5 e (λz=>nomatch z) h
 | str y=>obtain⟨t,q⟩:=(show ∃t,u=Value.str y t from F);cases q;exact ZP PySem.W.kitx_str I.kIn Z5 e (λz=>nomatch z) h
 | flt y=>obtain⟨t,q⟩:=(show ∃t,u=Value.float y t from F);cases q;exact ZP PySem.W.kitx_float I.kIn Z5 e (λz=>nomatch z) h
 | @lst a xs ea=>
  cases(show u=XN a from F);obtain⟨_,_,n,_,h1⟩:=(show ObjOk X.prog X.w H s.heap a (.lst xs)from I.hok a _ ea);exact ZP PySem.W.kitx_list I.kIn ⟨_,h1,rfl⟩ e (λz=>nomatch z) h
 | @frz a ob xs ea=>
  cases(show u=XN a from F);obtain⟨_,_,_,n,_,h1⟩:=(show ObjOk X.prog X.w H s.heap a (.frz ob (.lst xs))from I.hok a _ ea);exact ZP PySem.W.kitx_list I.kIn ⟨_,h1,rfl⟩ e (λz=>nomatch z) h
 | @tup a xs ea=>
  cases(show u=XN a from F);obtain⟨_,_,_,p⟩:=(show ObjOk X.prog X.w H s.heap a (.tup xs)from I.hok a _ ea);obtain⟨o,h1,h2,_⟩:=p;exact ZP PySem.W.kitx_tuple I.kIn ⟨o,h1,h2⟩ e (λz=>nomatch z) h
 | @dK a kvs ea=>
  cases(show u=XN a from F);obtain⟨_,_,vs,_,p⟩:=(show ObjOk X.prog X.w H s.heap a (.dK kvs)from I.hok a _ ea);obtain⟨o,es,ep,h1,h2,_⟩:=p;exact ZP zcc I.kIn ⟨o,h1,h2.1⟩ e (λz=>nomatch z) h
 | @dT a kvs ea=>
  cases(show u=XN a from F);obtain⟨_,_,xs,_,o,es,ep,h1,h2,_⟩:=(show ObjOk X.prog X.w H s.heap a (.dT kvs)from I.hok a _ ea);exact ZP zcc I.kIn ⟨o,h1,h2.1⟩ e (λz=>nomatch z) h
 | @ins a C dx fs ea cl ha hn htk hm=>
  cases(show u=XN a from F);obtain⟨mA,O,_⟩:=JZ I.hok ea;obtain⟨od,J,_⟩:=O.look;exact ZP (PySem.W.kitx_own (cl.get _) cl.hd ha hn htk hm) I.kIn J e (λz=>nomatch z) h
end
structure Room(k:Nat)(A:XS):Prop where
 hd:A.handled=none
 dp:A.depth+3*k+5<recursionLimit
 un:A.units+16*k+200<cLine
theorem Room.mono(r:Room k A)(h:j<=k):Room j A:=⟨r.hd,by have:=r.dp;lia,by have:=r.un;lia⟩
theorem Room.deeper(r:Room (k+1) A)(env:Env):Room k (A.deeper env):=
 ⟨r.hd,by have:=r.dp;show A.depth+1+3*k+5<_;lia,by have:=r.un;show A.units+3+16*k+200<_;lia⟩
theorem Room.depth(r:Room k A):A.depth<recursionLimit:=by have:=r.dp;lia
theorem Room.units(r:Room k A):A.units+64<cLine:=by have:=r.un;lia
theorem Room.units0(r:Room k A):A.units<cLine:=by have:=r.un;lia
def RA:TA:=λ_ H Q=>Q [] H
def yD(ta:TE)(q:TA):TA:=λσ H Q=>ta σ H λx H1=>q σ H1 λxs H2=>Q (x::xs) H2
section
variable {X:Cx}{e:Expr}{es:List Expr}{te:TE}{t:TA}{pos:Pos}
theorem dX:PA X [] RA:=λ_ _ _ _ H Q I h=>zcd ⟨[],H,I,.nil,h⟩
theorem bB(J:PE X e te)(N:PA X es t)(hs:XI (e::es) X.env=(false,eval e X.env)::XI es X.env:=by rfl):PA X (e::es) (yD te t):=by
 intro pos pins s σ H Q I h;rw[hs];show wpAny _ _ (spliced ((false,eval e X.env)::X0 pos (XI es X.env))) _ _ s;refine zaI (bX (J pins s σ H _ I h) λu q ⟨x,H1,Y,G,F⟩=>?_);exact bX (N pos pins q σ H1 _ Y F) λus s2 ⟨xs,H2,W,U,q2⟩=>⟨x::xs,H2,W,.cons G U,q2⟩
def VJ(t:TA):TE:=λσ H Q=>t σ H λxs H1=>xs.length<=XQ/\∀p,H1 p=none->Q (.ref p) (upd H1 p (.tup xs))
def VW(t:TA):TE:=λσ H Q=>t σ H λxs H1=>xs.length<=XQ/\∀p,H1 p=none->Q (.ref p) (upd H1 p (.lst xs))
theorem HP{x1}(h:PA X es t):PE X (.Tuple es x1 pos) (VJ t):=by
 intro pins s σ H Q I U;refine wpAny_Tuple_spliced (bX (h pos pins s σ H _ I U) λN F ⟨xs,H1,G,r,z,q⟩=>⟨by rw[<- r.length];exact z,?_⟩);have J:H1 F.heap.objs.size=none:=G.hok.fresh (XU _);refine⟨.ref F.heap.objs.size,upd H1 F.heap.objs.size (.tup xs),G.laid (t':=F.toks) (λb u e=>XT _ e) (XU _) ?_,rfl,q _ J⟩;exact⟨z,N,r,⟨_,X9 _ rfl,rfl,_,rfl,rfl⟩⟩
theorem HX(h:PA X es t):PE X (.List es pos) (VW t):=by
 intro pins s σ H Q I U;refine wpAny_List_spliced (bX (h pos pins s σ H _ I U) λN F ⟨xs,H1,G,r,z,q⟩=>⟨by rw[<- r.length];exact z,?_⟩);have J:H1 F.heap.objs.size=none:=G.hok.fresh (XU _);refine⟨.ref F.heap.objs.size,upd H1 F.heap.objs.size (.lst xs),G.laid (t':=F.toks) (λb u e=>XT _ e) (XU _) ?_,rfl,q _ J⟩;exact⟨z,N,0,r,X9 _ rfl⟩
end
abbrev Sp:=List V->Hp->VK->XK->Prop
abbrev CC:=List Env->Hp->XE->XK->Value->XE->Prop
structure Env0(P:XM)(w:World)(K:XF)(mg:Str->Option Value)(base:Heap)(A:XS)(outer:List Env)(s:XE)(H:Hp):Prop where
 frames:A.frames=some outer
 mod:Mod K mg base
 bs:∀b o,base.get? b=some o->s.heap.get? b=some o/\H b=none
 bsz:base.objs.size<=s.heap.objs.size
 funs:s.heap.FunFrames base outer
 frf:∀b∈frs outer,H b=none
 hok:HOk P w H s.heap
 bare:zae s.gens
def CE(outer:List Env)(P:XM)(w:World)(H:Hp)(s:XE)(Q:VK)(u:Value)(s':XE):Prop:=
 ∃v H',s'.os=s.os/\zae s'.gens/\Un (frs outer) [] H H' s.heap s'.heap/\HOk P w H' s'.heap/\RelV v u/\Q v H'
def CR(CX:CC)(outer:List Env)(P:XM)(w:World)(H:Hp)(s:XE)(Q:VK)(E:XK)(r:zag)(s':XE):Prop:=
 match r with
 | .ok (.ret u)=>CE outer P w H s Q u s'
 | .ok _=>False
 | .error e=>CX outer H s E e s'
structure FnOk(P:XM)(w:World)(K:XF)(mg:Str->Option Value)(base:Heap)(CX:CC)(k:Nat)(f:Addr)(fd:ZK)(ps:List Str)(sp:Sp):Prop where
 len:∀vs H Q E,sp vs H Q E->vs.length=ps.length
 run:∀(A:XS) (outer:List Env) (s:XE) (H:Hp) (args:Args) (us:List Value) (vs:List V) (Q:VK) (E:XK),Room k A->Env0 P w K mg base A outer s H->BindsTo s fd args (ps.zip us)->Vals vs us->sp vs H Q E->
  ZQ (model P w) A (.call (.ref f) args) (CR CX outer P w H s Q E) s
theorem FnOk.mono{P:XM}{w:World}{K:XF}{mg:Str->Option Value}{base:Heap}{CX:CC}{j k:Nat}{f:Addr}{fd:ZK}{ps:List Str}{sp:Sp}(F:FnOk P w K mg base CX j f fd ps sp)(h:j<=k) :
  FnOk P w K mg base CX k f fd ps sp:=⟨F.len,λA outer s H args G vs Q E q=>F.run A outer s H args G vs Q E (q.mono h)⟩
theorem FnOk.imp{P:XM}{w:World}{K:XF}{mg:Str->Option Value}{base:Heap}{CX:CC}{k:Nat}{f:Addr}{fd:ZK}{ps:List Str}{sp sp':Sp}(F:FnOk P w K mg base CX k f fd ps sp)
  (h:∀vs H Q E,sp' vs H Q E->sp vs H Q E):FnOk P w K mg base CX k f fd ps sp':=
 ⟨λvs H Q E q=>F.len vs H Q E (h _ _ _ _ q),λA outer s H args N vs Q E U G J W hs=>F.run A outer s H args N vs Q E U G J W (h _ _ _ _ hs)⟩
section
variable {X:Cx}{pins:List (Addr×Obj)}{σ:St}{H:Hp}{s s':XE}
theorem Inv.env0(I:Inv X pins σ H s):Env0 X.prog X.w X.K X.mg X.base X.A X.stack s H:=
 ⟨I.ok.frames,I.ok.mod,I.bs,Y0 I.ok.bsz I.sz,I.stack,I.stkFree,I.hok,I.bare⟩
theorem Inv.after(I:Inv X pins σ H s)(h:CE X.stack X.prog X.w H s Q u s'):EP X pins σ Q u s':=by
 obtain⟨v,H',os,F,un,hok,r,q⟩:=h;obtain⟨J,g,d,t,G⟩:=s';obtain rfl:G=s.os:=os;exact⟨v,H',I.call (h':=J) (g':=g) (d':=d) (t':=t) (ch:=[]) un hok F (λb z=>absurd z (by simp)),r,q⟩
end
def SH(sp:Sp)(dvs:List V)(E:XK)(t:TA):TE:=λσ H Q=>t σ H λvs H1=>sp (vs++dvs) H1 Q E
def Binds(K:XF)(fd:ZK)(ps:List Str)(ds:List Value):Prop:=
 ∀(s:XE) (us:List Value),K.In s.heap->(us++ds).length=ps.length->BindsTo s fd ⟨us,[]⟩ (ps.zip (us++ds))
theorem Binds.all{K:XF}{fd:ZK}{ps:List Str}(h:∀q:List Value,q.length=ps.length->bindArgs fd ⟨q,[]⟩=pure (ps.zip q)):Binds K fd ps []:=λs q _ F=>by
 rw[ZZ]at F ⊢;exact .of_eq (h q F)
def zY(CX:CC)(X:Cx)(E:XK):Prop:=∀(pins:List (Addr×Obj)) (σ:St) (H:Hp) (s:XE) (e:Value) (s':XE),Inv X pins σ H s->CX X.stack H s E e s'->X.xe e s'
section
variable {X:Cx}{CX:CC}{k:Nat}{f C:Addr}{fd:ZK}{ps:List Str}{sp:Sp}{dvs:List V}{ds:List Value}{E:XK}{x m:Str}{p pos apos:Pos}{e o:Expr}{es:List Expr}{ta:TE}{t:TA}
theorem QQ(F:FnOk X.prog X.w X.K X.mg X.base CX k f fd ps sp)(W:Room k X.A)(U:Binds X.K fd ps ds)(N:Vals dvs ds)(Y:zY CX X E)
  (I:Inv X pins σ H s) (r:Vals vs us) (h:sp (vs++dvs) H Q E):wpAny (model X.prog X.w) X.A (call (.ref f) us) (EP X pins σ Q) X.xe s:=by
 have G:Vals (vs++dvs) (us++ds):=r.append N;have J:(us++ds).length=ps.length:=by rw[<- G.length];exact F.len _ _ _ _ h
 refine za8 (zav (F.run X.A X.stack s H ⟨us,[]⟩ (us++ds) (vs++dvs) Q E W I.env0 (U s us I.kIn J) G h) λr s' q=>?_);cases r with
 | error e=>exact Y pins σ H s e s' I q
 | ok fl=>
  cases fl with
  | ret u=>exact I.after q
  | next=>exact YF q
  | brk=>exact YF q
  | cont=>exact YF q
theorem LS(F:FnOk X.prog X.w X.K X.mg X.base CX k f fd ps sp)(hr:Room k X.A)(hg:Gl X x)(hm:X.mg x=some (.ref f))(hk:zaw X.K (.ref f)=true)(Y:Binds X.K fd ps ds)(W:Vals dvs ds)(hx:zY CX X E)
  (ha:PA X (e::es) t) (G:(x == ("__debug__" : Str))=false:=by decide) (U:XI (e::es) X.env=(false,eval e X.env)::XI es X.env:=by rfl) (J:(X0 pos (XI es X.env)).any (·.1)=false:=by rfl) :
  PE X (.Call (.Name x p) (e::es) [] pos) (SH sp dvs E t):=by
 intro pins s σ H Q I h;refine zaR (eX I hg hm ?_ G);refine zbB (h₀:=X.base) I.ok.mod.kin hk (bX (ha pos pins s σ H _ I h) λus s1 ⟨vs,H1,N,r,q⟩=>⟨N.kIn,?_⟩) U J;exact QQ F hr Y W hx N r q
structure Mk(K:XF)(C f:Addr):Prop where
 makes:PySem.W.makesIn K C=true
 init:za7 K (.ref C) "__init__" = some (some (.ref f))
 fn:PySem.W.isFn K (.ref f)=true
 kp:zaw K (.ref C)=true
end
section
variable {X:Cx}{CX:CC}{k:Nat}{f C:Addr}{fd:ZK}{ps ks:List Str}{sp:Sp}{E:XK}{x m:Str}{p pos apos kpos:Pos}{e o:Expr}{es:List Expr}{kws:List zax}{te ta:TE}{t tk:TA}{nm:Option Str}
variable {g:List Value->List Value->List Value}{gV:List V->List V->List V}
end
structure FnScope(N P:List Str)(sc:Scope):Prop where
 kind:sc.kind=.function
 co:sc.isCoroutine=false
 gen:sc.isGenerator=false
 nd:N.Nodup
 pre:N.take P.length=P
 par:∀x∈P,sc.names.lookup x=some .local\/sc.names.lookup x=some .cell
 nofree:∀y∈sc.names,y.2≠.free
theorem sZ{ZR:Str->Option zah}:∀ {binds:List (Str×Value)} {m:Str->Option Value},(∀v,(x,v)∉binds)->bindL ZR binds m x=m x
 | [],_,_=>rfl
 | (n,v)::r,m,h=>by
  unfold bindL;rw[sZ λw hw=>h w (YH _ hw)];split
  ·have:x≠n:=by rintro rfl;exact h v X8
   simp[this]
  ·rfl
theorem sM{ZR:Str->Option zah}:∀ {binds:List (Str×Value)} {m:Str->Option Value},(∀v,(x,v)∉binds)->bindC ZR binds m x=m x
 | [],_,_=>rfl
 | (n,v)::r,m,h=>by
  unfold bindC;rw[sM λw hw=>h w (YH _ hw)];split
  ·rfl
  ·have:x≠n:=by rintro rfl;exact h v X8
   simp[this]
theorem tX{ZR:Str->Option zah}{x:Str}{v:Value}:∀ {P:List Str} {vs:List Value} {i:Nat} {m:Str->Option Value},P.Nodup->P[i]?=some x->vs[i]?=some v->ZR x=some .local->
  bindL ZR (P.zip vs) m x=some v
 | [],_,_,_,_,h,_,_=>by simp at h
 | _::_,[],_,_,_,_,h,_=>by simp at h
 | p::P,w::vs,0,m,nd,h1,h2,hk=>by
  simp at h1 h2;subst h1;subst h2;show bindL ZR ((p,w)::P.zip vs) m p=_;unfold bindL;rw[sZ λv q=>(List.nodup_cons.mp nd).1 (zcY q).1,if_pos hk];simp
 | p::P,w::vs,i+1,m,nd,h1,h2,hk=>by
  show bindL ZR ((p,w)::P.zip vs) m x=_;unfold bindL;exact tX (i:=i) (List.nodup_cons.mp nd).2 (by simpa using h1) (by simpa using h2) hk
theorem sO{ZR:Str->Option zah}{x:Str}{v:Value}:∀ {P:List Str} {vs:List Value} {i:Nat} {m:Str->Option Value},P.Nodup->P[i]?=some x->vs[i]?=some v->ZR x≠some .local->
  bindC ZR (P.zip vs) m x=some v
 | [],_,_,_,_,h,_,_=>by simp at h
 | _::_,[],_,_,_,_,h,_=>by simp at h
 | p::P,w::vs,0,m,nd,h1,h2,hk=>by
  simp at h1 h2;subst h1;subst h2;show bindC ZR ((p,w)::P.zip vs) m p=_;unfold bindC;rw[sM λv q=>(List.nodup_cons.mp nd).1 (zcY q).1,if_neg hk];simp
 | p::P,w::vs,i+1,m,nd,h1,h2,hk=>by
  show bindC ZR ((p,w)::P.zip vs) m x=_;unfold bindC;exact sO (i:=i) (List.nodup_cons.mp nd).2 (by simpa using h1) (by simpa using h2) hk
def start(N:List Str)(vs:List V):St:=vs.map some++YE (N.length-vs.length) none
def c6(CX:CC)(P:XM)(w:World)(K:XF)(mg:Str->Option Value)(base:Heap)(N:List Str)(q:Str)(scope:Scope)(f:Addr)(G:Value)(A:XS)(outer:List Env)(s:XE)(H:Hp)(E:XK):Cx where
 prog:=P
 w:=w
 K:=K
 mg:=mg
 base:=base
 A:=A.deeper (YW q scope s.heap.objs.size f G)
 N:=N
 s₀:=s
 H₀:=H
 env:=YW q scope s.heap.objs.size f G
 outer:=outer
 stack:=YW q scope s.heap.objs.size f G::outer
 ex:=[]
 calm:=true
 fn:=λ_=>true
 pn:=[]
 xe:=λe s'=>wpAny (model P w) (A.deeper (YW q scope s.heap.objs.size f G)) (zaS (YW q scope s.heap.objs.size f G) e) (λ_ F=>CX outer H s E e F) (λJ F=>CX outer H s E J F) s'
theorem p8{sc:Scope}{n:Nat}{x:Str}(h:sc.names.lookup x=some .cell):∃c,(za9 n sc.names []).lookup x=some c:=by
 have q:=PySem.W.cellsFrom_some sc.names n [] (.inl h);exact Option.isSome_iff_exists.mp q
theorem DC{CX:CC}{P:XM}{w:World}{K:XF}{mg:Str->Option Value}{base:Heap}{N ps:List Str}{F:Str}{scope:Scope}{f:Addr}{cd:Value}{A:XS}{outer:List Env}{s s1:XE}{H:Hp}{E:XK}{us:List Value}{vs:List V}
  (S:FnScope N ps scope) (hd:A.handled=none) (G:Env0 P w K mg base A outer s H) (hl:vs.length=ps.length) (r:Vals vs us)
  (x:InCallC s s.heap.objs.size (bindL (YW F scope s.heap.objs.size f cd).kindOf (ps.zip us) λ_=>none) (za9 (s.heap.objs.size+1) scope.names []) (bindC (YW F scope s.heap.objs.size f cd).kindOf (ps.zip us) λ_=>none) s1) :
  Inv (c6 CX P w K mg base N F scope f cd A outer s H E) [] (start N vs) H s1:=by
 have ai:ps.length<=N.length:=by have:=congrArg zay S.pre;rw[zai]at this;lia
 obtain⟨h1,tk,rfl,hk⟩:=x.done;have J:∀b:Addr,b∉(c6 CX P w K mg base N F scope f cd A outer s H E).ex:=λb z=>absurd (show b∈([]:List Addr)from z) (by simp)
 refine⟨⟨G.mod,S.kind,rfl,rfl,XU _,λy z c h1 h2=>?_,λy U=>?_,λy c _ h=>?_,λ_=>hd,Around.frames_deeper G.frames,.inr ⟨rfl,rfl⟩,λb z=>absurd z (J b),G.bs,G.bsz,λb _ _=>J b,λb z=>absurd z (J b),G.funs,G.frf⟩,
  rfl,G.bare,Un.kept hk,⟨_,x.toInCall.ns,λi y v h1 h2 h3=>?_⟩,λy c h=>⟨_,x.cell y c h⟩,G.hok.fresh (XU _),λy c h=>?_,λp Y=>absurd (show p∈([]:List (Addr×Obj))from Y) (by simp),G.hok.kept hk,?_⟩
 ·exact name_of_addr x.apart (zbC h1) (zbC h2)
 ·have U:scope.names.lookup y=some .cell\/scope.names.lookup y=some .free:=U
  rcases U with U|U
  ·exact p8 U
  ·exact absurd rfl (S.nofree _ (zbC U))
 ·exact zb4 (x.above y c (zbC h))
 ·have hi:i<vs.length:=by
   unfold start at h2;by_cases hi:i<vs.length
   ·exact hi
   ·rw[zce (by simpa using hi)]at h2
    rw[zcZ]at h2;split at h2 <;> cases h2
  have ha:vs[i]?=some v:=by
   unfold start at h2;rw[zcf (by simpa using hi),YB]at h2;cases e:vs[i]? with
   | none=>rw[e]at h2;cases h2
   | some a=>rw[e]at h2;cases h2;rfl
  obtain⟨u,hu,rv⟩:=r.get ha;have Y:ps[i]?=some y:=by
   rw[<- S.pre,List.getElem?_take_of_lt (by lia)];exact h1
  have W:ps.Nodup:=by rw[<- S.pre];exact S.nd.sublist (List.take_sublist _ _)
  refine⟨u,rv,?_⟩;rcases S.par y (YO Y)with k|k
  ·exact .inl ⟨k,tX W Y hu k⟩
  ·obtain⟨c,e⟩:=p8 (n:=s.heap.objs.size+1) k
   refine .inr ⟨.inl k,c,e,?_⟩;have q:=x.cell y c e;rw[sO W Y hu (by show scope.names.lookup y≠_;rw[k];decide)]at q;exact q
 ·exact G.hok.fresh (zb4 (x.above y c (zbC h)))
 ·unfold start
  show _=N.length;rw[Y3,XR,List.length_replicate]
  lia
theorem M6{CX:CC}{P:XM}{w:World}{K:XF}{mg:Str->Option Value}{base:Heap}{k:Nat}{f:Addr}{name F:Str}{U:Arguments}{body:List Stmt}{scope:Scope}{dV kV ac pm G ct oc:Value}{an od:Option Addr}
  {ah:Array (Option Value)} {N ps:List Str} {sp:Sp} (lk:K.lookup f=some ⟨oc,od,.func (Z0 name F U body scope dV kV ac pm an G ct),ah⟩) (ai:zba K G F=true) (S:FnScope N ps scope)
  (af:∀vs H Q E,sp vs H Q E->vs.length=ps.length)
  (aa:∀(A:XS) (outer:List Env) (s:XE) (H:Hp) (vs:List V) (Q:VK) (E:XK), Room k (A.deeper (YW F scope s.heap.objs.size f G)) -> sp vs H Q E ->
   ∃t,PSs (c6 CX P w K mg base N F scope f G A outer s H E) body t/\t {nx:=λ_ H'=>Q .non H',rt:=Q} (start N vs) H) :
  FnOk P w K mg base CX (k+1) f (Z0 name F U body scope dV kV ac pm an G ct) ps sp:=by
 refine⟨af,λA outer s H args us vs Q E hr e0 hb r ad=>?_⟩;have hl:=af _ _ _ _ ad;have KX:K.In s.heap:=e0.mod.kin.keeps λb o e=>(e0.bs b o e).1
 have ak:s.heap.NoLimit:=e0.mod.nolimit.keeps λb o e=>(e0.bs b o e).1
 have ab:∀y∈ps.zip us,scope.names.lookup y.1=some .local\/(scope.names.lookup y.1=some .cell/\((za9 (s.heap.objs.size+1) scope.names []).lookup y.1).isSome=true):=by
  rintro⟨n,v⟩ hy;rcases S.par n (zcY hy).1 with q|q
  ·exact .inl q
  ·exact .inr ⟨q,PySem.W.cellsFrom_some _ _ _ (.inl q)⟩
 refine codeAny_call_function hr.depth (KX _ _ lk) rfl S.co S.gen rfl (PySem.W.codeRec_of KX ai) (hb _ _ _ _ ?_);refine wpAny_newFunctionEnv_cells S.kind ab λenv he s1 x=>?_
 subst he;refine⟨ak.keeps x.toInCall.keep,codeAny_func ?_⟩;obtain⟨t,ht,hq⟩:=aa A outer s H vs Q E (hr.deeper _) ad;have I:Inv (c6 CX P w K mg base N F scope f G A outer s H E) [] (start N vs) H s1:=DC S hr.hd e0 hl r x;refine X3 (ht [] s1 (start N vs) H _ I hq) (λfl s' hs=>?_) λe s' hs=>hs
 have fin:∀ {Y:St} {H':Hp} {v:V} {u:Value},Inv (c6 CX P w K mg base N F scope f G A outer s H E) [] Y H' s'->RelV v u->Q v H'->CE outer P w H s Q u s':=
  λ{Y H' v u} J rv q=>⟨v,H',J.os,J.bare,J.base,J.hok,rv,q⟩
 cases fl with
 | ret u=>
  obtain⟨v,Y,H',J,rv,q⟩:=hs;exact fin J rv q
 | next=>
  obtain⟨Y,H',J,q⟩:=hs;exact fin (v:=V.non) (u:=X4) J rfl q
 | brk=>
  obtain⟨_,_,_,q⟩:=hs;exact YF q
 | cont=>
  obtain⟨_,_,_,q⟩:=hs;exact YF q
section
variable {X:Cx}{x:Str}{p pos:Pos}{e:Expr}{es:List Expr}{t:TA}{id T:String}{r:List V->Hp->VK->Prop}
def UR(r:List V->Hp->VK->Prop)(t:TA):TE:=λσ H Q=>t σ H λvs H1=>r vs H1 Q
theorem gU(hc:CallR X (.builtin id) r)(hg:Gl X x)(Y:X.mg x=none)(hv:YC x=some (.builtin id))(U:PA X (e::es) t)(hn:x ≠ "__name__" := by decide)(q:(x == ("__debug__" : Str))=false:=by decide)
  (N:XI (e::es) X.env=(false,eval e X.env)::XI es X.env:=by rfl) (F:(X0 pos (XI es X.env)).any (·.1)=false:=by rfl):PE X (.Call (.Name x p) (e::es) [] pos) (UR r t):=by
 intro pins s σ H Q I h;refine zaR (mO I hg Y hv ?_ hn q);exact PyProof.Rows.callWith_builtin1 (bX (U pos pins s σ H _ I h) λW G ⟨vs,H1,I1,r1,J⟩=>hc pins G σ H1 vs W Q I1 r1 J) N F
theorem tV(hc:CallR X (.type T) r)(hg:Gl X x)(Y:X.mg x=none)(hv:YC x=some (.type T))(U:PA X (e::es) t)(hn:x ≠ "__name__" := by decide)(q:(x == ("__debug__" : Str))=false:=by decide)
  (N:XI (e::es) X.env=(false,eval e X.env)::XI es X.env:=by rfl) (F:(X0 pos (XI es X.env)).any (·.1)=false:=by rfl):PE X (.Call (.Name x p) (e::es) [] pos) (UR r t):=by
 intro pins s σ H Q I h;refine zaR (mO I hg Y hv ?_ hn q);exact zcb (bX (U pos pins s σ H _ I h) λW G ⟨vs,H1,I1,r1,J⟩=>hc pins G σ H1 vs W Q I1 r1 J) N F
end
end L2
namespace HT
open PySem PyProof.Rows
noncomputable def lexLt:List Int->List Int->Bool
 | [],[]=>false
 | [],_::_=>true
 | _::_,[]=>false
 | x::xs,y::ys=>if x=y then lexLt xs ys else decide (x<y)
theorem dS(x y:Int)(xs ys:List Int):lexLt (x::xs) (y::ys)=if x=y then lexLt xs ys else decide (x<y):=rfl
theorem rT:lexLt [] []=false:=rfl
theorem oN(y:Int)(ys:List Int):lexLt [] (y::ys)=true:=rfl
theorem oO(x:Int)(xs:List Int):lexLt (x::xs) []=false:=rfl
theorem E9(A:XS)(s:XE)(a:Int)(t:Tok)(c:Int)(u:Tok):∃e,zbD A s (.int a t) (.int c u) e/\(e=true↔a=c):=
 ⟨(a == c),SeqAt.EqAt.int_int a t c u,by simp⟩
theorem EO(A:XS)(s:XE)(a:Int)(t:Tok)(c:Int)(u:Tok)(prog:XM)(w:World)(E:Value->XE->Prop)(Q:Value->XE->Prop)(h:Q (.bool (decide (a<c))) s) :
  wpAny (model prog w) A (richCompare .Lt (.int a t) (.int c u)) Q E s:=
 (PyProof.Rows.lt_int h:wpAny (model prog w) A (XY .Lt (.int a t) (.int c u)) Q E s)
section
open PySem.SeqAt
open PySem.AutoSeq1 (wpAny_loadPart')
open PySem.MeetsSeq PySem.MeetsSeq2 PySem.MeetsSeq3
theorem sC(l b:Addr)(items F:Array Value)(n n2:Nat)(dd ag:Option Addr)(sl af:Array (Option Value))(ns ms:List Int)(hi:YX items.toList ns)(hj:YX F.toList ms) :
  Meets (ZL.«tuple.__lt__» ⟨[.ref l,.ref b],[]⟩)
   (λ_ R s => s.heap.get? l = some {cls := .type "tuple", dict:=dd, data := .seq items n, slots:=sl} /\ s.heap.get? b = some {cls := .type "tuple", dict:=ag, data := .seq F n2, slots:=af} /\
    R (.ok (.ret (.bool (lexLt ns ms)))) s):=
 .of_wp λprog w A R s h=>by
  obtain⟨hp,g,d,tk,os⟩:=s;obtain⟨hl,hb,h⟩:=h;have f2:=AutoSeq1.sub_tuple_tuple;have z1:items.size=ns.length:=by rw[<- hi.length];simp
  have z2:F.size=ms.length:=by rw[<- hj.length];simp
  wp_walk using zaz hl,zaz hb,wpAny_forIn_list _ (λrest b s'=>b.1=none/\s'=⟨hp,g,d,tk,os⟩/\∃(vs ws:List Value) (J N:List Int),rest=vs.zip ws /\
   YX vs J/\YX ws N/\J.length+F.size=N.length+items.size/\R (.ok (.ret (.bool (lexLt J N)))) ⟨hp,g,d,tk,os⟩) _
  case turn=>
   rintro⟨y,x⟩ rest b s' ⟨ab,rfl,vs,ws,J,N,hz,aa,U,G,Y⟩;cases aa with
   | nil=>rw[zc0]at hz;cases hz
   | cons a t hvi'=>
    cases U with
    | nil=>rw[List.zip_nil_right]at hz;cases hz
    | cons c u hwi'=>
     rw[zc1]at hz;injection hz with hyx hrest
     injection hyx with hy hx
     subst hy hx;rw[dS]at Y;simp only[Y4]at G;obtain⟨e,he,W⟩:=E9 A.in1 ⟨hp,g,d,tk,os⟩ a t c u;refine XD (he prog w _ _ ?_);cases e with
     | true=>
      rw[if_pos (W.mp rfl)]at Y
      wp_walk
      exact⟨rfl,rfl,_,_,_,_,hrest,hvi',hwi',by lia,Y⟩
     | false=>
      rw[if_neg (λq=>absurd (W.mpr q) XZ)]at Y;have ae:=EO A.in1 ⟨hp,g,d,tk,os⟩ a t c u prog w
      wp_walk using ae
      exact⟨_,rfl,by simpa using Y⟩
  case fin=>
   rintro⟨b1,b2⟩ s' ⟨ab,rfl,vs,ws,J,N,hz,aa,U,G,Y⟩;simp only at ab;subst ab;have hv:lexLt J N=decide (items.size<F.size):=by
    cases aa with
    | nil=>
     cases U with
     | nil=>
      simp only[zbb]at G;rw[rT];exact(decide_eq_false (by lia)).symm
     | cons c u hw=>
      simp only[zbb,Y4]at G;rw[oN];exact(decide_eq_true (by lia)).symm
    | cons a t hv=>
     cases U with
     | nil=>
      simp only[zbb,Y4]at G;rw[oO];exact(decide_eq_false (by lia)).symm
     | cons c u hw=>
      rw[zc1]at hz;cases hz
   rw[hv]at Y
   wp_walk
   exact⟨_,rfl,by simpa[Builtin.Tuple.tupleCompareSizes]using Y⟩
  case h=>
   exact⟨rfl,rfl,items.toList,F.toList,ns,ms,rfl,hi,hj,by lia,h⟩
end
section
variable {prog:XM}{w:World}{A:XS}{E:Value->XE->Prop}{s:XE}
theorem pA(hl:IsTup s.heap l items)(hb:IsTup s.heap b items2)(hi:YX items.toList ns)(hj:YX items2.toList ms)
  (hu:A.units<cLine) (h:Q (.bool (lexLt ns ms)) s):wpAny (model prog w) A (XY .Lt (.ref l) (.ref b)) Q E s:=by
 obtain⟨⟨cls,dd,data,sl⟩,ho,hc,n,hd⟩:=id hl;obtain⟨⟨Y,U,W,N⟩,J,G,n2,q⟩:=id hb;simp only at hc hd G q;subst hc hd G q;exact richCompare_meets_room (op:=.Lt) ⟨_,ho,rfl⟩ ⟨_,J,rfl⟩ PySem.F.slot_tuple_lt PySem.F.entry_tuple_lt (PySem.F.args_tuple_lt_2 _ _) (sC l b items items2 n n2 dd U sl N ns ms hi hj)
  ⟨ho,J,show YV (lexLt ns ms)≠Value.notImplemented/\Q (.bool (lexLt ns ms)) s from⟨(λx=>nomatch x),h⟩⟩ hu
theorem KO(ht:IsTup s.heap t vs.toArray)(hb:IsTup s.heap b ws.toArray)(hv:vs≠[])
  (h1:ws=[]->Q (.ref t) s) (h2:ws≠[]->Q (.ref s.heap.objs.size) {s with heap:=s.heap.push {cls:=.type "tuple",data:=.seq (vs++ws).toArray} })
  (hsz:vs.length+ws.length<=XQ):wpAny (model prog w) A (YT .Add (.ref t) (.ref b)) Q E s:=by
 obtain⟨⟨cls,dd,data,sl⟩,U,hc,n,hd⟩:=id ht;obtain⟨⟨Y,G,W,F⟩,q,N,n2,J⟩:=id hb;simp only at hc hd N J;subst hc hd N J;have e:vs.toArray++ws.toArray=(vs++ws).toArray:=by simp
 by_cases hw:ws=[]
 ·exact concat_meets ⟨_,U,rfl⟩ ⟨_,q,rfl⟩ zc2 seq_tuple_add zc3 zc4 (zc5 _ _)
   (tuple_addW1 t b vs.toArray ws.toArray n n2 dd G sl F (by simpa using hv) (by simp[hw])) ⟨U,q,h1 hw⟩
 ·refine concat_meets ⟨_,U,rfl⟩ ⟨_,q,rfl⟩ zc2 seq_tuple_add zc3 zc4 (zc5 _ _)
   (tuple_addW2 t b vs.toArray ws.toArray n n2 dd G sl F (by simpa using hv) (by simpa using hw) (by rw[XX,XX];exact hsz)) ⟨U,q,?_⟩
  rw[e];exact h2 hw
noncomputable def sIx(n d:Nat):Option Int->Nat
 | none=>d
 | some v=>if v<0 then(v+(n:Int)).toNat else min v.toNat n
theorem OL(n d:Nat)(F:d<=n)(o:Option Int):sIx n d o<=n:=by
 cases o with
 | none=>exact F
 | some v=>
  show(if v<0 then(v+(n:Int)).toNat else min v.toNat n)<=n;by_cases q:v<0
  ·rw[if_pos q];lia
  ·rw[if_neg q];exact Nat.min_le_right _ _
theorem BN(v:Int)(n d:Nat):(if v<0 then max (v+(n:Int)) 0 else min v (n:Int))=((sIx n d (some v):Nat):Int):=by
 show(if v<0 then max (v+(n:Int)) 0 else min v (n:Int))=(((if v<0 then(v+(n:Int)).toNat else min v.toNat n):Nat):Int);by_cases q:v<0
 ·simp only[if_pos q];lia
 ·simp only[if_neg q];lia
theorem zK(lo hi:Option Int)(n:Nat):zc6 lo hi 1 (n:Int)=(((sIx n 0 lo:Nat):Int),((sIx n n hi:Nat):Int)):=by
 have h1:¬ ((1:Int)<0):=by lia
 unfold zc6;simp only[h1,if_false];refine Prod.ext ?_ ?_
 ·cases lo with
  | none=>rfl
  | some v=>exact BN v n 0
 ·cases hi with
  | none=>rfl
  | some v=>exact BN v n n
theorem yR(i j:Nat):zcg (i:Int) (j:Int) 1=j-i:=by
 unfold zcg;have h1:(1:Int)>0:=by lia
 simp only[h1,if_true,Int.ediv_one];split <;> lia
theorem pE(p:zaj v o)(h:Q o s):wpAny (model prog w) A (Builtin.Slice.slicePartIndex v) Q E s:=by
 cases p with
 | none=>exact slicePart_none h
 | int i t=>exact slicePart_int h
theorem gL{N:Addr}{G J:Value}{lo hi:Option Int}{n:Nat}{Q:Int×Int×Nat->XE->Prop}(hs:s.heap.IsSliceOf N G J .none)(Y:zaj G lo)(W:zaj J hi)
  (h:Q (((sIx n 0 lo:Nat):Int),1,sIx n n hi-sIx n 0 lo) s):wpAny (model prog w) A (Builtin.Slice.sliceApplied (.ref N) (pure (n:Int))) Q E s:=by
 obtain⟨os,F,U,q⟩:=id hs;unfold Builtin.Slice.sliceApplied Builtin.Slice.sliceFields;refine XD (XD (YI F q (x:=G) rfl (XD (YI F q (x:=J) rfl (XD (YI F q (x:=.none) rfl (XJ ?_)))))));refine XD (slicePart_none ?_);show wpAny _ _ (if((1:Int) == 0)=true then _ else _) _ _ s;rw[if_neg (by decide)];refine XD (pE Y (XD (pE W (XD (XJ ?_)))));show wpAny _ _ (match zc6 lo hi 1 (n:Int)with|(lo,hi)=>pure (lo,(1:Int),zcg lo hi 1)) _ _ s;rw[zK lo hi n];show wpAny _ _ (pure (((sIx n 0 lo:Nat):Int),(1:Int),zcg ((sIx n 0 lo:Nat):Int) ((sIx n n hi:Nat):Int) 1)) _ _ s;rw[yR];exact XJ h
theorem GK(xs:Array Value)(i k:Nat):((Y9 k).filterMap λ(m:Nat)=>xs[((i:Int)+(m:Int)*1).toNat]?).toArray=((xs.toList.drop i).take k).toArray:=by
 have e:(λ(m:Nat)=>xs[((i:Int)+(m:Int)*1).toNat]?)=λm=>xs[i+m]?:=by
  funext m;have:((i:Int)+(m:Int)*1).toNat=i+m:=by lia
  rw[this]
 rw[e];have:=pick_run xs i k;rw[List.filterMap_map]at this;have q:((λx=>xs[x]?) ∘ λx=>i+x)=λm=>xs[i+m]?:=rfl
 rw[q]at this;rw[this]
theorem k8{t Y:Addr}{items:Array Value}{vl vu:Value}{lo hi:Option Int}{Q:Value->XE->Prop}(G:IsTup s.heap t items)(hs:s.heap.IsSliceOf Y vl vu .none)(pl:zaj vl lo)(pu:zaj vu hi)
  (hw:¬ (sIx items.size 0 lo=0/\sIx items.size items.size hi=items.size))
  (h:Q (.ref s.heap.objs.size) {s with heap:=s.heap.push {cls:=.type "tuple",data:=.seq ((items.toList.drop (sIx items.size 0 lo)).take (sIx items.size items.size hi-sIx items.size 0 lo)).toArray} })
  (hsz:items.size<=XQ):wpAny (model prog w) A (zak (.ref t) (.ref Y)) Q E s:=by
 have F:sizeOk (.seq ((items.toList.drop (sIx items.size 0 lo)).take (sIx items.size items.size hi-sIx items.size 0 lo)).toArray):=by
  show((items.toList.drop (sIx items.size 0 lo)).take (sIx items.size items.size hi-sIx items.size 0 lo)).toArray.size<=XQ;rw[XX,zai,zbE,ZJ]
  lia
 have hj:sIx items.size items.size hi<=items.size:=OL _ _ (XU _) hi;obtain⟨os,U,J,ac⟩:=id hs;have W:s.TypeIs (.ref Y) "slice" := ⟨os,U,J⟩;unfold zak
 try with_reducible refine Y1 ?_
 first|refine XD (XJ ?_)|skip
 refine XD (wpAny_sequenceKey G.typeIs (by decide) ?_);refine XD (zal (name:=zam "__getitem__") G.typeIs zch
  (ZM zch G.typeIs entry_tuple_getitem ?_ (args_tuple_getitem _ _)))
 show wpAny _ _ (Builtin.Tuple.tupleItemsOf (.ref t) >>= _) _ _ s;refine XD (tupleItemsOf_ G ?_);refine XD (zci W ?_);rw[if_pos (by decide)];refine XD (gL hs pl pu ?_);have N:¬ ((((sIx items.size 0 lo:Nat):Int) == 0 && (1:Int) == 1 && (sIx items.size items.size hi-sIx items.size 0 lo) == items.size)=true):=by
  intro q;rw[YU,YU]at q;have q1:((sIx items.size 0 lo:Nat):Int)=0:=eq_of_beq q.1.1;have q2:sIx items.size items.size hi-sIx items.size 0 lo=items.size:=eq_of_beq q.2;exact hw ⟨by lia,by lia⟩
 show wpAny _ _ (if(((sIx items.size 0 lo:Nat):Int) == 0 && (1:Int) == 1 && (sIx items.size items.size hi-sIx items.size 0 lo) == items.size)=true then _ else _) _ _ s;rw[if_neg N,GK]
 first
  | exact XD (m:=zcj _) (ZD (XJ ⟨_,rfl,XJ h⟩) F)
  | exact XD (m:=zcj _) (ZD (XD (XJ (XJ ⟨_,rfl,XJ h⟩))) F)
  | exact XD (XD (m:=zcj _) (ZD (XJ (XJ ⟨_,rfl,XJ h⟩)) F))
  | exact XD (XD (m:=zcj _) (ZD (XJ ⟨_,rfl,XJ h⟩) F))
end
end HT
namespace L2
open PySem PySem.Spec PyProof.Rows
abbrev TO:=St->Hp->(Option Int->Hp->Prop)->Prop
def PO(X:Cx)(e:Option Expr)(t:TO):Prop:=
 ∀(pins:List (Addr×Obj)) (s:XE) (σ:St) (H:Hp) (Q:Option Int->Hp->Prop),Inv X pins σ H s->t σ H Q->
  wpAny (model X.prog X.w) X.A (evalPart e X.env) (λu s'=>∃o H',Inv X pins σ H' s'/\zaj u o/\Q o H') X.xe s
def LL:TO:=λ_ H Q=>Q none H
def S7(t:TE):TO:=λσ H Q=>t σ H λx H1=>∃i,x=.int i/\Q (some i) H1
theorem intsAre_of:∀ {q:List Value},Vals (ns.map V.int) q->YX q ns:=by
 induction ns with
 | nil=>intro q r;rw[zck]at r;cases r;exact .nil
 | cons n ns ih=>
  intro q r;rw[XW]at r;cases r with
  | cons r1 r2=>
   obtain⟨t,e⟩:=r1;subst e;exact .cons n t (ih r2)
section
variable {X:Cx}{e:Expr}{te:TE}{lo hi:Option Expr}{tl th:TO}{pos p2:Pos}
theorem LA:PO X none LL:=by
 intro pins s σ H Q I h;rw[evalPart_none];exact XJ ⟨none,H,I,.none,h⟩
theorem LW(h:PE X e te):PO X (some e) (S7 te):=by
 intro pins s σ H Q I hw;rw[evalPart_some];refine bX (h pins s σ H _ I hw) λu N ⟨x,H1,F,J,G⟩=>?_
 obtain⟨i,rfl,q⟩:=G;obtain⟨t,rfl⟩:=J;exact⟨some i,H1,F,.int i t,q⟩
def SlR(X:Cx)(r:V->Option Int->Option Int->Hp->VK->Prop):Prop:=
 ∀(pins:List (Addr×Obj)) (s:XE) (σ:St) (H:Hp) (x:V) (v vl vu:Value) (lo hi:Option Int) (sl:Addr) (Q:VK),Inv X pins σ H s->RelV x v->s.heap.IsSliceOf sl vl vu .none->zaj vl lo->zaj vu hi->r x lo hi H Q->
  ∃T id,typeLookup (.type T) "__getitem__" = pure (some (.builtin id))/\s.TypeIs v T/\wpAny (model X.prog X.w) X.A (zak v (.ref sl)) (EP X pins σ Q) X.xe s
theorem SlR.or(h:SlR X r)(h':SlR X r'):SlR X (λx lo hi H Q=>r x lo hi H Q\/r' x lo hi H Q):=by
 intro pins s σ H x v F N lo hi U Q I J hs W G q;rcases q with q|q
 ·exact h pins s σ H x v F N lo hi U Q I J hs W G q
 ·exact h' pins s σ H x v F N lo hi U Q I J hs W G q
def W1(r:V->Option Int->Option Int->Hp->VK->Prop)(te:TE)(tl th:TO):TE:=λσ H Q=>te σ H λx H1=>tl σ H1 λl H2=>th σ H2 λu q=>r x l u q Q
theorem xI(hr:SlR X r)(he:PE X e te)(hl:PO X lo tl)(hu:PO X hi th):PE X (.Subscript e (.Slice lo hi none p2) pos) (W1 r te tl th):=by
 intro pins s σ H Q I h;refine Subscript_ (bX (he pins s σ H _ I h) λv U ⟨x,H1,I1,r1,q1⟩=>?_);refine wpAny_Slice (bX (hl pins U σ H1 _ I1 q1) λG W ⟨l,H2,I2,pl,q2⟩=>bX (hu pins W σ H2 _ I2 q2) λJ F ⟨u,N,Y,pu,q3⟩=>?_);rw[evalPart_none];refine XJ ?_;have I4:Inv X pins σ N {F with heap:=F.heap.push {cls:=.type "slice",data:=.fields #[G,J,.none]} }:=Y.kept (t':=F.toks) λb ob q=>XT _ q
 obtain⟨T,id,hT,ht,hg⟩:=hr pins {F with heap:=F.heap.push {cls:=.type "slice",data:=.fields #[G,J,.none]} } σ N x v G J l u F.heap.objs.size Q I4 r1 (Heap.IsSliceOf.new ..) pl pu q3;show wpAny (model X.prog X.w) X.A (subscriptTail e (.Slice lo hi none p2) v (.ref F.heap.objs.size)) (EP X pins σ Q) X.xe {F with heap:=F.heap.push {cls:=.type "slice",data:=.fields #[G,J,.none]} };exact tail_any (ops:=[.ref F.heap.objs.size,v]) ht hT hg (by with_unfolding_all rfl)
def sI(xs:List V)(lo hi:Option Int):List V:=(xs.drop (HT.sIx xs.length 0 lo)).take (HT.sIx xs.length xs.length hi-HT.sIx xs.length 0 lo)
theorem nI(xs:List V)(lo hi:Option Int):(sI xs lo hi).length<=xs.length:=by
 unfold sI;rw[zai,zbE]
 lia
def TZ(K:XF):V->Option Int->Option Int->Hp->VK->Prop:=λx lo hi H Q=>∃a xs,x=.ref a/\SqT K H a xs /\
 ¬ (HT.sIx xs.length 0 lo=0/\HT.sIx xs.length xs.length hi=xs.length)/\∀p,H p=none->Q (.ref p) (upd H p (.tup (sI xs lo hi)))
theorem OA:SlR X (TZ X.K):=by
 intro pins s σ H x v vl vu lo hi sl Q I U hs Y N h;obtain⟨a,xs,rfl,W,hw,q⟩:=h;cases U;obtain⟨G,r,J,hz⟩:=I.tuple W;have F:G.toArray.size=xs.length:=by rw[XX];exact r.length.symm
 refine⟨"tuple",_,PyProof.Rows.slot_tuple_getitem.lookup,J.typeIs,?_⟩;refine HT.k8 J hs Y N (by rw[F];exact hw) ?_ (by rw[F];exact hz);rw[F];refine⟨.ref s.heap.objs.size,_,I.laid (t':=s.toks) (o:=.tup (sI xs lo hi)) (λb ob q=>XT _ q) (XU _) ?_,rfl,q _ (I.hok.fresh (XU _))⟩;exact⟨Y0 (nI xs lo hi) hz,_,(r.drop (HT.sIx xs.length 0 lo)).take (HT.sIx xs.length xs.length hi-HT.sIx xs.length 0 lo),IsTupN.new _ _⟩
def VS(K:XF):R2:=λx y H Q=>∃a b ns ms,x=.ref a/\y=.ref b/\SqT K H a (ns.map V.int)/\SqT K H b (ms.map V.int)/\Q (.bl (HT.lexLt ns ms)) H
theorem QH(hu:X.A.units<cLine):OpR X (XY .Lt) (VS X.K):=by
 intro pins s σ H x y v u Q I Y ry h;obtain⟨a,b,ns,ms,rfl,rfl,N,J,q⟩:=h;cases Y;cases ry;obtain⟨G,r1,p1,_⟩:=I.tuple N;obtain⟨F,W,p2,_⟩:=I.tuple J;have i1:YX G.toArray.toList ns:=intsAre_of r1;have U:YX F.toArray.toList ms:=intsAre_of W;exact HT.pA p1 p2 i1 U hu ⟨.bl (HT.lexLt ns ms),H,I,rfl,q⟩
def SM(K:XF):R2:=λx y H Q=>∃a b xs ys,x=.ref a/\y=.ref b/\SqT K H a xs/\SqT K H b ys/\xs≠[]/\xs.length+ys.length<=XQ /\
 (ys=[]->Q (.ref a) H)/\(ys≠[]->∀p,H p=none->Q (.ref p) (upd H p (.tup (xs++ys))))
theorem Vals.nil_iff(r:Vals xs us):us=[]↔xs=[]:=by
 cases r with
 | nil=>simp
 | cons _ _=>simp
theorem JW:OpR X (YT .Add) (SM X.K):=by
 intro pins s σ H x y v u Q I rx ry h;obtain⟨a,b,xs,ys,rfl,rfl,W,U,hx,hz,N,q2⟩:=h;cases rx;cases ry;obtain⟨Y,G,p1,_⟩:=I.tuple W;obtain⟨J,F,p2,_⟩:=I.tuple U;refine HT.KO p1 p2 (λz=>hx (G.nil_iff.mp z)) (λz=>⟨.ref a,H,I,rfl,N (F.nil_iff.mp z)⟩) (λz=>?_) (by rw[<- G.length,<- F.length];exact hz);refine⟨.ref s.heap.objs.size,_,I.laid (t':=s.toks) (o:=.tup (xs++ys)) (λb ob q=>XT _ q) (XU _) ?_,rfl,q2 (λw=>z (F.nil_iff.mpr w)) _ (I.hok.fresh (XU _))⟩;exact⟨by rw[Y3];exact hz,_,G.append F,IsTupN.new _ _⟩
end
noncomputable def JD(n:Nat)(i:Int):Option Nat:=if 0<=i then(if i<n then some i.toNat else none)else if -(n:Int)<=i then some (i+n).toNat else none
def fS{α:Type}(xs:List α)(i:Int):Option α:=(JD xs.length i).bind λj=>xs[j]?
theorem A5(h:JD n i=some j):seqIndex? i n=some j/\j<n/\-(n:Int)<=i/\i<n:=by
 unfold JD at h;by_cases h0:0<=i
 ·rw[if_pos h0]at h
  by_cases h1:i<n
  ·rw[if_pos h1]at h
   have e:i.toNat=j:=YJ h;exact⟨by rw[seqIndex_of h0 h1,e],by lia,by lia,h1⟩
  ·rw[if_neg h1]at h;cases h
 ·rw[if_neg h0]at h
  by_cases h1:-(n:Int)<=i
  ·rw[if_pos h1]at h
   have e:(i+n).toNat=j:=YJ h;exact⟨by rw[seqIndex_neg (by lia) h1,e],by lia,h1,by lia⟩
  ·rw[if_neg h1]at h;cases h
theorem u0{q:Type}{xs:List q}{i:Int}{v:q}(h:fS xs i=some v):∃j,seqIndex? i xs.length=some j/\xs[j]?=some v/\j<xs.length/\-(xs.length:Int)<=i/\i<xs.length:=by
 unfold fS at h;cases e:JD xs.length i with
 | none=>rw[e]at h;cases h
 | some j=>
  rw[e]at h;obtain⟨h1,h2,F,G⟩:=A5 e;exact⟨j,h1,h,h2,F,G⟩
theorem lV{q:Type}{xs:List q}{j:Nat}{v:q}(h:xs[j]?=some v):fS xs (j:Int)=some v:=by
 have F:j<xs.length:=(List.getElem?_eq_some_iff.mp h).1;have e:JD xs.length (j:Int)=some j:=by
  unfold JD;rw[if_pos (by lia),if_pos (by lia)];simp
 unfold fS;rw[e];exact h
def u6(b:Expr):Prop:=∀o i,zcl b false o i=operate [o,i] (zak o i)
def IxR(X:Cx)(r:R2):Prop:=
 ∀(value slice:Expr) (pins:List (Addr×Obj)) (s:XE) (σ:St) (H:Hp) (x y:V) (v u:Value) (Q:VK),Inv X pins σ H s->RelV x v->RelV y u->r x y H Q->
  zcl slice false v u=operate [v,u] (zak v u)->wpAny (model X.prog X.w) X.A (subscriptTail value slice v u) (EP X pins σ Q) X.xe s
def MtR(X:Cx)(id:String)(r:V->List V->Hp->VK->Prop):Prop:=
 ∀(pins:List (Addr×Obj)) (s:XE) (σ:St) (H:Hp) (x:V) (xs:List V) (v:Value) (us:List Value) (Q:VK),Inv X pins σ H s->RelV x v->Vals xs us->r x xs H Q->
  wpAny (model X.prog X.w) X.A (call (.builtin id) (v::us)) (EP X pins σ Q) X.xe s
section
variable {X:Cx}{a b:Expr}{ta tb:TE}{pos:Pos}
theorem IxR.or(h:IxR X r)(h':IxR X r'):IxR X (λx y H Q=>r x y H Q\/r' x y H Q):=by
 intro value F pins s σ H x y v u Q I G J q hs;rcases q with q|q
 ·exact h value F pins s σ H x y v u Q I G J q hs
 ·exact h' value F pins s σ H x y v u Q I G J q hs
theorem MtR.or{id:String}{r F:V->List V->Hp->VK->Prop}(h:MtR X id r)(h':MtR X id F):MtR X id (λx xs H Q=>r x xs H Q\/F x xs H Q):=by
 intro pins s σ H x xs v G Q I N J q;rcases q with q|q
 ·exact h pins s σ H x xs v G Q I N J q
 ·exact h' pins s σ H x xs v G Q I N J q
theorem SL(N:IxR X r)(J:PE X a ta)(F:PE X b tb)(hs:u6 b):PE X (.Subscript a b pos) (RM r ta tb):=by
 intro pins s σ H Q I h;exact Subscript_ (Q1 J F I h λv u G x y H2 U W Y q=>N a b pins G σ H2 x y v u Q U W Y q (hs _ _))
def TY(K:XF):R2:=λx y H Q=>∃p xs i v,x=.ref p/\y=.int i/\SqL K H p xs/\fS xs i=some v/\Q v H
def TN(K:XF):R2:=λx y H Q=>∃p xs i v,x=.ref p/\y=.int i/\SqT K H p xs/\fS xs i=some v/\Q v H
def UB:R2:=λx y H Q=>∃z i c,x=.str z/\y=.int i/\z.length<=XQ/\fS z.cps.toList i=some c/\Q (.str ⟨#[c]⟩) H
theorem JT:IxR X (TY X.K):=by
 intro value F pins s σ H x y v u Q I rx ry h hs;obtain⟨p,xs,i,z,rfl,rfl,hq,he,q⟩:=h;cases rx;obtain⟨t,rfl⟩:=ry;obtain⟨J,r,U,hz⟩:=I.list hq;obtain⟨j,h1,h2,h3,h4,h5⟩:=u0 he;obtain⟨w,W,G⟩:=r.get h2;have Y:=r.length;have hn:=qU;have fin:EP X pins σ Q w s:=⟨z,H,I,G,q⟩;by_cases h0:0<=i
 ·have N:i.toNat=j:=by
   rw[seqIndex_of h0 h5]at h1;exact YJ h1
  exact item_listR U.isList h0 (by lia) (by rw[N];simpa using W) fin hs
 ·have N:(i+(J.toArray.size:Int)).toNat=j:=by
   rw[seqIndex_neg (by lia) h4]at h1;rw[XX,<- Y];exact YJ h1
  exact subscriptTail_builtinR (x:=w) U.isList.typeIs slot_list_getitem.lookup
   (wpAny_getItem_list_neg (Q:=λr s'=>r=w/\EP X pins σ Q r s') U.isList (by lia) (by rw[XX] <;> lia) (by lia) (by rw[N];simpa using W) ⟨rfl,fin⟩) hs
theorem N1:IxR X (TN X.K):=by
 intro value F pins s σ H x y v u Q I rx ry h hs;obtain⟨p,xs,i,z,rfl,rfl,W,he,q⟩:=h;cases rx;obtain⟨t,rfl⟩:=ry;obtain⟨Y,r,J,hz⟩:=I.tuple W;obtain⟨j,h1,h2,h3,h4,h5⟩:=u0 he;obtain⟨w,N,G⟩:=r.get h2;have U:=r.length;have hn:=qU;have fin:EP X pins σ Q w s:=⟨z,H,I,G,q⟩;exact subscriptTail_builtinR (x:=w) J.typeIs slot_tuple_getitem.lookup
  (getItem_tuple (j:=j) (Q:=λr s'=>r=w/\EP X pins σ Q r s') J (by lia) (by lia) (by rw[XX,<- U];exact h1) (by simpa using N) ⟨rfl,fin⟩) hs
theorem QE:IxR X UB:=by
 intro value F pins s σ H x y v u Q I W Y h hs;obtain⟨z,i,c,rfl,rfl,hz,he,q⟩:=h;obtain⟨t,rfl⟩:=W;obtain⟨t',rfl⟩:=Y;obtain⟨j,h1,h2,h3,U,h5⟩:=u0 he;have J:z.cps.toList.length=z.length:=by simp[Str.length]
 rw[J]at h1 U h5;have hn:=qU;exact tail_any (typeIs_str s z t) slot_str_getitem.lookup (getItem_str (c:=c) (by
  have G:decide (i < -(2^63:Int))=false:=decide_eq_false (by lia);have N:decide (i ≥ 2^63)=false:=decide_eq_false (by lia);rw[G,N,Bool.or_false]) (by rw[h1];simpa using h2) ⟨.str ⟨#[c]⟩,H,I.tok _,⟨_,rfl⟩,q⟩) hs
def WX(K:XF):R2:=λx y H Q=>TY K x y H Q\/TN K x y H Q\/UB x y H Q
theorem PK:IxR X (WX X.K):=JT.or (N1.or QE)
theorem yW(q:List Value)(n j:Nat)(u:Value):ZE (·.setIfInBounds j u) {cls:=.type "list",data:=.seq q.toArray n}={cls:=.type "list",data:=.seq (q.set j u).toArray n}:=by
 simp[ZE]
theorem Inv.lst{pins:List (Addr×Obj)}{σ:St}{H:Hp}{s:XE}{p:Addr}{xs:List V}(I:Inv X pins σ H s)(h:H p=some (.lst xs)) :
  ∃(q:List Value) (n:Nat),Vals xs q/\s.heap.get? p=some {cls:=.type "list",data:=.seq q.toArray n}/\xs.length<=XQ:=by
 obtain⟨z,q,n,r,e⟩:=I.hok p _ h;exact⟨q,n,r,e,z⟩
theorem Inv.lstUpd{pins:List (Addr×Obj)}{xs ys:List V}{F its':List Value}{n G:Nat}{f:Obj->Obj}(I:Inv X pins σ H s)(h:H p=some (.lst xs))
  (U:s.heap.get? p=some {cls:=.type "list",data:=.seq F.toArray n}) (J:f {cls:=.type "list",data:=.seq F.toArray n}={cls:=.type "list",data:=.seq its'.toArray G}) (r:Vals ys its') (hz:ys.length<=XQ) (t:Nat) :
  Inv X pins σ (upd H p (.lst ys)) {s with heap:=s.heap.update p f,toks:=t}:=by
 have e:(s.heap.update p f).get? p=some {cls:=.type "list",data:=.seq its'.toArray G}:=by
  rw[ZS f U (by rw[J] <;> rfl),J]
 refine I.write (x:=p) (e:=p) (by rw[h];trivial) (.inl rfl) (λb u N q=>(Y5 _ _ (X5 N)).trans q) ⟨_,e⟩ ?_;exact⟨hz,its',G,r,e⟩
def S1:V->V->V->Hp->(Hp->Prop)->Prop:=λo i v H Q=>∃p xs k j,o=.ref p/\i=.int k/\H p=some (.lst xs)/\JD xs.length k=some j/\Q (upd H p (.lst (xs.set j v)))
theorem set_list:MN X S1:=by
 intro pins s σ H o i v ov iv u Q I ro ri rv h;obtain⟨p,xs,k,j,rfl,rfl,hp,hj,q⟩:=h;cases ro;obtain⟨t,rfl⟩:=ri;obtain⟨F,n,r,J,hz⟩:=I.lst hp;obtain⟨h1,h2,U,h4⟩:=A5 hj;have G:=r.length;have hn:=qU;have Y:Inv X pins σ (upd H p (.lst (xs.set j v))) {s with heap:=s.heap.update p (ZE (·.setIfInBounds j u))}:=
  I.lstUpd hp J (yW F n j u) (r.set rv j) (by rw[zbc];exact hz) s.toks
 by_cases h0:0<=k
 ·have N:k.toNat=j:=by
   rw[seqIndex_of h0 h4]at h1;exact YJ h1
  exact PySem.W.ki_setAt J h0 (by lia) (by rw[XX,<- G];exact h4) (by rw[N];exact⟨_,Y,q⟩)
 ·have N:(k+(F.toArray.size:Int)).toNat=j:=by
   rw[seqIndex_neg (by lia) U]at h1;rw[XX,<- G];exact YJ h1
  exact PySem.W.ki_setBack J (by lia) (by rw[XX,<- G];exact U) (by lia) (by rw[N];exact⟨_,Y,q⟩)
theorem uW(lo hi:Option Int)(n:Nat):(zan lo hi none n).1=((HT.sIx n 0 lo:Nat):Int)/\(zan lo hi none n).2.1=((HT.sIx n n hi:Nat):Int)/\(zan lo hi none n).2.2=1:=by
 refine⟨?_,?_,rfl⟩
 ·cases lo with
  | none=>simp[zan,HT.sIx]
  | some i=>
   simp only[zan,HT.sIx,Option.getD_none,show(1:Int)>0 by decide,if_true];by_cases h:i<0
   ·simp only[h,if_true] <;> lia
   ·simp only[h,if_false] <;> lia
 ·cases hi with
  | none=>simp[zan,HT.sIx]
  | some i=>
   simp only[zan,HT.sIx,Option.getD_none,show(1:Int)>0 by decide,if_true];by_cases h:i<0
   ·simp only[h,if_true] <;> lia
   ·simp only[h,if_false] <;> lia
theorem rR(q:List Value)(lo hi:Option Int):slicePick q.toArray lo hi none=((q.drop (HT.sIx q.length 0 lo)).take (HT.sIx q.length q.length hi-HT.sIx q.length 0 lo)).toArray:=by
 obtain⟨h1,h2,F⟩:=uW lo hi q.toArray.size;unfold slicePick;rw[h1,h2,F];simp only[sliceRange_one,pick_run,XX] <;> rfl
def VG(K:XF):V->Option Int->Option Int->Hp->VK->Prop:=λx lo hi H Q=>∃a xs,x=.ref a/\SqL K H a xs/\∀p,H p=none->Q (.ref p) (upd H p (.lst (sI xs lo hi)))
theorem K3:SlR X (VG X.K):=by
 intro pins s σ H x v vl vu lo hi sl Q I U hs Y N h;obtain⟨a,xs,rfl,W,q⟩:=h;cases U;obtain⟨J,r,G,hz⟩:=I.list W;have F:=r.length;refine⟨"list",_,slot_list_getitem.lookup,G.isList.typeIs,?_⟩;refine wpAny_getItem_list_slice G.isList hs Y N .none (by simp) ?_ (by rw[XX] <;> lia);rw[rR,<- F];refine⟨.ref s.heap.objs.size,_,I.laid (t':=s.toks) (o:=.lst (sI xs lo hi)) (λb ob q=>XT _ q) (XU _) ?_,rfl,q _ (I.hok.fresh (XU _))⟩;exact⟨Y0 (nI xs lo hi) hz,_,0,(r.drop (HT.sIx xs.length 0 lo)).take (HT.sIx xs.length xs.length hi-HT.sIx xs.length 0 lo),X9 _ rfl⟩
noncomputable def l7:V->Bool
 | .non=>true
 | .bl _=>true
 | .int _=>true
 | .str _=>true
 | _=>false
noncomputable def NM:V->V->Bool
 | .non,.non=>true
 | .bl a,.bl b=>a == b
 | .bl a,.int b=>(if a then 1 else 0) == b
 | .int a,.bl b=>a == (if b then 1 else 0)
 | .int a,.int b=>a == b
 | .str a,.str b=>a == b
 | _,_=>false
theorem QU(F:RelV y u)(q:RelV x v)(G:l7 y=true)(fx:l7 x=true):zbD A s u v (NM y x):=by
 cases y with
 | non=>
  cases F;cases x with
  | non=>cases q;exact SeqAt.EqAt.same _
  | bl b=>cases q;exact SeqAt.EqAt.none_bool b
  | int b=>obtain⟨t,rfl⟩:=q;exact SeqAt.EqAt.none_int b t
  | str b=>obtain⟨t,rfl⟩:=q;exact SeqAt.EqAt.none_str b t
  | _=>exact absurd (show false=true from fx) XZ
 | bl a=>
  cases F;cases x with
  | non=>cases q;exact SeqAt.EqAt.bool_none a
  | bl b=>cases q;exact SeqAt.EqAt.bool_bool a b
  | int b=>obtain⟨t,rfl⟩:=q;exact SeqAt.EqAt.bool_int a b t
  | str b=>obtain⟨t,rfl⟩:=q;exact SeqAt.EqAt.bool_str a b t
  | _=>exact absurd (show false=true from fx) XZ
 | int a=>
  obtain⟨t',rfl⟩:=F;cases x with
  | non=>cases q;exact SeqAt.EqAt.int_none a t'
  | bl b=>cases q;exact SeqAt.EqAt.int_bool a t' b
  | int b=>obtain⟨t,rfl⟩:=q;exact SeqAt.EqAt.int_int a t' b t
  | str b=>obtain⟨t,rfl⟩:=q;exact SeqAt.EqAt.int_str a t' b t
  | _=>exact absurd (show false=true from fx) XZ
 | str a=>
  obtain⟨t',rfl⟩:=F;cases x with
  | non=>cases q;exact SeqAt.EqAt.str_none a t'
  | bl b=>cases q;exact SeqAt.EqAt.str_bool a t' b
  | int b=>obtain⟨t,rfl⟩:=q;exact SeqAt.EqAt.str_int a t' b t
  | str b=>obtain⟨t,rfl⟩:=q;exact SeqAt.EqAt.str_str a t' b t
  | _=>exact absurd (show false=true from fx) XZ
 | _=>exact absurd (show false=true from G) XZ
def M0(x:V)(u:Value):Bool:=match u with
 | .none=>NM .non x
 | .bool b=>NM (.bl b) x
 | .int i _=>NM (.int i) x
 | .str z _=>NM (.str z) x
 | _=>false
theorem HK(r:RelV y u)(f:l7 y=true):M0 x u=NM y x:=by
 cases y with
 | non=>cases r;rfl
 | bl b=>cases r;rfl
 | int i=>obtain⟨t,rfl⟩:=r;rfl
 | str z=>obtain⟨t,rfl⟩:=r;rfl
 | _=>exact absurd (show false=true from f) XZ
theorem vE:∀ {xs:List V} {us:List Value},Vals xs us->xs.all l7=true->us.any (M0 x)=xs.any λy=>NM y x
 | _,_,.nil,_=>rfl
 | y::xs,u::us,.cons r t,f=>by
  rw[zbd,YU]at f;rw[Z1,Z1,HK r f.1,vE t f.2]
theorem qI(F:RelV x v)(fx:l7 x=true):∀ {xs:List V} {us:List Value},Vals xs us->xs.all l7=true->∀u∈us,zbD A s u v (M0 x u)
 | _,_,.nil,_=>λu q=>by cases q
 | y::xs,u::us,.cons r t,f=>λG q=>by
  rw[zbd,YU]at f;rcases List.mem_cons.mp q with rfl|q
  ·rw[HK r f.1];exact QU r F f.1 fx
  ·exact qI F fx t f.2 G q
def inV(x:V)(xs:List V):Bool:=xs.any λy=>NM y x
def WL(K:XF)(neg:Bool):R2:=λx y H Q=>∃p xs,y=.ref p/\(SqL K H p xs\/SqT K H p xs)/\l7 x=true/\xs.all l7=true/\Q (.bl (if neg then !inV x xs else inV x xs)) H
theorem DD:OpR X (XY .In) (WL X.K false):=by
 intro pins s σ H x y v u Q I N U h;obtain⟨p,xs,rfl,G,fx,fs,q⟩:=h;cases U;rcases G with G|G
 ·obtain⟨F,r,J,hz⟩:=I.list G
  refine SeqAt.in_listAt (M0 x) J.isList (λw hw=>qI N fx r fs w (by simpa using hw)) ⟨.bl _,H,I,rfl,?_⟩;rw[show F.toArray.any (M0 x)=F.any (M0 x) by simp,vE r fs];exact q
 ·obtain⟨F,r,J,hz⟩:=I.tuple G
  refine SeqAt.in_tupleAt (M0 x) J (λw hw=>qI N fx r fs w (by simpa using hw)) ⟨.bl _,H,I,rfl,?_⟩;rw[show F.toArray.any (M0 x)=F.any (M0 x) by simp,vE r fs];exact q
theorem CallR.or(h:CallR X f r)(h':CallR X f r'):CallR X f (λxs H Q=>r xs H Q\/r' xs H Q):=by
 intro pins s σ H xs F Q I G q;rcases q with q|q
 ·exact h pins s σ H xs F Q I G q
 ·exact h' pins s σ H xs F Q I G q
theorem uT:CallR X (.type "list") (λxs H Q=>∃p ys,xs=[.ref p]/\(SqL X.K H p ys\/SqT X.K H p ys)/\∀l,H l=none->Q (.ref l) (upd H l (.lst ys))):=by
 intro pins s σ H xs us Q I r h;obtain⟨p,ys,rfl,U,q⟩:=h;obtain⟨u,rfl,rx⟩:=vals1 r;cases rx;have fin:∀(F:List Value),Vals ys F->ys.length<=XQ->∀(h':Heap) (J:Nat),(∀b o',s.heap.get? b=some o'->h'.get? b=some o')->
   h'.get? s.heap.objs.size=some {cls:=.type "list",dict:=none,data:=.seq F.toArray J,slots:=#[]}->EP X pins σ Q (.ref s.heap.objs.size) {s with heap:=h'}:=λF G hz h' J N e=>
  ⟨.ref s.heap.objs.size,_,I.laid (t':=s.toks) N (XU _) (show ObjOk X.prog X.w _ h' _ (.lst ys)from⟨hz,F,J,G,e⟩),rfl,q _ (I.hok.fresh (XU _))⟩
 rcases U with U|U
 ·obtain⟨F,G,pl,hz⟩:=I.list U
  have W:=G.length;obtain⟨o,ho,hc,n,Y⟩:=pl.isList;exact call_list_seq p (.inl rfl) ho hc Y (λh' J N e=>fin F G hz h' J N e) (by simp only[XX] <;> lia)
 ·obtain⟨F,G,pl,hz⟩:=I.tuple U
  have W:=G.length;obtain⟨o,ho,hc,n,Y⟩:=pl;exact call_list_seq p (.inr rfl) ho hc Y (λh' J N e=>fin F G hz h' J N e) (by simp only[XX] <;> lia)
theorem rV:CallR X (.type "tuple") (λxs H Q=>∃p ys,xs=[.ref p]/\((SqL X.K H p ys/\∀l,H l=none->Q (.ref l) (upd H l (.tup ys)))\/(SqT X.K H p ys/\Q (.ref p) H))):=by
 intro pins s σ H xs us Q I r h;obtain⟨p,ys,rfl,h⟩:=h;obtain⟨u,rfl,rx⟩:=vals1 r;cases rx;rcases h with⟨J,q⟩|⟨J,q⟩
 ·obtain⟨F,G,N,hz⟩:=I.list J
  have W:=G.length;refine call_tuple_list N.isList (λh' Y=>?_) (by simp only[XX] <;> lia);have U:Inv X pins σ H {s with heap:=h'}:=I.kept (t':=s.toks) Y;have I2:Inv X pins σ (upd H h'.objs.size (.tup ys)) {s with heap:=h'.push {cls:=.type "tuple",data:=.seq F.toArray} }:=
   U.laid (t':=s.toks) (λb o e=>XT _ e) (XU _) (show ObjOk X.prog X.w _ _ _ (.tup ys)from⟨hz,F,G,IsTupN.new _ _⟩)
  exact⟨.ref h'.objs.size,_,I2,rfl,q _ (U.hok.fresh (XU _))⟩
 ·obtain⟨F,G,N,hz⟩:=I.tuple J
  exact call_tuple_same N ⟨.ref p,H,I,rfl,q⟩
def WK(K:XF)(T:String)(x:V)(H:Hp):Prop:=match x with
 | .str _=>T = "str"
 | .int _=>T = "int"
 | .ref p=>(T = "list" /\ ∃xs,SqL K H p xs)\/(T = "tuple" /\ ∃o,K.lookup p=some o/\o.cls=.type "tuple" /\ o.dict=none) \/
   (T = "dict" /\ ((∃kvs,H p=some (.dK kvs))\/∃kvs,H p=some (.dT kvs)))\/(T = "set" /\ ∃S n,H p=some (.set S n))
 | _=>False
theorem OS(I:Inv X pins σ H s)(r:RelV x v)(ty:WK X.K T x H) :
  s.TypeIs v T/\∀a,v=.ref a->∃ob,s.heap.get? a=some ob/\ob.dict=none:=by
 cases x with
 | str z=>
  obtain⟨t,rfl⟩:=r;cases(show T = "str" from ty);exact⟨typeIs_str s z t,λ_ e=>nomatch e⟩
 | int i=>
  obtain⟨t,rfl⟩:=r;cases(show T = "int" from ty);exact⟨zbF s i t,λ_ e=>nomatch e⟩
 | ref p=>
  cases r;rcases ty with⟨rfl,xs,W⟩|⟨rfl,o,q,U,G⟩|⟨rfl,q⟩|⟨rfl,S,n,q⟩
  ·obtain⟨N,_,J,_⟩:=I.list W
   refine⟨J.isList.typeIs,λa e=>?_⟩;cases e;obtain⟨o,n,e,c,G,_⟩:=J;exact⟨o,e,G⟩
  ·refine⟨⟨o,I.kIn p o q,U⟩,λa e=>?_⟩
   cases e;exact⟨o,I.kIn _ o q,G⟩
  ·have z:∃o,s.heap.get? p=some o/\o.ExactDict:=by
    rcases q with⟨kvs,q⟩|⟨kvs,q⟩
    ·obtain⟨_,_,_,_,o,_,_,e,ex,_⟩:=I.hok p _ q
     exact⟨o,e,ex⟩
    ·obtain⟨_,_,_,_,o,_,_,e,ex,_⟩:=I.hok p _ q
     exact⟨o,e,ex⟩
   obtain⟨o,e,ex⟩:=z;refine⟨⟨o,e,ex.1⟩,λa F=>?_⟩;cases F;exact⟨o,e,ex.2.1⟩
  ·obtain⟨o,_,_,_,e,ex,_⟩:=I.hok p _ q
   refine⟨⟨o,e,ex.1⟩,λa F=>?_⟩;cases F;exact⟨o,e,ex.2.1⟩
 | _=>exact YF ty
def UZ(K:XF)(T:String)(r:V->List V->Hp->VK->Prop)(to:TE)(t:TA):TE:=λσ H Q=>to σ H λx H1=>WK K T x H1/\t σ H1 λxs H2=>r x xs H2 Q
variable {o e:Expr}{es:List Expr}{to:TE}{t:TA}{name:Str}{apos cpos:Pos}{T id:String}{r:V->List V->Hp->VK->Prop}
theorem B5(pa:PlainAttrs T)(N:Slot T name id)(U:zao (.builtin id)=pure (.type "method_descriptor"))(hm:MtR X id r)(ho:PE X o to)(ha:PA X (e::es) t)
  (F:zbe o name X.env (eval o X.env)=eval o X.env:=by rfl)
  (J:((X0 cpos (XI (e::es) X.env)).all (λx => !x.1) && (backToKw cpos (zcm [] X.env)).all (λx => x.1.isSome)
   && decide ((e::es).length+([]:List zax).length+(if([]:List zax).isEmpty then 0 else 1)<30))=true:=by rfl)
  (G:(apos.endLine == cpos.line)=true:=by rfl) (hs:XI (e::es) X.env=(false,eval e X.env)::XI es X.env:=by rfl) (q:(X0 cpos (XI es X.env)).any (·.1)=false:=by rfl) :
  PE X (.Call (.Attribute o name apos) (e::es) [] cpos) (UZ X.K T r to t):=by
 intro pins s σ H Q I h;refine wpAny_Call_method_late F J G rfl (bX (ho pins s σ H _ I h) λv s1 ⟨x,H1,Y,r1,ty,q1⟩=>?_);obtain⟨h1,h2⟩:=OS Y r1 ty;refine⟨T,id,pa,N,U,h1,h2,?_⟩;have W:=ha cpos pins s1 σ H1 _ Y q1;rw[hs]at W ⊢;refine zc7 (by show(false || (X0 cpos (XI es X.env)).any (·.1))=false;rw[q] <;> rfl) (zcn ?_);exact bX W λus s2 ⟨vs,H2,I2,r2,q2⟩=>hm pins s2 σ H2 x vs v us Q I2 r1 r2 q2
end
def US(X:Cx)(id:String)(r:V->List V->Hp->VK->Prop):Prop:=
 ∀(pins:List (Addr×Obj)) (s:XE) (σ:St) (H:Hp) (x:V) (xs:List V) (v:Value) (us:List Value) (Q:VK),Inv X pins σ H s->RelV x v->Vals xs us->r x xs H Q->
  wpAny (model X.prog X.w) X.A (call (.builtin id) (v::us)) (EP X pins σ Q) X.xe s
theorem Vals.one:∀ {x:V} {us:List Value},Vals [x] us->∃u,us=[u]/\RelV x u
 | _,_,.cons r .nil=>⟨_,rfl,r⟩
theorem Vals.zero:∀ {us:List Value},Vals [] us->us=[]
 | _,.nil=>rfl
theorem Vals.rep(h:Vals xs us):∀k:Nat,Vals (YE k xs).flatten (YE k us).flatten
 | 0=>.nil
 | k+1=>by
  rw[zaA,zaA,zaT,zaT];exact Vals.append h (Vals.rep h k)
theorem foldl_rep(q:List Value):∀(k:Nat) (acc:List Value),
  List.foldl (λG J=>G++J) acc.toArray (YE k q.toArray)=(acc++(YE k q).flatten).toArray
 | 0,acc=>by simp
 | k+1,acc=>by
  have e:acc.toArray++q.toArray=(acc++q).toArray:=by simp
  have F:(acc++q)++(YE k q).flatten=acc++(YE (k+1) q).flatten:=by
   rw[zaA,zaT,List.append_assoc]
  rw[<- F,<- foldl_rep q k (acc++q),<- e,zaA,zbG]
section
variable {X:Cx}{pins:List (Addr×Obj)}{σ:St}{H:Hp}{s:XE}{l b:Addr}{xs ys zs:List V}
theorem Inv.lset{F its':List Value}{n:Nat}{f:Array Value->Array Value}{t':Nat}(I:Inv X pins σ H s)(J:H l=some (.lst xs))
  (e:s.heap.get? l=some {cls:=.type "list",data:=.seq F.toArray n}) (G:f F.toArray=its'.toArray) (U:Vals ys its') (hz:ys.length<=XQ) :
  Inv X pins σ (upd H l (.lst ys)) {s with heap:=s.heap.update l (ZE f),toks:=t'}:=by
 have q:=PySem.IsL.update e f;rw[G]at q;refine I.write (x:=l) (e:=l) (by rw[J];exact trivial) (.inl rfl) (λY u N W=>(Y5 s.heap (ZE f) (X5 N)).trans W) ⟨_,q⟩ ?_;exact⟨hz,its',_,U,q⟩
theorem Inv.lnew(I:Inv X pins σ H s)(F:Vals ys its)(hz:ys.length<=XQ) :
  Inv X pins σ (upd H s.heap.objs.size (.lst ys)) {s with heap:=s.heap.push {cls:=.type "list",data:=.seq its.toArray},toks:=t'}:=
 I.laid (λ_ _ q=>XT _ q) (XU _) ⟨hz,its,0,F,X9 _ rfl⟩
theorem Inv.fresh(I:Inv X pins σ H s):H s.heap.objs.size=none:=I.hok.fresh (XU _)
theorem Inv.lstM(I:Inv X pins σ H s)(F:H l=some (.lst xs)):xs.length<=XQ/\∃(q:List Value) (n:Nat),Vals xs q/\xs.length=q.length/\s.heap.get? l=some {cls:=.type "list",data:=.seq q.toArray n}:=by
 obtain⟨z,q,n,r,e⟩:=I.hok l _ F;exact⟨z,q,n,r,r.length,e⟩
theorem GC(h:n<=XQ):zc8 n=false:=by
 unfold zc8;exact decide_eq_false (by lia)
end
section
variable {X:Cx}
def BB:V->List V->Hp->VK->Prop:=λx vs H Q=>∃l xs y,x=.ref l/\vs=[y]/\H l=some (.lst xs)/\xs.length<XQ/\Q .non (upd H l (.lst (xs++[y])))
theorem mI:US X "list.append" BB:=by
 intro pins s σ H x vs v us Q I W N h;obtain⟨l,xs,y,rfl,rfl,J,hz,q⟩:=h;cases W;obtain⟨u,rfl,U⟩:=N.one;obtain⟨z,G,n,r,Y,e⟩:=I.lstM J;refine zbH F.slot_list_append ⟨_,e,rfl⟩ F.entry_list_append (F.args_list_append_2 _ _) (PySem.list_append l G.toArray n u (by rw[XX];lia)) ⟨e,?_⟩;refine⟨.non,_,I.lset (its':=G++[u]) J e (by simp) (r.append (.cons U .nil)) ?_,rfl,q⟩;rw[Y3,zco]
 lia
theorem len_rep{q:Type}(xs:List q)(k:Nat):(YE k xs).flatten.length=k*xs.length:=by
 induction k with
 | zero=>simp
 | succ k ih=>rw[zaA,zaT,Y3,ih,Nat.succ_mul,Nat.add_comm]
end
section
variable {prog:XM}{w:World}{A:XS}{E:Value->XE->Prop}{s:XE}
end
section
variable {X:Cx}
end
section
variable {κ:Type}[DecidableEq κ]
noncomputable def mB(kvs:List (κ×V))(k:κ):Option V:=(kvs.find? λq=>decide (q.1=k)).map (·.2)
noncomputable def putK(kvs:List (κ×V))(k:κ)(v:V):List (κ×V):=
 if(kvs.any λq=>decide (q.1=k))=true then kvs.map (λq=>if q.1=k then(q.1,v)else q)else kvs++[(k,v)]
noncomputable def NB(kvs:List (κ×V))(k:κ):List (κ×V):=kvs.filter λq=>decide (q.1≠k)
theorem lJ{p:κ×V}{r:List (κ×V)}{k:κ}(e:p.1=k):mB (p::r) k=some p.2:=by simp[mB,ZC,e]
theorem lH{p:κ×V}{r:List (κ×V)}{k:κ}(e:¬ p.1=k):mB (p::r) k=mB r k:=by simp[mB,ZC,e]
theorem xO(k:κ):∀kvs:List (κ×V),(kvs.any λq=>decide (q.1=k))=(mB kvs k).isSome
 | []=>rfl
 | p::r=>by
  rw[Z1];by_cases e:p.1=k
  ·simp only[lJ e,decide_eq_true e,Bool.true_or,Option.isSome_some]
  ·rw[lH e,decide_eq_false e,Bool.false_or];exact xO k r
theorem nO(kvs:List (κ×V))(k:κ)(v:V):(putK kvs k v).length<=kvs.length+1:=by
 unfold putK;split
 ·rw[XR];lia
 ·rw[Y3,Y4,zbb];lia
theorem RelO.isSome_eq(r:RelO o u):o.isSome=u.isSome:=by
 cases o with
 | none=>cases u with
  | none=>rfl
  | some _=>exact(show False from r).elim
 | some _=>cases u with
  | none=>exact(show False from r).elim
  | some _=>rfl
theorem RelO.getD(r:RelO o u)(q:RelV d d'):RelV (o.getD d) (u.getD d'):=by
 cases o with
 | none=>cases u with
  | none=>exact q
  | some _=>exact(show False from r).elim
 | some _=>cases u with
  | none=>exact(show False from r).elim
  | some _=>exact r
theorem KV.val(r:KV kvs vs)(k:κ):RelO (mB kvs k) (zaU vs k):=by
 unfold KV at r;induction r with
 | nil=>exact Z5
 | @cons p q ps qs h t ih=>
  obtain⟨h1,h2⟩:=h;by_cases e:p.1=k
  ·have F:q.1=k:=h1.symm.trans e
   have b:zaU (q::qs) k=some q.2:=by simp[zaU,ZC,F]
   rw[lJ e,b];exact h2
  ·have F:¬ q.1=k:=λz=>e (h1.trans z)
   have b:zaU (q::qs) k=zaU qs k:=by simp[zaU,ZC,F]
   rw[lH e,b];exact ih
theorem KV.any(r:KV kvs vs)(k:κ):(kvs.any λq=>decide (q.1=k))=vs.any λq=>decide (q.1=k):=by
 unfold KV at r;induction r with
 | nil=>rfl
 | cons h t ih=>rw[Z1,Z1,ih,h.1]
theorem KV.repl(r:KV kvs vs)(k:κ)(G:RelV y u) :
  KV (kvs.map λF=>if F.1=k then(F.1,y)else F) (vs.map λF=>if F.1=k then(F.1,u)else F):=by
 unfold KV at r ⊢;induction r with
 | nil=>exact .nil
 | @cons p q ps qs h t ih=>
  rw[XW,XW];refine .cons ?_ ih;obtain⟨h1,h2⟩:=h;by_cases e:p.1=k
  ·rw[if_pos e,if_pos (h1.symm.trans e)];exact⟨h1,G⟩
  ·rw[if_neg e,if_neg (λz=>e (h1.trans z))];exact⟨h1,h2⟩
theorem KV.put(r:KV kvs vs)(k:κ)(q:RelV y u):KV (putK kvs k y) (stored vs k u):=by
 unfold putK stored;rw[r.any k];by_cases e:(vs.any λF=>decide (F.1=k))=true
 ·rw[if_pos e,if_pos e];exact r.repl k q
 ·rw[if_neg e,if_neg e];exact Paired.snoc r ⟨rfl,q⟩
theorem KV.drop(r:KV kvs vs)(k:κ):KV (NB kvs k) (without vs k):=by
 unfold KV at r ⊢;unfold NB without;induction r with
 | nil=>exact .nil
 | @cons p q ps qs h t ih=>
  obtain⟨h1,h2⟩:=h;rw[zaV,zaV];by_cases e:p.1=k
  ·have a:¬ decide (p.1≠k)=true:=by simp[e]
   have b:¬ decide (q.1≠k)=true:=by simp[h1.symm.trans e]
   rw[if_neg a,if_neg b];exact ih
  ·have F:¬ q.1=k:=λz=>e (h1.trans z)
   have a:decide (p.1≠k)=true:=by simp[e]
   have b:decide (q.1≠k)=true:=by simp[F]
   rw[if_pos a,if_pos b];exact .cons ⟨h1,h2⟩ ih
theorem KV.length(r:KV kvs vs):kvs.length=vs.length:=zaE r
end
theorem yG(r:RelV (kV k) u):(bR P w).is k u=true:=by
 cases k with
 | inl i=>obtain⟨t,e⟩:=(show ∃t,u=Value.int i t from r);subst e;exact wM P w i t
 | inr x=>obtain⟨t,e⟩:=(show ∃t,u=Value.str x t from r);subst e;exact wF P w x t
theorem tU:∀ {ks:List Key} {us:List Value},Vals (ks.map kV) us->ItemsAre (bR P w) ks us
 | [],_,r=>by rw[zck]at r;cases r;exact .nil
 | k::ks,_,r=>by
  rw[XW]at r;cases r with
  | cons h t=>exact .cons (yG h) (tU t)
abbrev KT(H:Hp):List (List Key×V)->List (List Key×Addr×Value)->Prop:=YQ λp q=>p.1=q.1/\H q.2.1=some (.tup (p.1.map kV))/\RelV p.2 q.2.2
theorem KT.val(r:KT H kvs xs)(k:List Key):RelO (mB kvs k) ((atKey xs k).map (·.2)):=by
 induction r with
 | nil=>exact Z5
 | @cons p q ps qs h t ih=>
  obtain⟨h1,_,h2⟩:=h;by_cases e:p.1=k
  ·have F:q.1=k:=h1.symm.trans e
   have b:atKey (q::qs) k=some q.2:=by simp[atKey,ZC,F]
   rw[lJ e,b];exact h2
  ·have F:¬ q.1=k:=λz=>e (h1.trans z)
   have b:atKey (q::qs) k=atKey qs k:=by simp[atKey,ZC,F]
   rw[lH e,b];exact ih
theorem KT.repl(r:KT H kvs xs)(k:List Key)(J:RelV y u) :
  KT H (kvs.map λF=>if F.1=k then(F.1,y)else F) (xs.map (putAt k u)):=by
 induction r with
 | nil=>exact .nil
 | @cons p q ps qs h t ih=>
  rw[XW,XW];refine .cons ?_ ih;obtain⟨h1,h2,G⟩:=h;unfold putAt;by_cases e:p.1=k
  ·rw[if_pos e,if_pos (h1.symm.trans e)];exact⟨h1,h2,J⟩
  ·rw[if_neg e,if_neg (λz=>e (h1.trans z))];exact⟨h1,h2,G⟩
theorem KT.put(r:KT H kvs xs)(k:List Key)(J:H b=some (.tup (k.map kV)))(F:RelV y u) :
  KT H (putK kvs k y) (storedH xs k b u):=by
 have e:(kvs.any λG=>decide (G.1=k))=(atKey xs k).isSome:=by
  rw[xO,(r.val k).isSome_eq,Option.isSome_map]
 unfold putK storedH;rw[e];by_cases q:(atKey xs k).isSome=true
 ·rw[if_pos q,if_pos q];exact r.repl k F
 ·rw[if_neg q,if_neg q];exact Paired.snoc r ⟨rfl,J,F⟩
theorem KT.keeps(r:KT H kvs xs)(q:∀b ys,H b=some (.tup ys)->H' b=some (.tup ys)):KT H' kvs xs:=
 Paired.mapP r λ_ _ z=>⟨z.1,q _ _ z.2.1,z.2.2⟩
section
variable {P:XM}{w:World}{H:Hp}{h:Heap}{a:Addr}
theorem NJ(ok:HOk P w H h)(e:Rd H a u):ObjOk P w H h a u:=e.ok ok
theorem rE(ok:HOk P w H h)(e:Rd H a (.dK kvs)):kvs.length<=XQ/\(a == ZI)=false/\∃vs,KV kvs vs/\h.DictOf (bR P w) a vs:=
 show ObjOk P w H h a (.dK kvs)from NJ ok e
theorem S5(ok:HOk P w H h)(e:H a=some (.dK kvs)):kvs.length<=XQ/\(a == ZI)=false/\∃vs,KV kvs vs/\h.DictOf (bR P w) a vs:=rE ok (.inl e)
theorem qO(ok:HOk P w H h)(e:H a=some (.tup (ks.map kV))):(zad (bR P w)).is h ks a:=by
 obtain⟨_,q,r,o,h1,h2,n,F⟩:=(show ObjOk P w H h a (.tup (ks.map kV))from ok a _ e);exact⟨o,q.toArray,n,h1,h2,F.1,by simpa using tU r⟩
theorem uD(ok:HOk P w H h)(e:Rd H a (.dT kvs)):kvs.length<=XQ/\(a == ZI)=false /\
  ∃xs,KT H kvs xs/\h.DictOfH (zad (bR P w)) a xs:=by
 obtain⟨z,y,xs,r,o,es,ep,h1,h2,G,J,N⟩:=(show ObjOk P w H h a (.dT kvs)from NJ ok e);refine⟨z,y,xs,r,o,es,ep,h1,h2,G,J,λx F=>?_,N⟩;have all:∀ {l:List (List Key×V)} {m:List (List Key×Addr×Value)},KT H l m->∀x∈m,(zad (bR P w)).is h x.1 x.2.1:=by
  intro l m q;induction q with
  | nil=>intro x F;exact nomatch F
  | @cons p q ps qs hq t ih=>
   intro x F;rcases List.mem_cons.mp F with e|F
   ·subst e
    exact qO ok (by rw[<- hq.1];exact hq.2.1)
   ·exact ih x F
 exact all r x F
theorem TK(ok:HOk P w H h)(e:H a=some (.dT kvs)):kvs.length<=XQ/\(a == ZI)=false /\
  ∃xs,KT H kvs xs/\h.DictOfH (zad (bR P w)) a xs:=uD ok (.inl e)
end
def DGet(H:Hp)(a:Addr)(y:V)(r:Option V):Prop:=
 (∃kvs k,Rd H a (.dK kvs)/\y=kV k/\r=mB kvs k)\/∃kvs k b,Rd H a (.dT kvs)/\y=.ref b/\H b=some (.tup (k.map kV))/\r=mB kvs k
def DPut(H:Hp)(a:Addr)(y v:V)(H':Hp):Prop:=
 (∃kvs k,H a=some (.dK kvs)/\y=kV k/\kvs.length<XQ/\H'=upd H a (.dK (putK kvs k v))) \/
 ∃kvs k b,H a=some (.dT kvs)/\y=.ref b/\H b=some (.tup (k.map kV))/\kvs.length<XQ/\H'=upd H a (.dT (putK kvs k v))
theorem DGet.k{H:Hp}{a:Addr}{kvs:List (Key×V)}{k:Key}(e:H a=some (.dK kvs)):DGet H a (kV k) (mB kvs k):=.inl ⟨kvs,k,.inl e,rfl,rfl⟩
theorem DGet.t{H:Hp}{a b:Addr}{kvs:List (List Key×V)}{k:List Key}(e:H a=some (.dT kvs))(q:H b=some (.tup (k.map kV))):DGet H a (.ref b) (mB kvs k):=.inr ⟨kvs,k,b,.inl e,rfl,q,rfl⟩
theorem DPut.k{H:Hp}{a:Addr}{kvs:List (Key×V)}{k:Key}{v:V}(e:H a=some (.dK kvs))(q:kvs.length<XQ):DPut H a (kV k) v (upd H a (.dK (putK kvs k v))):=.inl ⟨kvs,k,e,rfl,q,rfl⟩
theorem DPut.t{H:Hp}{a b:Addr}{kvs:List (List Key×V)}{k:List Key}{v:V}(e:H a=some (.dT kvs))(F:H b=some (.tup (k.map kV)))(q:kvs.length<XQ) :
  DPut H a (.ref b) v (upd H a (.dT (putK kvs k v))):=.inr ⟨kvs,k,b,e,rfl,F,q,rfl⟩
section
variable {X:Cx}{pins:List (Addr×Obj)}{σ:St}{H:Hp}{s:XE}{a:Addr}{y v:V}{u r:Value}{o:Option V}{A:XS}{E:Value->XE->Prop}
theorem Inv.big(I:Inv X pins σ H s):ZI<s.heap.objs.size:=by
 have h:YK<s.heap.objs.size:=(I.mod.glob.keeps I.bk).lt;exact zbf (by decide) h
theorem CN(hu:A.units+1<cLine)(I:Inv X pins σ H s)(g:DGet H a y (some v))(U:RelV y u)(h:∀G s',Inv X pins σ H s'->RelV v G->Q G s') :
  wpAny (model X.prog X.w) A (zak (.ref a) u) Q E s:=by
 rcases g with⟨kvs,k,e,N,l⟩|⟨kvs,k,b,e,N,Y,l⟩
 ·subst N
  obtain⟨z,W,vs,q,dd⟩:=rE I.hok e;obtain⟨G,hw,F⟩:=RelO.some_of (v:=v) (o:=zaU vs k) (by rw[l];exact q.val k);exact wpAny_getItem_of (yG U) dd.mapOf hw (h G _ (I.tok _) F)
 ·subst N
  cases(show u=XN b from U);obtain⟨z,W,xs,q,dd⟩:=uD I.hok e;obtain⟨G,hw,F⟩:=RelO.some_of (v:=v) (o:=(atKey xs k).map (·.2)) (by rw[l];exact q.val k);obtain⟨p,hp,J⟩:=Option.map_eq_some_iff.mp hw;refine wpAny_getItem_heap (zcp hu) (qO I.hok Y) dd hp ?_;rw[J];exact h G _ (I.tok _) F
theorem VE(W:A.units+1<cLine)(I:Inv X pins σ H s)(g:DGet H a y o)(N:RelV y u)(h:∀s',Inv X pins σ H s'->Q (.bool o.isSome) s') :
  wpAny (model X.prog X.w) A (XY .In u (.ref a)) Q E s:=by
 rcases g with⟨kvs,k,e,J,l⟩|⟨kvs,k,b,e,J,U,l⟩
 ·subst J
  obtain⟨z,G,vs,F,dd⟩:=rE I.hok e;refine wpAny_in_of (yG N) G dd.mapOf ?_;rw[<- (F.val k).isSome_eq,<- l];exact h _ (I.tok _)
 ·subst J
  cases(show u=XN b from N);obtain⟨z,G,xs,F,dd⟩:=uD I.hok e;refine wpAny_in_heap (zcp W) (qO I.hok U) G dd ?_;have q:=(F.val k).isSome_eq;rw[Option.isSome_map]at q;rw[<- q,<- l];exact h _ (I.tok _)
theorem BK(I:Inv X pins σ H s)(J:UG (H a))(hs:YN a s.heap h')(F:∃q,h'.get? a=some q)(new:ObjOk X.prog X.w (upd H a ob) h' a ob) :
  Inv X pins σ (upd H a ob) {s with heap:=h',toks:=t'}:=
 I.write (x:=a) (e:=a) J (.inl rfl) (λb q G z=>(hs.2 b G).trans z) F new
theorem QR(z:kvs.length<=XQ)(F:(a == ZI)=false)(q:KV kvs vs)(dd:h'.DictOf (bR P w) a vs) :
  ObjOk P w H' h' a (.dK kvs):=⟨z,F,vs,q,dd⟩
theorem DP(hu:A.units+1<cLine)(I:Inv X pins σ H s)(g:DPut H a y v H')(ry:RelV y u)(rv:RelV v r)(h:∀s',Inv X pins σ H' s'->Q () s') :
  wpAny (model X.prog X.w) A (setItem (.ref a) u r) Q E s:=by
 rcases g with⟨kvs,k,e,Y,l,W⟩|⟨kvs,k,b,e,Y,eb,l,W⟩
 ·subst Y W
  obtain⟨z,U,vs,F,dd⟩:=S5 I.hok e;have hz:vs.length<=XQ:=by rw[<- F.length];exact z
  have N:(putK kvs k v).length<=XQ:=by have:=nO kvs k v;lia
  refine wpAny_setItem_pairs (hsz:=hz) (yG ry) dd λh' G hs=>h _ ?_
  have he:∃q,h'.get? a=some q:=let ⟨q,_,_,J,_⟩:=G;⟨q,J⟩;exact BK I (by rw[e];exact Z5) hs he (QR N U (F.put k rv) G)
 ·subst Y W
  cases(show u=XN b from ry);obtain⟨z,U,xs,F,dd⟩:=TK I.hok e;have hz:xs.length<=XQ:=by rw[<- zaE F];exact z
  have N:(putK kvs k v).length<=XQ:=by have:=nO kvs k v;lia
  refine wpAny_setItem_heap (hsz:=hz) (zcp hu) (qO I.hok eb) dd λh' G hs=>h _ ?_
  obtain⟨q,es,ep,J,h2,h3,h4,_,h5⟩:=G;refine BK I (by rw[e];exact Z5) hs ⟨q,J⟩ ⟨N,U,_,(F.put k eb rv).keeps λc ys ec=>?_,q,es,ep,J,h2,h3,h4,h5⟩;rw[aL (R9 ec e (λz=>nomatch z))];exact ec
end
section
variable {X:Cx}{pins:List (Addr×Obj)}{σ:St}{H:Hp}{s:XE}{a:Addr}{kvs:List (Key×V)}{k:Key}{u:Value}{A:XS}{E:Value->XE->Prop}
theorem TF(I:Inv X pins σ H s)(e:Rd H a (.dK kvs))(h:∀t s',Inv X pins σ H s'->Q (.int kvs.length t) s'):wpAny (model X.prog X.w) A (call (.builtin "len") [.ref a]) Q E s:=by
 obtain⟨z,F,vs,q,dd⟩:=rE I.hok e;refine call_len_dict F dd (by rw[<- q.length];rw[zaH]at z;lia) ?_;rw[<- q.length];exact h _ _ (I.tok _)
end
def UA(i:Expr):Prop:=∀F q,zcl i false F q=operate [F,q] (zak F q)
theorem KS{E:Value->XE->Prop}{T id:String}{Q:Value->XE->Prop}
  (W:typeLookup (.type T) "__getitem__" = pure (some (.builtin id))) (hs:UA slice)
  (h:wpAny (model prog w) A (eval value env) (λo J=>wpAny (model prog w) A (eval slice env) (λi q=>q.TypeIs o T/\wpAny (model prog w) A (zak o i) Q E q) E J) E s) :
  wpAny (model prog w) A (eval (.Subscript value slice pos) env) Q E s:=by
 refine Subscript_ (X3 h (λo J U=>X3 U (λi q F=>?_) λ_ _ x=>x) λ_ _ x=>x);obtain⟨hT,F⟩:=F;unfold subscriptTail;refine XD ?_;rw[getitemInPython_of_ne hT.not_modules];refine XD (wpAny_specialOf hT W ?_);have fin:wpAny (model prog w) A (zcl slice false o i) (λr G=>wpAny (model prog w) A (letTemporaryGo value o r >>= λ_=>pure r) Q E G) E q:=by
  rw[hs o i];exact wpAny_operating (X3 F (λr G N=>XD (wpAny_letTemporaryGo (XJ N))) λ_ _ x=>x)
 first
  | exact XJ (XD fin)
  | exact XD (XJ (XD fin))
  | exact XD fin
theorem wD(I:Inv X pins σ H s)(g:DGet H a y o):s.TypeIs (.ref a) "dict" := by
 rcases g with⟨kvs,k,e,_,_⟩|⟨kvs,k,b,e,_,_,_⟩
 ·obtain⟨_,_,vs,_,dd⟩:=rE I.hok e
  exact dd.typeIs
 ·obtain⟨_,_,xs,_,dd⟩:=uD I.hok e
  exact dd.typeIs
def NA(td ty:TE):TE:=λσ H Q=>td σ H λx H1=>ty σ H1 λy H2=>∃a v,x=.ref a/\DGet H2 a y (some v)/\Q v H2
def RS(td ty tv:TE):TS:=λD σ H=>tv σ H λv H1=>td σ H1 λx H2=>ty σ H2 λy F=>∃a q,x=.ref a/\DPut F a y v q/\D.nx σ q
section
variable {X:Cx}{o i e value:Expr}{pos pos' tpos:Pos}{td ty tv:TE}
theorem JH(hu:X.A.units+1<cLine)(W:PE X o td)(hi:PE X i ty)(hs:UA i):PE X (.Subscript o i pos) (NA td ty):=by
 intro pins s σ H Q I h;refine KS PySem.F.slot_dict_getitem.lookup hs (bX (W pins s σ H _ I h) λu J ⟨x,H1,I1,Y,N⟩=>bX (hi pins J σ H1 _ I1 N) λiv s2 ⟨y,H2,G,ry,a,v,ex,g,q2⟩=>?_);subst ex;obtain rfl:u=XN a:=Y;exact⟨wD G g,CN hu G g ry λw' s3 U q=>⟨v,H2,U,q,q2⟩⟩
theorem KA(hu:X.A.units+1<cLine)(ho:PE X o td)(hi:PE X i ty)(hv:PE X value tv)(hs:YL value (some (.Subscript o i pos')) pos.line X.env=pure false) :
  PS X (.Assign [.Subscript o i pos'] value pos) (RS td ty tv):=by
 intro pins s σ H D I h;refine wpAny_Assign_Subscript (bX (hv pins s σ H _ I h) λr q ⟨v,H1,I1,F,Y⟩=>bX (ho pins q σ H1 _ I1 Y) λu G ⟨x,H2,N,rx,q2⟩=>bX (hi pins G σ H2 _ N q2) λiv s3 ⟨y,H3,J,W,a,H4,ex,g,q3⟩=>?_) hs;subst ex;obtain rfl:u=XN a:=rx;exact DP hu J g W F λs4 U=>⟨σ,H4,U,q3⟩
end
theorem E8(h:Heap)(q:ZI<h.objs.size):ObjOk P w H (h.push {cls:=.type "dict",data:=.dict #[]}) h.objs.size (.dT []):=
 ⟨YY _,beq_eq_false_iff_ne.mpr (X5 (YA q)),[],.nil,_,#[],0,X9 _ rfl,⟨rfl,rfl,rfl⟩,rfl,rfl,List.nodup_nil⟩
def O8:TE:=λ_ H Q=>∀p,H p=none->Q (.ref p) (upd H p (.dT []))
section
variable {X:Cx}{pos:Pos}
theorem GM:PE X (.Dict [] [] pos) O8:=λpins s σ H Q I h=>
 wpAny_Dict_empty ⟨.ref s.heap.objs.size,_,I.laid (a:=s.heap.objs.size) (o:=.dT []) (t':=s.toks) (λ_ _ q=>XT _ q) (XU _) (E8 s.heap I.big),rfl,h _ (I.hok.fresh (XU _))⟩
end
structure M2(X:Cx)(o:Expr)(m:Str)(apos:Pos)(e f:Expr)(cpos:Pos):Prop where
 base:zbe o m X.env (eval o X.env)=eval o X.env
 few:((X0 cpos (XI [e,f] X.env)).all (λx=>!x.1) && (backToKw cpos (zcm [] X.env)).all (λx=>x.1.isSome)
  && decide (([e,f]:List Expr).length+([]:List zax).length+(if([]:List zax).isEmpty then 0 else 1)<30))=true
 line:(apos.endLine == cpos.line)=true
 trees:X0 cpos (XI [e,f] X.env)=[(false,eval e X.env),(false,eval f X.env)]
def RG(H:Hp)(a:Addr):Prop:=(∃kvs,Rd H a (.dK kvs))\/∃kvs,Rd H a (.dT kvs)
theorem IG(I:Inv X pins σ H s)(d:RG H a) :
  s.TypeIs (.ref a) "dict" /\ (∀b,XN a=.ref b->∃ob,s.heap.get? b=some ob/\ob.dict=none)/\(a == ZI)=false:=by
 rcases d with⟨kvs,e⟩|⟨kvs,e⟩
 ·obtain⟨_,F,vs,_,dd⟩:=rE I.hok e
  refine⟨dd.typeIs,λb q=>?_,F⟩;cases q;obtain⟨ob,_,_,h1,h2,_⟩:=dd;exact⟨ob,h1,h2.2.1⟩
 ·obtain⟨_,F,xs,_,dd⟩:=uD I.hok e
  refine⟨dd.typeIs,λb q=>?_,F⟩;cases q;obtain⟨ob,_,_,h1,h2,_⟩:=dd;exact⟨ob,h1,h2.2.1⟩
section
variable {X:Cx}{pins:List (Addr×Obj)}{σ:St}{H:Hp}{s:XE}{a:Addr}{y d:V}{u r:Value}{o:Option V}{A:XS}{E:Value->XE->Prop}
theorem QM(hu:A.units+1<cLine)(I:Inv X pins σ H s)(g:DGet H a y o)(W:RelV y u)(N:RelV d r)(h:∀U s',Inv X pins σ H s'->RelV (o.getD d) U->Q U s') :
  wpAny (model X.prog X.w) A (call (.builtin "dict.get") [.ref a,u,r]) Q E s:=by
 rcases g with⟨kvs,k,e,J,l⟩|⟨kvs,k,b,e,J,Y,l⟩
 ·subst J
  obtain⟨z,G,vs,q,dd⟩:=rE I.hok e;refine call_meetsIn zc9 dd.typeIs PySem.F.entry_dict_get (PySem.F.args_dict_get_3 _ _ _) (meets_dict_get_default (bR X.prog X.w) a (yG W) G r) ⟨_,dd.mapOf,h _ _ (I.tok _) ?_⟩;rw[l];exact(q.val k).getD N
 ·subst J
  cases(show u=XN b from W);obtain⟨z,G,xs,q,dd⟩:=uD I.hok e;refine call_meetsIn zc9 dd.typeIs PySem.F.entry_dict_get (PySem.F.args_dict_get_3 _ _ _) (meetsH_dict_get_default (zad (bR X.prog X.w)) a b G r) ⟨zcp hu,k,xs,qO I.hok Y,dd,h _ _ (I.tok _) ?_⟩;rw[l];exact(q.val k).getD N
end
def NZ(td ty tx:TE):TE:=λσ H Q=>td σ H λx H1=>∃a,x=.ref a/\RG H1 a/\ty σ H1 λy H2=>tx σ H2 λz q=>∃o,DGet q a y o/\Q (o.getD z) q
section
variable {X:Cx}{o e f:Expr}{apos cpos:Pos}{td ty tx:TE}
theorem F5(hu:X.A.units+1<cLine)(ho:PE X o td)(he:PE X e ty)(hf:PE X f tx)(m:M2 X o "get" apos e f cpos):PE X (.Call (.Attribute o "get" apos) [e,f] [] cpos) (NZ td ty tx):=by
 intro pins s σ H Q I h;refine wpAny_Call_method m.base m.few m.line PySem.F.plainAttrs_dict zc9 PySem.F.type_dict_get (bX (ho pins s σ H _ I h) λu J ⟨x,H1,G,rx,a,ex,d,q1⟩=>?_);subst ex;obtain rfl:u=XN a:=rx;obtain⟨t1,t2,_⟩:=IG G d;refine⟨t1,t2,?_⟩;rw[m.trees];refine zc7 rfl (zcn (zaI (bX (he pins J σ H1 _ G q1) λiv N ⟨y,H2,W,ry,q2⟩=>
  zaI (bX (hf pins N σ H2 _ W q2) λfv s3 ⟨z,H3,U,rz,ov,g,q3⟩=>zcd ?_))))
 exact QM hu U g ry rz λw' s4 Y q=>⟨_,H3,Y,q,q3⟩
end
section
variable {X:Cx}{pins:List (Addr×Obj)}{σ:St}{H:Hp}{s:XE}{a:Addr}{kvs:List (Key×V)}{A:XS}{E:Value->XE->Prop}
end
section
variable {X:Cx}{pins:List (Addr×Obj)}{σ:St}{H:Hp}{s:XE}{a:Addr}{y:V}{u:Value}{A:XS}{E:Value->XE->Prop}
end
end L2
namespace Att
open PySem PySem.W PySem.Calls PyProof.Rows
theorem nR:∀(ns:List Int) (vs:List Value),WellAll P h vs (ns.map WData.int)->YX vs ns:=by
 intro ns;induction ns with
 | nil=>
  intro vs w;rw[zck]at w;cases w;exact .nil
 | cons n ns ih=>
  intro vs w;rw[XW]at w;cases w with
  | cons a b=>
   cases a;exact .cons _ _ (ih _ b)
theorem C3{l:OpenLaw}{n:Nat}(hn:l.most=some n){P:Params}{h:Heap}{args:List WData}{G:List Value}
  (F:l.row.toRowW.claim.pre args=true) (W:WellAll P h G args) :
  ∃a vs ns,G=[XN a]/\args=[WData.list (ns.map WData.int)]/\h.get? a=some {cls:=.type "list",data:=.seq vs.toArray}/\YX vs ns/\ns.length<=n:=by
 have Y:WShape.hasAll [] args [.list .int]=true:=(pre_splitW F).1;have hc:l.pre.holds [] {args:=args}=true:=(pre_splitW F).2;obtain⟨d,r,rfl,h1,h2⟩:=hasAllW_cons Y;obtain rfl:=hasAllW_nil h2;obtain⟨xs,rfl,h3⟩:=hasW_list h1;obtain⟨ns,rfl⟩:=items_int h3;have J:ns.length<=n:=by
  unfold OpenLaw.pre at hc;have N:(WTm.not (.lt (.lit (.int (n:Int))) (.len (.arg 0)))).holds [] {args:=[.list (ns.map .int)]}=true:=by
   have N:=(holds_andW hc).1;rw[hn]at N;exact N
  have U:=condW_of N (w_not (w_lt w_lit (w_len_list (w_arg rfl))));rw[XR]at U;refine Nat.le_of_not_lt λq=>?_
  have q':(n:Int)<((ns.length:Nat):Int):=by lia
  first
   | (rw[decide_eq_true q']at U;exact absurd U (by decide))
   | (simp at U;lia)
 cases W with
 | cons w1 w2=>
  cases w2;cases w1 with
  | list ho hall=>exact⟨_,_,ns,rfl,rfl,ho,nR ns _ hall,J⟩
theorem D0(l:OpenLaw)(args:List WData):l.row.toRowW.claim.post args (.bool true) args=true:=
 postW_of (r:=l.row.toRowW) (X:=(true == true))
  (show WShape.has [] (.bool true) .bool=true by first|rfl|decide|simp[WShape.has,WShape.arms,WShape.armsAll])
  (show(WTm.eq .res (.lit (.bool true))).value [] {args:=args,res:=some (.bool true),after:=args}=some (.bool (true == true))from w_eq_bool (w_res rfl) w_lit) rfl
theorem wG{l:OpenLaw}{n:Nat}{q:XM}{J:List Str}{XP:(Str->Option Value)->Heap->Prop}{YP:World->Heap->Prop}{d:DefRec}
  (hn:l.most=some n) (ag:d.params.defaults=[])
  (call:∀(w:World) (N F:XE) (mg mb:Str -> Option Value) (fa:Addr) (o:Obj) (pm cd U:Value) (a:Addr) (vs:List Value) (ns:List Int),
   Ground q J [] XP w N mg mb F.heap->YP w F.heap->
   F.heap.get? fa=some o->o.data=.func (docDef d.name d.params d.body d.scope pm cd U)->F.heap.CodeRec cd d.name->mg d.name=some (.ref fa)->
   F.heap.get? a=some {cls:=.type "list",data:=.seq vs.toArray}->YX vs ns->ns.length<=n->F.gens=#[]->
   ZQ (model l.prog w) zaW (.call (.ref fa) ⟨[.ref a],[]⟩) (λr s'=>r=.ok (.ret (.bool true))/\OldK F.heap s'.heap/\s'.os=F.os/\zae s'.gens) F) :
  WalkO q J XP YP l.row.toRowW d [] (λf vs=>PySem.call f vs):=by
 intro w N F mg mb G Y fa o pm cd U dV kV ho hd ah hD ak hg args am as ac ao ar ai a4;obtain rfl:dV=.none:=Dflts.none hD ag;obtain rfl:kV=.none:=Dflts.noKw hD;obtain⟨a,vs,ns,rfl,rfl,ab,W,ad⟩:=C3 hn ac ai;refine enter_call (zav (call w N F mg mb fa o pm cd U a vs ns G Y ho (fd_plain hd) ah ak ab W ad hg) λr s' hq=>?_);obtain⟨rfl,h2,h3,h4⟩:=hq;exact⟨.inl ⟨.bool true,.bool true,[],rfl,λ_=>rfl,.bool true,D0 l _,λ_=>⟨List.Pairwise.nil,λ_ hm=>(nomatch hm)⟩⟩,h2,h3,h4⟩
section
variable {prog:XM}{w:World}{A:XS}{E:Value->XE->Prop}{s:XE}{K:Frag}
noncomputable def vQ(h:Heap):Heap:={h with objs:=#[]}
theorem kH(h:Heap)(b:Addr):(vQ h).get? b=none:=by
 cases e:(vQ h).get? b with
 | none=>rfl
 | some o=>exact absurd (XO e) (Nat.not_lt_zero _)
noncomputable def ledger(h:Heap)(L d:Addr):List (Addr×Obj):=(Y9 h.objs.size).filterMap λa=>if a=L\/a=d then none else(h.get? a).map λo=>(a,o)
theorem dP:(a,o)∈ledger h L d↔a≠L/\a≠d/\h.get? a=some o:=by
 unfold ledger;rw[List.mem_filterMap];constructor
 ·rintro⟨b,_,e⟩
  split at e
  ·cases e
  ·rename_i hb
   obtain⟨o',F,N⟩:=Option.map_eq_some_iff.mp e;cases N;exact⟨λq=>hb (.inl q),λq=>hb (.inr q),F⟩
 ·rintro⟨G,J,F⟩
  refine⟨a,List.mem_range.mpr (XO F),?_⟩;rw[if_neg (show ¬ (a=L\/a=d)from λq=>q.elim G J),F] <;> rfl
theorem N9(n:h.Ns L m):Fr (vQ h) L h m:=
 ⟨n,λb o e=>(by rw[kH]at e;cases e),YY _⟩
end
end Att
namespace L2
open PySem PySem.Spec PyProof.Rows
theorem sU:∀ {vs:List Value} {ns:List Int},YX vs ns->Vals (ns.map V.int) vs
 | _,_,.nil=>.nil
 | _,_,.cons n t h=>.cons ⟨t,rfl⟩ (sU h)
def Only(H:Hp):Prop:=∀b,H b=none\/∃o xs,H b=some (.frz o (.lst xs))
theorem E7{P:XM}{w:World}{K:XF}{mg mb:Str->Option Value}{CX:CC}{k:Nat}{fa a:Addr}{fd:ZK}{x:Str}{sp:Sp}{G:XE}{vs:List Value}{ns:List Int}
  (KX:K.In G.heap) (ae:G.heap.Ns YK mg) (N:G.heap.Ns builtinsNs mb) (aj:∀x:Str,x ≠ "__name__" -> mb x=YC x) (ad:G.heap.NoLimit) (hg:G.gens=#[])
  (ha:G.heap.get? a=some {cls:=.type "list",data:=.seq vs.toArray}) (hi:YX vs ns) (hl:ns.length<=XQ) (hr:Room k zaW)
  (F:∀base:Heap,K.In base->base.Ns YK mg->FnOk P w K mg base CX k fa fd [x] sp) (Y:∀(s:XE) (u:Value),BindsTo s fd ⟨[u],[]⟩ [(x,u)])
  (ap:∀H:Hp,Only H->SqL K H a (ns.map V.int)->sp [.ref a] H (λv _=>v=.bl true) λ_ _ _=>False)
  (am:∀H e s',CX [] H G (λ_ _ _=>False) e s'->False) :
  ZQ (model P w) zaW (.call (.ref fa) ⟨[.ref a],[]⟩) (λr s'=>r=.ok (.ret (.bool true))/\OldK G.heap s'.heap/\s'.os=G.os/\zae s'.gens) G:=by
 have rv:=sU hi;have ac:=hi.length
 -- from an abstract heap in which nothing but the script may be tracked
 have W:∀H:Hp,Only H->SqL K H a (ns.map V.int)->HOk P w H G.heap->(∀b,H b≠none->b=a)->(H a≠none->K.lookup a=none)->
   ZQ (model P w) zaW (.call (.ref fa) ⟨[.ref a],[]⟩) (λr s'=>r=.ok (.ret (.bool true))/\OldK G.heap s'.heap/\s'.os=G.os/\zae s'.gens) G:=by
  intro H hO hS hok hA hK;have J:∀ {b:Addr} {o:Obj},G.heap.get? b=some o->H b=none->(v6 G.heap H).get? b=some o:=λe n=>F3 e n
  have ak:∀ {b:Addr} {o:Obj} {es:Array Z6} {ep:Nat},G.heap.get? b=some o->o.data=.dict es ep->H b=none:=λ{b o es ep} e d=>by
   cases q:H b with
   | none=>rfl
   | some u=>
    have e':b=a:=hA b (by rw[q];simp);subst e';rw[ha]at e;cases e;have d':Data.seq vs.toArray _=Data.dict es ep:=d;cases d'
  have U:∀ {b:Addr} {m:Str->Option Value},G.heap.Ns b m->(v6 G.heap H).Ns b m:=λ{b m} ⟨o,es,ep,e,d,r⟩=>⟨o,es,ep,J e (ak e d),d,r⟩
  have ag:K.In (v6 G.heap H):=λb o e=>J (KX b o e) (by
   cases q:H b with
   | none=>rfl
   | some u=>
    have e':b=a:=hA b (by rw[q];simp);subst e';rw[hK (by rw[q];simp)]at e;cases e)
  have hM:Mod K mg (v6 G.heap H):=⟨ag,U ae,⟨mb,U N,aj⟩,let ⟨mc,h1,h2⟩:=ad;⟨mc,U h1,h2⟩⟩;have e0:Env0 P w K mg (v6 G.heap H) zaW [] G H:=⟨rfl,hM,λb o e=>K1 e,zcq (DL _ _),trivial,λb N=>absurd (show b∈([]:List Addr)from N) (by simp),hok,.of_eq hg⟩;refine zav ((F _ ag (U ae)).run zaW [] G H ⟨[.ref a],[]⟩ [.ref a] [.ref a] _ _ hr e0 (Y G (.ref a)) (.cons rfl .nil) (ap H hO hS)) λr s' h=>?_
  cases r with
  | error e=>exact(am H e s' h).elim
  | ok fl=>
   cases fl with
   | next=>exact YF h
   | brk=>exact YF h
   | cont=>exact YF h
   | ret u=>
    obtain⟨v,H',os,af,un,aa,r',q⟩:=h;have q':v=.bl true:=q;subst q';obtain rfl:u=YV true:=r';refine⟨rfl,OldK.of_keep λb o e=>?_,os,af⟩;cases q:H b with
    | none=>exact un.keep b o e q (by intro z;exact absurd (show b∈([]:List Addr)from z) (by simp)) (by simp)
    | some u=>
     rcases hO b with z|⟨ob,xs,z⟩
     ·rw[q]at z;cases z
     ·have z2:=un.frzs b ob _ z
      obtain⟨e1,_⟩:=hok b _ z;obtain⟨e2,_⟩:=aa b _ z2;rw[e]at e1;cases e1;exact e2
 cases hk:K.lookup a with
 | some o=>
  -- the script is one of the module's own objects
  have e:=KX a o hk;rw[ha]at e;cases e;refine W (λ_=>none) (λ_=>.inl rfl) (.inr ⟨_,vs.toArray,_,hk,rfl,rfl,rfl,by rw[XX,ac];exact hl,by simpa using rv⟩) (λb u z=>by have z':(none:Option HO)=some u:=z;cases z') (λb z=>absurd rfl z) λz=>absurd rfl z
 | none=>
  refine W (λb=>if b=a then some (.frz {cls:=.type "list",data:=.seq vs.toArray} (.lst (ns.map V.int)))else none) (λb=>?_) (.inl (.inr ⟨{cls:=.type "list",data:=.seq vs.toArray},if_pos rfl⟩)) (λb u z=>?_) (λb z=>?_) λ_=>hk
  ·by_cases N:b=a
   ·exact .inr ⟨_,_,if_pos N⟩
   ·exact .inl (if_neg N)
  ·by_cases N:b=a
   ·have z':=(if_pos N).symm.trans z
    cases z';subst N;exact⟨ha,by rw[XR];exact hl,vs,_,rv,ha⟩
   ·have z':=(if_neg N).symm.trans z
    cases z'
  ·by_cases N:b=a
   ·exact N
   ·exact absurd (if_neg N) z
theorem KI{l:zda}{n k:Nat}{q:XM}{N:List Str}{XP:(Str->Option Value)->Heap->Prop}{YP:World->Heap->Prop}{d:DefRec}{K:Params->XF}{CX:World->CC}{sp:World->Sp}{x:Str}
  (hn:l.most=some n) (ad:n<=XQ) (ae:d.params.defaults=[]) (hr:Room k zaW)
  (hY:∀(w:World) (h:Heap),YP w h->(K w.params).In h)
  (F:∀(w:World) (mg:Str -> Option Value) (fa:Addr) (h:Heap), (K w.params).In h -> h.Ns YK mg -> mg d.name = some (.ref fa) ->
   ∃fd:ZK,(∀(s:XE) (u:Value),BindsTo s fd ⟨[u],[]⟩ [(x,u)]) /\
    ∀base:Heap,(K w.params).In base->base.Ns YK mg->FnOk l.prog w (K w.params) mg base (CX w) k fa fd [x] (sp w))
  (ag:∀(w:World) (H:Hp) (a:Addr) (ns:List Int),ns.length<=n->Only H->SqL (K w.params) H a (ns.map V.int)->sp w [.ref a] H (λv _=>v=.bl true) λ_ _ _=>False)
  (af:∀(w:World) (H:Hp) (s:XE) (e:Value) (s':XE),CX w [] H s (λ_ _ _=>False) e s'->False) :
  PySem.W.WalkO q N XP YP l.row.toRowW d [] (λf vs=>PySem.call f vs):=by
 refine Att.wG hn ae λw ai ab mg mb fa o pm cd ap a vs ns G Y ho hd ar ah aa U J hg=>?_
 have KX:=hY w _ Y;obtain⟨fd,hb,hF⟩:=F w mg fa _ KX G.T.g ah;exact E7 KX G.T.g G.T.b G.T.builtins G.T.nolimit hg aa U (Y0 J ad) hr hF hb (λH hO hS=>ag w H a ns J hO hS) λH e s'=>af w H ab e s'
noncomputable def d7(s:Stmt):Arguments:=match s with
 | .FunctionDef _ a _ _ _ _ _ _ _ _=>a
 | _=>{posonlyargs:=[],args:=[],vararg:=none,kwonlyargs:=[],kw_defaults:=[],kwarg:=none,defaults:=[]}
noncomputable def bO(s:Stmt):List Stmt:=match s with
 | .FunctionDef _ _ b _ _ _ _ _ _ _=>b
 | _=>[]
noncomputable def aF(s:Stmt):Scope:=match s with
 | .FunctionDef _ _ _ _ _ _ sc _ _ _=>sc
 | _=>{kind:=.function,names:=[],isGenerator:=false,isCoroutine:=false}
abbrev AA:CC:=λ_ _ _ _ _ _=>False
abbrev E0:XK:=λ_ _ _=>False
theorem SA:zY AA X E0:=λ_ _ _ _ _ _ _ h=>h.elim
structure Fun(K:XF)(x qual:Str)(st:Stmt)(f:Addr)(fd:ZK):Prop where
 ex:∃(oc:Value) (od:Option Addr) (kV doc pm:Value) (an:Option Addr) (cdv ct:Value) (osl:Array (Option Value)),
  fd=Z0 x qual (d7 st) (bO st) (aF st) .none kV doc pm an cdv ct/\K.lookup f=some ⟨oc,od,.func fd,osl⟩/\zba K cdv qual=true
 kp:zaw K (.ref f)=true
section
variable {P:XM}{w:World}{K:XF}{mg:Str->Option Value}{base:Heap}
theorem Fun.ok{x G:Str}{st:Stmt}{f:Addr}{fd:ZK}{N ps:List Str}{k:Nat}{sp:Sp}(F:Fun K x G st f fd)(S:FnScope N ps (aF st))(aa:∀vs H Q E,sp vs H Q E->vs.length=ps.length)
  (U:∀(J:Value) (A:XS) (outer:List Env) (s:XE) (H:Hp) (vs:List V) (Q:VK) (E:XK), Room k (A.deeper (YW G (aF st) s.heap.objs.size f J)) -> sp vs H Q E ->
   ∃t,PSs (c6 AA P w K mg base N G (aF st) f J A outer s H E).nox (bO st) t/\t {nx:=λ_ H'=>Q .non H',rt:=Q} (start N vs) H):FnOk P w K mg base AA (k+1) f fd ps sp:=by
 obtain⟨oc,od,kV,ac,pm,an,J,ct,ad,rfl,lk,Y⟩:=F.ex;refine M6 lk Y S aa λA outer s H vs Q E hr W=>?_
 obtain⟨t,h,q⟩:=U J A outer s H vs Q E hr W;exact⟨t,h.nox,q⟩
theorem Fun.binds{x q:Str}{st:Stmt}{f:Addr}{fd:ZK}{ps:List Str}(F:Fun K x q st f fd)
  (h:∀(kV J N:Value) (U:Option Addr) (G ct:Value) (us:List Value),us.length=ps.length->bindArgs (Z0 x q (d7 st) (bO st) (aF st) .none kV J N U G ct) ⟨us,[]⟩=pure (ps.zip us)):Binds K fd ps []:=by
 obtain⟨oc,od,kV,J,N,U,G,ct,W,rfl,lk,Y⟩:=F.ex;exact .all (h kV J N U G ct)
theorem HW{x q:Str}{st:Stmt}{f:Addr}{W:Value}{od U:Option Addr}{J:Array (Option Value)}{kV G N F ct:Value}(l:K.lookup f=some ⟨W,od,.func (Z0 x q (d7 st) (bO st) (aF st) .none kV G N U F ct),J⟩)
  (c:zba K F q=true) (k:zaw K (.ref f)=true):Fun K x q st f (Z0 x q (d7 st) (bO st) (aF st) .none kV G N U F ct):=⟨⟨W,od,kV,G,N,U,F,ct,J,rfl,l,c⟩,k⟩
end
theorem cP(q:Room k A):A.units+1<cLine:=zcr (Nat.add_le_add_left (by decide:1<=64) _) q.units
section
variable {X:Cx}
theorem pv(i:Nat)(G:X.N[i]?=some x:=by rfl)(F:EJ X.env.scope x:=by first|exact YR rfl|exact Z7 (YR rfl)|exact Z7 (Z7 rfl))(J:(x == ("__debug__" : Str))=false:=by decide)
  (q:(x == ("__classdict__" : Str))=false:=by decide):PE X (.Name x pos) (iN i):=HG G F J q
end
theorem V8{A B:Prop}(h:B):if false=true then A else B:=by
 rw[if_neg XZ];exact h
theorem VA{A B:Prop}(h:A):if true=true then A else B:=by
 rw[if_pos rfl];exact h
def Same(H H':Hp):Prop:=∀b o,H b=some o->H' b=some o
theorem Same.trans(a:Same H H1)(b:Same H1 H2):Same H H2:=λc o h=>b c o (a c o h)
theorem Same.free(e:Same H H')(h:H' l=Option.none):H l=Option.none:=by
 cases q:H l with
 | none=>rfl
 | some o=>
  rw[e l o q]at h;cases h
theorem Same.seq{K:XF}{H H':Hp}{a:Addr}{xs:List V}(e:Same H H')(h:SqL K H a xs):SqL K H' a xs:=by
 rcases h with(h|⟨o,h⟩)|h
 ·exact .inl (.inl (e _ _ h))
 ·exact .inl (.inr ⟨o,e _ _ h⟩)
 ·exact .inr h
section
variable {X:Cx}
end
section
variable {κ:Type}[DecidableEq κ]
theorem AR:∀ {l:List κ} {k:κ},l.Nodup->¬ k∈l->(l++[k]).Nodup
 | [],k,_,_=>by simp
 | a::r,k,h,hk=>by
  obtain⟨h1,h2⟩:=List.nodup_cons.mp h;show(a::(r++[k])).Nodup;refine List.nodup_cons.mpr ⟨λm=>?_,AR h2 λm=>hk (List.mem_cons.mpr (Z7 m))⟩;rcases List.mem_append.mp m with q|q
  ·exact h1 q
  ·exact hk (List.mem_cons.mpr (YR (List.mem_singleton.mp q).symm))
end
end L2
set_option maxHeartbeats 4000000
namespace My
open PySem PySem.Spec PyProof.Rows L2
def T1(i j:Int):Prop:=(-(10^250)<i/\i<10^250)/\-(10^250)<j/\j<10^250
section
variable {X:Cx}
def VH(K:XF):List V->Hp->VK->Prop:=λxs H Q=>∃x n t b,xs=[x,.ty n]/\TyOf K H x t/\ZU K t (.type n)=some b/\Q (.bl b) H
theorem FM:CallR X (.builtin "isinstance") (VH X.K):=by
 intro pins s σ H xs J Q I r h;obtain⟨x,n,t,b,rfl,ty,e,q⟩:=h;obtain⟨u,N,rfl,G,F⟩:=vals2 r;cases F;exact C1 I G ty e λtk=>⟨.bl b,H,I.tok tk,rfl,q⟩
end
structure Ok(P:XM)(w:World)(K:XF)(mg:Str->Option Value)(base:Heap)(x:Str)(k:Nat)(ps:List Str)(sp:Sp):Prop where
 ex:∃f fd,zaw K (.ref f)=true/\Binds K fd ps []/\mg x=some (.ref f)/\FnOk P w K mg base AA k f fd ps sp
structure DefAt(K:XF)(mg:Str->Option Value)(x:Str)(st:Stmt)(ps:List Str):Prop where
 ex:∃f fd,Fun K x x st f fd/\Binds K fd ps []/\mg x=some (.ref f)
def PM(sp:Sp)(t:TA):TE:=λσ H Q=>t σ H λvs H1=>sp vs H1 Q E0
section
variable {X:Cx}{x:Str}{k:Nat}{ps:List Str}{sp:Sp}{e:Expr}{es:List Expr}{t:TA}{p pos:Pos}
theorem lF(O:Ok X.prog X.w X.K X.mg X.base x k ps sp)(W:Room k X.A)(hg:Gl X x)(U:PA X (e::es) t)(q:(x == ("__debug__" : Str))=false:=by decide)
  (J:XI (e::es) X.env=(false,eval e X.env)::XI es X.env:=by rfl) (G:(X0 pos (XI es X.env)).any (·.1)=false:=by rfl) :
  PE X (.Call (.Name x p) (e::es) [] pos) (PM sp t):=by
 obtain⟨f,fd,hk,N,Y,F⟩:=O.ex;have h:=LS (p:=p) (pos:=pos) F W hg Y hk N .nil SA U q J G;intro pins s σ H Q I hw;refine h pins s σ H Q I ?_;have e:(λ(vs:List V) (H1:Hp)=>sp (vs++[]) H1 Q E0)=λvs H1=>sp vs H1 Q E0:=by
  funext vs H1;rw[ZZ]
 show t σ H λvs H1=>sp (vs++[]) H1 Q E0
 rw[e];exact hw
end
section
variable {P:XM}{w:World}{K:XF}{mg:Str->Option Value}{base:Heap}
def BodyOk(P:XM)(w:World)(K:XF)(mg:Str->Option Value)(base:Heap)(x:Str)(st:Stmt)(N:List Str)(k:Nat)(sp:Sp):Prop:=
 ∀(f:Addr) (cdv:Value) (A:XS) (outer:List Env) (s:XE) (H:Hp) (vs:List V) (Q:VK) (E:XK),Room k (A.deeper (YW x (aF st) s.heap.objs.size f cdv))->sp vs H Q E->
   ∃t,PSs (c6 AA P w K mg base N x (aF st) f cdv A outer s H E).nox (bO st) t/\t {nx:=λ_ H'=>Q .non H',rt:=Q} (start N vs) H
theorem BodyOk.fn{x:Str}{st:Stmt}{N ps:List Str}{k:Nat}{sp:Sp}{f:Addr}{fd:ZK}(q:BodyOk P w K mg base x st N k sp)(F:Fun K x x st f fd)(S:FnScope N ps (aF st))(J:∀vs H Q E,sp vs H Q E->vs.length=ps.length) :
  FnOk P w K mg base AA (k+1) f fd ps sp:=F.ok S J λG A outer s H vs Q E U h=>q f G A outer s H vs Q E U h
theorem BodyOk.ok{x:Str}{st:Stmt}{N ps:List Str}{k:Nat}{sp:Sp}(q:BodyOk P w K mg base x st N k sp)(D:DefAt K mg x st ps)(S:FnScope N ps (aF st))(G:∀vs H Q E,sp vs H Q E->vs.length=ps.length) :
  Ok P w K mg base x (k+1) ps sp:=by
 obtain⟨f,fd,F,B,J⟩:=D.ex;exact⟨f,fd,F.kp,B,J,q.fn F S G⟩
theorem Ok.mono(O:Ok P w K mg base x j ps sp)(h:j<=k):Ok P w K mg base x k ps sp:=by
 obtain⟨f,fd,q,J,G,F⟩:=O.ex;exact⟨f,fd,q,J,G,F.mono h⟩
end
def yE(K:XF):Sp:=λvs H Q _=>∃(a:Addr) (ns:List Int),vs=[.ref a]/\SqL K H a (ns.map V.int)/\ns.length<=63/\∀H',Q (.bl true) H'
theorem walk{l:zda}{q:XM}{G:List Str}{Y:(Str->Option Value)->Heap->Prop}{N:World->Heap->Prop}{d:DefRec}{K:Params->XF}{k:Nat}(hk:k<=100)(hn:l.most=some 63)(J:d.params.defaults=[])
  (U:∀(w:World) (h:Heap),N w h->(K w.params).In h)
  (F:∀(w:World) (mg:Str -> Option Value) (fa:Addr) (h:Heap), (K w.params).In h -> h.Ns YK mg -> mg d.name = some (.ref fa) ->
   ∃fd:ZK,(∀(s:XE) (u:Value),BindsTo s fd ⟨[u],[]⟩ [("script",u)])/\∀base:Heap,(K w.params).In base->base.Ns YK mg->FnOk l.prog w (K w.params) mg base AA k fa fd ["script"] (yE (K w.params))) :
  PySem.W.WalkO q G Y N l.row.toRowW d [] (λf vs=>PySem.call f vs):=
 L2.KI (n:=63) (k:=k) (x := "script") (CX:=λ_=>AA) (sp:=λw=>yE (K w.params)) hn (by decide) J (Room.mono (k:=100) ⟨rfl,by decide,by decide⟩ hk) U F (λ_ _ a ns hl _ hS=>⟨a,ns,rfl,hS,hl,λ_=>rfl⟩) λ_ _ _ _ _ z=>z
theorem xQ(h:H p=none):Same H (upd H p o):=λb u e=>by
 rw[aL (bM e h)];exact e
theorem Same.tupR{K:XF}{H H':Hp}{a:Addr}{xs:List V}(e:Same H H')(h:SqT K H a xs):SqT K H' a xs:=by
 rcases h with(h|⟨o,h⟩)|h
 ·exact .inl (.inl (e _ _ h))
 ·exact .inl (.inr ⟨o,e _ _ h⟩)
 ·exact .inr h
theorem boot_len:YC "len" = some (.builtin "len"):=by decide +kernel
theorem boot_max:YC "max" = some (.builtin "max"):=by decide +kernel
theorem boot_min:YC "min" = some (.builtin "min"):=by decide +kernel
theorem boot_isinstance:YC "isinstance" = some (.builtin "isinstance"):=by decide +kernel
theorem boot_sorted:YC "sorted" = some (.builtin "sorted"):=by decide +kernel
theorem boot_int:YC "int" = some (.type "int"):=by decide +kernel
theorem boot_bool:YC "bool" = some (.type "bool"):=by decide +kernel
theorem boot_tuple:YC "tuple" = some (.type "tuple"):=by decide +kernel
theorem boot_list:YC "list" = some (.type "list"):=by decide +kernel
theorem boot_str:YC "str" = some (.type "str"):=by decide +kernel
theorem boot_range:YC "range" = some (.type "range"):=by decide +kernel
theorem boot_any:YC "any" = some (.builtin "any"):=by decide +kernel
theorem boot_all:YC "all" = some (.builtin "all"):=by decide +kernel
end My
namespace My
open PySem PySem.Spec PyProof.Rows L2 PySem.SeqAt
inductive Dx where
 | non|bl (b:Bool)|int (i:Int)|str (x:Str)|tup (l:List Dx)|lst (l:List Dx)
mutual
def Rep(K:XF)(H:Hp):Dx->V->Prop
 | .non,v=>v=.non
 | .bl b,v=>v=.bl b
 | .int i,v=>v=.int i
 | .str x,v=>v=.str x
 | .tup l,v=>∃a xs,v=.ref a/\SqT K H a xs/\RepL K H l xs
 | .lst l,v=>∃a xs,v=.ref a/\SqL K H a xs/\RepL K H l xs
def RepL(K:XF)(H:Hp):List Dx->List V->Prop
 | [],vs=>vs=[]
 | d::ds,vs=>∃x xs,vs=x::xs/\Rep K H d x/\RepL K H ds xs
end
section
variable {K:XF}{H H':Hp}
mutual
theorem Rep.same(e:Same H H'):∀(d:Dx) (v:V),Rep K H d v->Rep K H' d v
 | .non,v,h=>by rw[Rep]at h ⊢;exact h
 | .bl b,v,h=>by rw[Rep]at h ⊢;exact h
 | .int i,v,h=>by rw[Rep]at h ⊢;exact h
 | .str x,v,h=>by rw[Rep]at h ⊢;exact h
 | .tup l,v,h=>by
  rw[Rep]at h ⊢;obtain⟨a,xs,q,h1,h2⟩:=h;exact⟨a,xs,q,Same.tupR e h1,RepL.same e l xs h2⟩
 | .lst l,v,h=>by
  rw[Rep]at h ⊢;obtain⟨a,xs,q,h1,h2⟩:=h;exact⟨a,xs,q,e.seq h1,RepL.same e l xs h2⟩
theorem RepL.same(e:Same H H'):∀(ds:List Dx) (vs:List V),RepL K H ds vs->RepL K H' ds vs
 | [],vs,h=>by rw[RepL]at h ⊢;exact h
 | d::ds,vs,h=>by
  rw[RepL]at h ⊢;obtain⟨x,xs,q,h1,h2⟩:=h;exact⟨x,xs,q,Rep.same e d x h1,RepL.same e ds xs h2⟩
end
theorem RepL.nil:RepL K H [] []:=by rw[RepL]
theorem RepL.cons(h1:Rep K H d v)(h2:RepL K H ds vs):RepL K H (d::ds) (v::vs):=by
 rw[RepL];exact⟨v,vs,rfl,h1,h2⟩
theorem RepL.length:∀ {ds:List Dx} {vs:List V},RepL K H ds vs->vs.length=ds.length
 | [],vs,h=>by rw[RepL]at h;rw[h];rfl
 | d::ds,vs,h=>by
  rw[RepL]at h;obtain⟨x,xs,rfl,_,h2⟩:=h;rw[Y4,Y4,RepL.length h2]
theorem RepL.get':∀ {ds:List Dx} {vs:List V} {i:Nat} {d:Dx},RepL K H ds vs->ds[i]?=some d->∃v,vs[i]?=some v/\Rep K H d v
 | [],vs,i,d,h,e=>by simp at e
 | d'::ds,vs,i,d,h,e=>by
  rw[RepL]at h;obtain⟨x,xs,rfl,h1,h2⟩:=h;cases i with
  | zero=>simp at e;subst e;exact⟨x,rfl,h1⟩
  | succ i=>exact RepL.get' (i:=i) (ds:=ds) h2 (by simpa using e)
mutual
def Dx.dep:Dx->Nat
 | .tup l=>v8 l+1
 | .lst l=>v8 l+1
 | .non=>0
 | .bl _=>0
 | .int _=>0
 | .str _=>0
def v8:List Dx->Nat
 | []=>0
 | d::ds=>max d.dep (v8 ds)
end
mutual
def Dx.nb:Dx->Bool
 | .bl _=>false
 | .tup l=>JE l
 | .lst l=>JE l
 | .non=>true
 | .int _=>true
 | .str _=>true
def JE:List Dx->Bool
 | []=>true
 | d::ds=>d.nb && JE ds
end
theorem BW:∀ {ds:List Dx} {i:Nat} {d:Dx},ds[i]?=some d->d.dep<=v8 ds
 | [],i,d,e=>by simp at e
 | d'::ds,0,d,e=>by simp at e;subst e;rw[v8];lia
 | d'::ds,i+1,d,e=>by
  have:=BW (ds:=ds) (i:=i) (by simpa using e);rw[v8];lia
theorem zR:∀ {ds:List Dx} {i:Nat} {d:Dx},JE ds=true->ds[i]?=some d->d.nb=true
 | [],i,d,_,e=>by simp at e
 | d'::ds,0,d,h,e=>by simp at e;subst e;rw[JE,YU]at h;exact h.1
 | d'::ds,i+1,d,h,e=>by
  rw[JE,YU]at h;exact zR h.2 (by simpa using e)
end
section
variable {X:Cx}{pins:List (Addr×Obj)}{σ:L2.St}{H:Hp}{s:XE}
theorem BJ(I:Inv X pins σ H s)(h1:SqL X.K H a xs)(h2:SqT X.K H a ys):False:=by
 obtain⟨G,_,⟨o,n,e,c,_⟩,_⟩:=I.list h1;obtain⟨its',_,⟨o',F,q,_⟩,_⟩:=I.tuple h2;rw[e]at F;cases F;rw[c]at q;exact absurd q (by decide)
mutual
theorem Rep.inj(I:Inv X pins σ H s):∀(d e:Dx) (v:V),Rep X.K H d v->Rep X.K H e v->d=e
 | .non,e,v,h,h'=>by
  rw[Rep]at h;subst h;cases e <;> (rw[Rep]at h') <;> first|rfl|(cases h';done)|(obtain⟨_,_,z,_⟩:=h';cases z)
 | .bl b,e,v,h,h'=>by
  rw[Rep]at h;subst h;cases e <;> (rw[Rep]at h') <;> first|(cases h';rfl)|(cases h';done)|(obtain⟨_,_,z,_⟩:=h';cases z)
 | .int i,e,v,h,h'=>by
  rw[Rep]at h;subst h;cases e <;> (rw[Rep]at h') <;> first|(cases h';rfl)|(cases h';done)|(obtain⟨_,_,z,_⟩:=h';cases z)
 | .str x,e,v,h,h'=>by
  rw[Rep]at h;subst h;cases e <;> (rw[Rep]at h') <;> first|(cases h';rfl)|(cases h';done)|(obtain⟨_,_,z,_⟩:=h';cases z)
 | .tup l,e,v,h,h'=>by
  rw[Rep]at h;obtain⟨a,xs,rfl,h1,h2⟩:=h;cases e with
  | tup m=>
   rw[Rep]at h';obtain⟨b,ys,F,q,G⟩:=h';cases F;have J:=I.tuple_inj h1 q;subst J;rw[RepL.inj I l m xs h2 G]
  | lst m=>
   rw[Rep]at h';obtain⟨b,ys,F,q,G⟩:=h';cases F;exact(BJ I q h1).elim
  | non=>rw[Rep]at h';cases h'
  | bl b=>rw[Rep]at h';cases h'
  | int i=>rw[Rep]at h';cases h'
  | str x=>rw[Rep]at h';cases h'
 | .lst l,e,v,h,h'=>by
  rw[Rep]at h;obtain⟨a,xs,rfl,h1,h2⟩:=h;cases e with
  | lst m=>
   rw[Rep]at h';obtain⟨b,ys,F,q,G⟩:=h';cases F;have J:=I.list_inj h1 q;subst J;rw[RepL.inj I l m xs h2 G]
  | tup m=>
   rw[Rep]at h';obtain⟨b,ys,F,q,G⟩:=h';cases F;exact(BJ I h1 q).elim
  | non=>rw[Rep]at h';cases h'
  | bl b=>rw[Rep]at h';cases h'
  | int i=>rw[Rep]at h';cases h'
  | str x=>rw[Rep]at h';cases h'
theorem RepL.inj(I:Inv X pins σ H s):∀(ds es:List Dx) (vs:List V),RepL X.K H ds vs->RepL X.K H es vs->ds=es
 | [],es,vs,h,h'=>by
  rw[RepL]at h;subst h;cases es with
  | nil=>rfl
  | cons e es=>rw[RepL]at h';obtain⟨_,_,z,_⟩:=h';cases z
 | d::ds,es,vs,h,h'=>by
  rw[RepL]at h;obtain⟨x,xs,rfl,h1,h2⟩:=h;cases es with
  | nil=>rw[RepL]at h';cases h'
  | cons e es=>
   rw[RepL]at h';obtain⟨_,_,z,q,F⟩:=h';cases z;rw[Rep.inj I d e x h1 q,RepL.inj I ds es xs h2 F]
end
end
open Classical in
theorem vK:∀(ds es:List Dx),((Y9 (min ds.length es.length)).all (λj=>decide (ds.getD j .non=es.getD j .non)) && ds.length == es.length)=decide (ds=es):=by
 intro ds es;by_cases h:ds=es
 ·subst h
  simp
 ·rw[decide_eq_false h]
  by_cases q:ds.length=es.length
  ·simp only[q,Nat.min_self,beq_self_eq_true,Bool.and_true]
   rw[zdb];intro F;rw[zbg]at F;refine h (zbI q λi h1 h2=>?_);have:=of_decide_eq_true (F i (List.mem_range.mpr h2));simpa[Z8,h1,h2]using this
  ·have:(ds.length == es.length)=false:=by simpa using q
   rw[this,Bool.and_false]
open Classical in
theorem xV(ds es:List Dx)(h:ds.length=es.length):((Y9 ds.length).all (λj=>decide (ds.getD j .non=es.getD j .non)))=decide (ds=es):=by
 have:=vK ds es;rw[h,Nat.min_self,beq_self_eq_true,Bool.and_true]at this;rw[h];exact this
section
variable {X:Cx}{pins:List (Addr×Obj)}{σ:L2.St}{H:Hp}{s:XE}
theorem EqAt.to(h:EqAt A s u v b)(e:b=c):EqAt A s u v c:=e ▸ h
open Classical in
theorem lM(I:Inv X pins σ H s){n:Nat}(ih:∀(A:XS) (d e:Dx) (x y:V) (u v:Value),d.dep<=n->A.units+n<cLine->d.nb=true->e.nb=true->Rep X.K H d x->Rep X.K H e y->RelV x u->RelV y v->EqAt A s u v (decide (d=e)))
  {A:XS} {ds es:List Dx} {xs ys:List V} {q vs:List Value} (hd:v8 ds<=n) (hu:A.units+(n+1)<cLine) (h1:JE ds=true) (h2:JE es=true) (Y:RepL X.K H ds xs) (U:RepL X.K H es ys) (J:Vals xs q) (G:Vals ys vs) :
  ∀j (h1:j<q.toArray.size) (h2:j<vs.toArray.size),EqAt A.in1 s q.toArray[j] vs.toArray[j] (decide (ds.getD j .non=es.getD j .non)):=by
 intro j j1 j2;have l1:=Y.length;have l2:=U.length;have l3:=J.length;have l4:=G.length;have k1:j<q.length:=by simpa using j1
 have k2:j<vs.length:=by simpa using j2
 have F:ds[j]?=some (ds.getD j .non):=by simp[Z8,show j<ds.length by lia]
 have W:es[j]?=some (es.getD j .non):=by simp[Z8,show j<es.length by lia]
 obtain⟨x,ex,rx⟩:=Y.get' F;obtain⟨y,ey,ry⟩:=U.get' W;obtain⟨u,N,ru⟩:=J.get ex;obtain⟨v,ev,rv⟩:=G.get ey;have b1:q.toArray[j]=u:=by
  rw[Y6 k1]at N;simpa using YJ N
 have b2:vs.toArray[j]=v:=by
  rw[Y6 k2]at ev;simpa using YJ ev
 rw[b1,b2];exact ih A.in1 _ _ x y u v (Y0 (BW F) hd) (by show A.units+1+n<cLine;lia) (zR h1 F) (zR h2 W) rx ry ru rv
end
section
variable {X:Cx}{pins:List (Addr×Obj)}{σ:L2.St}{H:Hp}{s:XE}
theorem PlainL.isList(p:PlainL h a its):h.IsList a its:=by
 obtain⟨o,n,e,c,_,d⟩:=p;exact⟨o,e,c,n,d⟩
open Classical in
theorem vH(I:Inv X pins σ H s) :
  ∀(n:Nat) (A:XS) (d e:Dx) (x y:V) (u v:Value),d.dep<=n->A.units+n<cLine->d.nb=true->e.nb=true->Rep X.K H d x->Rep X.K H e y->RelV x u->RelV y v->EqAt A s u v (decide (d=e)):=by
 intro n;induction n with
 | zero=>
  intro A d e x y u v hd hu n1 U r1 q ru G;have F:A.units<cLine:=by lia
  cases d with
  | bl b=>rw[Dx.nb]at n1;cases n1
  | tup l=>rw[Dx.dep]at hd;lia
  | lst l=>rw[Dx.dep]at hd;lia
  | non=>
   rw[Rep]at r1;subst r1;cases ru;cases e with
   | bl b=>rw[Dx.nb]at U;cases U
   | non=>rw[Rep]at q;subst q;cases G;exact EqAt.to (EqAt.same _) (by simp)
   | int i=>rw[Rep]at q;subst q;obtain⟨t,rfl⟩:=G;exact EqAt.to (EqAt.none_int _ _) (by simp)
   | str i=>rw[Rep]at q;subst q;obtain⟨t,rfl⟩:=G;exact EqAt.to (EqAt.none_str _ _) (by simp)
   | tup l=>
    rw[Rep]at q;obtain⟨a,xs,rfl,h1,_⟩:=q;cases G;obtain⟨N,_,J,_⟩:=I.tuple h1;exact EqAt.to (EqAt.none_tuple J F) (by simp)
   | lst l=>
    rw[Rep]at q;obtain⟨a,xs,rfl,h1,_⟩:=q;cases G;obtain⟨N,_,J,_⟩:=I.list h1;exact EqAt.to (EqAt.none_list J.isList F) (by simp)
  | int i=>
   rw[Rep]at r1;subst r1;obtain⟨t,rfl⟩:=ru;cases e with
   | bl b=>rw[Dx.nb]at U;cases U
   | non=>rw[Rep]at q;subst q;cases G;exact EqAt.to (EqAt.int_none _ _) (by simp)
   | int j=>rw[Rep]at q;subst q;obtain⟨t',rfl⟩:=G;exact EqAt.to (EqAt.int_int _ _ _ _) (by simp[zdc])
   | str j=>rw[Rep]at q;subst q;obtain⟨t',rfl⟩:=G;exact EqAt.to (EqAt.int_str _ _ _ _) (by simp)
   | tup l=>
    rw[Rep]at q;obtain⟨a,xs,rfl,h1,_⟩:=q;cases G;obtain⟨N,_,J,_⟩:=I.tuple h1;exact EqAt.to (EqAt.int_tuple _ _ J F) (by simp)
   | lst l=>
    rw[Rep]at q;obtain⟨a,xs,rfl,h1,_⟩:=q;cases G;obtain⟨N,_,J,_⟩:=I.list h1;exact EqAt.to (EqAt.int_list _ _ J.isList F) (by simp)
  | str i=>
   rw[Rep]at r1;subst r1;obtain⟨t,rfl⟩:=ru;cases e with
   | bl b=>rw[Dx.nb]at U;cases U
   | non=>rw[Rep]at q;subst q;cases G;exact EqAt.to (EqAt.str_none _ _) (by simp)
   | int j=>rw[Rep]at q;subst q;obtain⟨t',rfl⟩:=G;exact EqAt.to (EqAt.str_int _ _ _ _) (by simp)
   | str j=>rw[Rep]at q;subst q;obtain⟨t',rfl⟩:=G;exact EqAt.to (EqAt.str_str _ _ _ _) (by simp[zdc])
   | tup l=>
    rw[Rep]at q;obtain⟨a,xs,rfl,h1,_⟩:=q;cases G;obtain⟨N,_,J,_⟩:=I.tuple h1;exact EqAt.to (EqAt.str_tuple _ _ J F) (by simp)
   | lst l=>
    rw[Rep]at q;obtain⟨a,xs,rfl,h1,_⟩:=q;cases G;obtain⟨N,_,J,_⟩:=I.list h1;exact EqAt.to (EqAt.str_list _ _ J.isList F) (by simp)
 | succ n ih=>
  intro A d e x y u v hd hu n1 U r1 q ru G;have F:A.units<cLine:=by lia
  cases d with
  | bl b=>rw[Dx.nb]at n1;cases n1
  | non=>exact ih A _ e x y u v (by rw[Dx.dep];lia) (by lia) n1 U r1 q ru G
  | int i=>exact ih A _ e x y u v (by rw[Dx.dep];lia) (by lia) n1 U r1 q ru G
  | str i=>exact ih A _ e x y u v (by rw[Dx.dep];lia) (by lia) n1 U r1 q ru G
  | tup l=>
   have af:=r1;rw[Rep]at r1;obtain⟨a,xs,rfl,h1,q1⟩:=r1;cases ru;obtain⟨N,v1,J,_⟩:=I.tuple h1;cases e with
   | bl b=>rw[Dx.nb]at U;cases U
   | non=>rw[Rep]at q;subst q;cases G;exact EqAt.to (EqAt.tuple_none J F) (by simp)
   | int j=>rw[Rep]at q;subst q;obtain⟨t',rfl⟩:=G;exact EqAt.to (EqAt.tuple_int _ _ J F) (by simp)
   | str j=>rw[Rep]at q;subst q;obtain⟨t',rfl⟩:=G;exact EqAt.to (EqAt.tuple_str _ _ J F) (by simp)
   | lst m=>
    rw[Rep]at q;obtain⟨b,ys,rfl,h2,q2⟩:=q;cases G;obtain⟨W,v2,Y,_⟩:=I.list h2;exact EqAt.to (EqAt.tuple_list J Y.isList F) (by simp)
   | tup m=>
    by_cases hv:v=XN a
    ·subst hv
     obtain rfl:y=V.ref a:=RelV.inj G rfl;have:=Rep.inj I _ _ _ af q;rw[this];exact EqAt.to (EqAt.same _) (by simp)
    ·rw[Rep]at q;obtain⟨b,ys,rfl,h2,q2⟩:=q;cases G
     obtain⟨W,v2,Y,_⟩:=I.tuple h2;rw[Dx.dep]at hd;rw[Dx.nb]at n1 U;refine EqAt.to (EqAt.of_refs (λz=>hv (by rw[z])) (RcAt.tuples J Y F (lM I ih (by lia) hu n1 U q1 q2 v1 v2))) ?_;have e1:N.toArray.size=l.length:=by rw[XX,<- v1.length,q1.length]
     have e2:W.toArray.size=m.length:=by rw[XX,<- v2.length,q2.length]
     rw[e1,e2,vK];simp
  | lst l=>
   have af:=r1;rw[Rep]at r1;obtain⟨a,xs,rfl,h1,q1⟩:=r1;cases ru;obtain⟨N,v1,J,_⟩:=I.list h1;cases e with
   | bl b=>rw[Dx.nb]at U;cases U
   | non=>rw[Rep]at q;subst q;cases G;exact EqAt.to (EqAt.list_none J.isList F) (by simp)
   | int j=>rw[Rep]at q;subst q;obtain⟨t',rfl⟩:=G;exact EqAt.to (EqAt.list_int _ _ J.isList F) (by simp)
   | str j=>rw[Rep]at q;subst q;obtain⟨t',rfl⟩:=G;exact EqAt.to (EqAt.list_str _ _ J.isList F) (by simp)
   | tup m=>
    rw[Rep]at q;obtain⟨b,ys,rfl,h2,q2⟩:=q;cases G;obtain⟨W,v2,Y,_⟩:=I.tuple h2;exact EqAt.to (EqAt.list_tuple J.isList Y F) (by simp)
   | lst m=>
    by_cases hv:v=XN a
    ·subst hv
     obtain rfl:y=V.ref a:=RelV.inj G rfl;have:=Rep.inj I _ _ _ af q;rw[this];exact EqAt.to (EqAt.same _) (by simp)
    ·rw[Rep]at q;obtain⟨b,ys,rfl,h2,q2⟩:=q;cases G
     obtain⟨W,v2,Y,_⟩:=I.list h2;rw[Dx.dep]at hd;rw[Dx.nb]at n1 U;have e1:N.toArray.size=l.length:=by rw[XX,<- v1.length,q1.length]
     have e2:W.toArray.size=m.length:=by rw[XX,<- v2.length,q2.length]
     by_cases hl:l.length=m.length
     ·refine EqAt.to (EqAt.of_refs (λz=>hv (by rw[z])) (RcAt.lists J.isList Y.isList (by rw[e1,e2,hl]) F (lM I ih (by lia) hu n1 U q1 q2 v1 v2))) ?_
      rw[e1,xV _ _ hl];simp
     ·refine EqAt.to (EqAt.of_refs (λz=>hv (by rw[z])) (RcAt.lists_lengths J.isList Y.isList (by rw[e1,e2];simpa using hl) F)) ?_
      rw[decide_eq_false];intro z;cases z;exact hl rfl
end
noncomputable def Dx.seq:Dx->Bool
 | .tup _=>true | .lst _=>true | .non=>false | .bl _=>false | .int _=>false | .str _=>false
open Classical in
def T6(K:XF)(neg:Bool):R2:=λx y H Q=>∃d e,Rep K H d x/\Rep K H e y/\d.seq=true/\e.seq=true/\d.nb=true/\e.nb=true/\d.dep<=60/\Q (.bl (if neg then !decide (d=e)else decide (d=e))) H
section
variable {X:Cx}{pins:List (Addr×Obj)}{σ:L2.St}{H:Hp}{s:XE}
open Classical in
theorem M8(I:Inv X pins σ H s)(hu:X.A.units+64<cLine)(r1:Rep X.K H d x)(N:Rep X.K H e y)(q1:d.seq=true)(U:e.seq=true)(n1:d.nb=true)(n2:e.nb=true)(hd:d.dep<=60)(ru:RelV x u)(rv:RelV y v) :
  RcAt X.A s u v (decide (d=e))/\RcNeAt X.A s u v (!decide (d=e)):=by
 have F:X.A.units<cLine:=by lia
 cases d with
 | bl b=>cases q1
 | non=>cases q1
 | int b=>cases q1
 | str b=>cases q1
 | tup l=>
  rw[Rep]at r1;obtain⟨a,xs,rfl,h1,k1⟩:=r1;cases ru;obtain⟨aa,v1,J,_⟩:=I.tuple h1;have W:aa.toArray.size=l.length:=by rw[XX,<- v1.length,k1.length]
  cases e with
  | bl b=>cases U
  | non=>cases U
  | int b=>cases U
  | str b=>cases U
  | tup m=>
   rw[Rep]at N;obtain⟨b,ys,rfl,h2,k2⟩:=N;cases rv;obtain⟨G,Y,q,_⟩:=I.tuple h2;have e2:G.toArray.size=m.length:=by rw[XX,<- Y.length,k2.length]
   rw[Dx.dep]at hd;rw[Dx.nb]at n1 n2;have he:=lM I (vH I 60) (A:=X.A) (by lia) (by lia) n1 n2 k1 k2 v1 Y;have a1:=RcAt.tuples J q F he;have a2:=RcNeAt.tuples J q F he;rw[W,e2,vK]at a1 a2;have z:decide (Dx.tup l=Dx.tup m)=decide (l=m):=by simp
   rw[z];exact⟨a1,a2⟩
  | lst m=>
   rw[Rep]at N;obtain⟨b,ys,rfl,h2,k2⟩:=N;cases rv;obtain⟨G,Y,q,_⟩:=I.list h2;have z:decide (Dx.tup l=Dx.lst m)=false:=by simp
   rw[z];exact⟨RcAt.tuple_list J q.isList F,RcNeAt.tuple_list J q.isList F⟩
 | lst l=>
  rw[Rep]at r1;obtain⟨a,xs,rfl,h1,k1⟩:=r1;cases ru;obtain⟨aa,v1,J,_⟩:=I.list h1;have W:aa.toArray.size=l.length:=by rw[XX,<- v1.length,k1.length]
  cases e with
  | bl b=>cases U
  | non=>cases U
  | int b=>cases U
  | str b=>cases U
  | tup m=>
   rw[Rep]at N;obtain⟨b,ys,rfl,h2,k2⟩:=N;cases rv;obtain⟨G,Y,q,_⟩:=I.tuple h2;have z:decide (Dx.lst l=Dx.tup m)=false:=by simp
   rw[z];exact⟨RcAt.list_tuple J.isList q F,RcNeAt.list_tuple J.isList q F⟩
  | lst m=>
   rw[Rep]at N;obtain⟨b,ys,rfl,h2,k2⟩:=N;cases rv;obtain⟨G,Y,q,_⟩:=I.list h2;have e2:G.toArray.size=m.length:=by rw[XX,<- Y.length,k2.length]
   rw[Dx.dep]at hd;rw[Dx.nb]at n1 n2;have z:decide (Dx.lst l=Dx.lst m)=decide (l=m):=by simp
   rw[z];by_cases hl:l.length=m.length
   ·have he:=lM I (vH I 60) (A:=X.A) (by lia) (by lia) n1 n2 k1 k2 v1 Y
    have a1:=RcAt.lists J.isList q.isList (by rw[W,e2,hl]) F he;have a2:=RcNeAt.lists J.isList q.isList (by rw[W,e2,hl]) F he;rw[W,xV _ _ hl]at a1 a2;exact⟨a1,a2⟩
   ·have z2:decide (l=m)=false:=decide_eq_false λz=>hl (by rw[z])
    rw[z2];exact⟨RcAt.lists_lengths J.isList q.isList (by rw[W,e2];simpa using hl) F,RcNeAt.lists_lengths J.isList q.isList (by rw[W,e2];simpa using hl) F⟩
end
section
variable {X:Cx}
theorem NS(hu:X.A.units+64<cLine):OpR X (XY .Eq) (T6 X.K false):=by
 intro pins s σ H x y v u Q I W ry h;obtain⟨d,e,G,U,F,q2,N,Y,J,q⟩:=h;exact(M8 I hu G U F q2 N Y J W ry).1 X.prog X.w X.xe _ ⟨.bl _,H,I,rfl,q⟩
theorem P7(hu:X.A.units+64<cLine):OpR X (XY .NotEq) (T6 X.K true):=by
 intro pins s σ H x y v u Q I W ry h;obtain⟨d,e,G,U,F,q2,N,Y,J,q⟩:=h;exact(M8 I hu G U F q2 N Y J W ry).2 X.prog X.w X.xe _ ⟨.bl _,H,I,rfl,q⟩
end
noncomputable def Q8(lo c:Int)(n:Nat):It:=⟨λi _=>i<n,λi H x H'=>H'=H/\x=.int (lo+i*c),λi _=>n<=i⟩
theorem wC{P:XM}{w:World}{K:XF}{tg:Expr}(it:Addr)(lo c:Int)(n:Nat):Turn P w K tg (Q8 lo c n) [it] it (λi h=>zca h it (lo+(i:Nat)*c) ((n:Int)-(i:Nat)) c) where
 mem:=by simp
 obj:=λi h st b q=>by
  have e:b=it:=by simpa using q
  subst e;exact⟨_,st,λv z=>by
   have z':Data.fields _=Data.cell v:=z;cases z'⟩
 keep:=λi h h' st k=>k it (by simp) _ st
 item:=by
  intro X N hw Y hc i pins s σ H E I G st hg;subst N hw Y;obtain⟨f0,f1,f2,J,f4,U⟩:=G it (by simp);have W:=Walks.range (prog:=X.prog) (w:=X.w) (I.ok.hd hc) it lo c n;refine W.item i s _ _ hg st λv h' tk hv F kk=>?_
  obtain⟨t,rfl⟩:=hv;have I1:Inv X pins σ H {s with heap:=h',toks:=tk}:=I.turned (λb o q e=>kk b o (by simpa using q) e) f0 f1 J f4 U;exact⟨_,rfl,rF (s:={s with heap:=h',toks:=tk}) (n := "range_iterator") F rfl rfl (by decide) ⟨.int (lo+i*c),H,I1,⟨t,rfl⟩,⟨rfl,rfl⟩,F,λb q=>(G b q).1⟩⟩
 done:=by
  intro X N hw Y hc i pins s σ H E I G st hg;subst N hw Y;obtain⟨f0,f1,f2,J,f4,U⟩:=G it (by simp);exact wpAny_pyNext_range_end (I.ok.hd hc) st (by have:n<=i:=hg;lia) λh' eb=>⟨rfl,I.turned (t':=s.toks) (λb o q e=>eb b o q e) f0 f1 J f4 U⟩
 self:=λ_ _ _ _ _ st h=>wpAny_pyIter_rangeiter st h
noncomputable def rsz(a b c:Int):Nat:=(zat a b c).toNat
theorem OD(a b c:Int)(q:c≠0):zat a b c=(rsz a b c:Int):=by
 unfold rsz;have:0<=zat a b c:=by
  unfold zat;split
  ·rename_i h
   split
   ·have:=zdd (show 0<=b-a-1 by lia) (show 0<=c by lia)
    lia
   ·lia
  ·split
   ·have:=zdd (show 0<=a-b-1 by lia) (show 0<=-c by lia)
    lia
   ·lia
 lia
def SE(ta:TA):TI:=λσ H R=>ta σ H λvs H1=>∃i j c:Int,vs=[.int i,.int j,.int c]/\(c≠0/\c.natAbs<1000/\zbh i j c=true)/\R (Q8 i c (rsz i j c)) H1
theorem DO(hg:Gl X "range")(hm:X.mg "range" = none)(ha:PA X [a,b,c] ta)(hs:XI [a,b,c] X.env=[(false,eval a X.env),(false,eval b X.env),(false,eval c X.env)]:=by rfl)(N:XI [b,c] X.env=[(false,eval b X.env),(false,eval c X.env)]:=by rfl) :
  PI X tg (.Call (.Name "range" p) [a,b,c] [] pos) (SE ta):=by
 intro pins s σ H R I h;refine Call_ (mO I hg hm My.boot_range (zcb (bX (ha pos pins s σ H _ I h) λus J ⟨vs,H1,I1,r1,W⟩=>?_) (by rw[hs,N]) (by rw[N];rfl)));obtain⟨i,j,F,e,⟨c0,c1,sm⟩,q⟩:=W;subst e;cases r1 with
 | cons r rr=>
  cases rr with
  | cons r' rr=>
   cases rr with
   | cons r'' rr=>
    cases rr;obtain⟨t,rfl⟩:=r;obtain⟨t',rfl⟩:=r';obtain⟨G,rfl⟩:=r'';refine call_range_3 c0 ?_ (YR (PyProof.noPylong_small (by lia)));refine wpAny_pyIter_range (IsRange.new ..) sm ?_;have U:Inv X pins σ H1 {J with heap:=J.heap.push {cls:=.type "range",data:=.fields #[.int i t,.int j t',.int F G]},toks:=J.toks}:=I1.kept λb o e=>XT _ e
    refine⟨(J.heap.push {cls:=.type "range",data:=.fields #[.int i t,.int j t',.int F G]}).objs.size,[(J.heap.push {cls:=.type "range",data:=.fields #[.int i t,.int j t',.int F G]}).objs.size],_,_,H1,rfl,
     U.kept (t':=J.toks) λb o e=>XT _ e,wC _ i F (rsz i j F),?_,λb hb=>?_,q⟩
    ·show zca _ _ (i+((0:Nat):Int)*F) (((rsz i j F:Nat):Int)-((0:Nat):Int)) F
     rw[<- OD i j F c0];have Y:i+((0:Nat):Int)*F=i:=by simp
     have e2:zat i j F-((0:Nat):Int)=zat i j F:=by simp
     rw[Y,e2];exact X9 _ rfl
    ·have e:b=(J.heap.push {cls:=.type "range",data:=.fields #[.int i t,.int j t',.int F G]}).objs.size:=by simpa using hb
     subst e;exact U.fpOk (XU _) (U.hok.fresh (XU _))
theorem DE(U:1<=c)(q:c<=1000)(N:-1000000<=a)(F:a<=1000000)(J:-1000000<=b)(G:b<=1000000):zbh a b c=true:=by
 have h1:a<b->0<=(b-a-1)/c/\(b-a-1)/c<=b-a-1:=λh=>⟨zdd (by lia) (by lia),Int.ediv_le_self _ (by lia)⟩
 unfold zbh zat;simp only[Builtin.Range.rangeFitsLong,YU,zde,decide_eq_true_eq,beq_iff_eq,show c>0 by lia,if_true];split
 ·rename_i h
  have:=h1 h;generalize (b-a-1)/c=z at *
  lia
 ·lia
def TSame(H H':Hp):Prop:=∀b xs,Rd H b (.tup xs)->Rd H' b (.tup xs)
theorem Same.t(e:Same H H'):TSame H H':=λb xs h=>by
 rcases h with h|⟨o,h⟩
 ·exact .inl (e _ _ h)
 ·exact .inr ⟨o,e _ _ h⟩
theorem TSame.trans(a:TSame H H1)(b:TSame H1 H2):TSame H H2:=λc o h=>b c o (a c o h)
theorem TSame.put(h:H l=some (.lst us)):TSame H (upd H l o):=λb xs q=>by
 have ne:b≠l:=λz=>by
  subst z;rcases q with q|⟨ob,q⟩ <;> (rw[h]at q;cases q)
 rcases q with q|⟨ob,q⟩
 ·exact .inl (by rw[aL ne];exact q)
 ·exact .inr ⟨ob,by rw[aL ne];exact q⟩
theorem TSame.sq{K:XF}{H H':Hp}{a:Addr}{xs:List V}(e:TSame H H')(h:SqT K H a xs):SqT K H' a xs:=by
 rcases h with h|h
 ·exact .inl (e _ _ h)
 ·exact .inr h
mutual
def Dx.nl:Dx->Bool
 | .lst _=>false
 | .tup l=>UQ l
 | .non=>true
 | .bl _=>true
 | .int _=>true
 | .str _=>true
def UQ:List Dx->Bool
 | []=>true
 | d::ds=>d.nl && UQ ds
end
section
variable {K:XF}{H H':Hp}
mutual
theorem Rep.tsame(e:TSame H H'):∀(d:Dx) (v:V),d.nl=true->Rep K H d v->Rep K H' d v
 | .non,v,_,h=>by rw[Rep]at h ⊢;exact h
 | .bl b,v,_,h=>by rw[Rep]at h ⊢;exact h
 | .int i,v,_,h=>by rw[Rep]at h ⊢;exact h
 | .str x,v,_,h=>by rw[Rep]at h ⊢;exact h
 | .tup l,v,n,h=>by
  rw[Rep]at h ⊢;rw[Dx.nl]at n;obtain⟨a,xs,q,h1,h2⟩:=h;exact⟨a,xs,q,e.sq h1,RepL.tsame e l xs n h2⟩
 | .lst l,v,n,h=>by rw[Dx.nl]at n;cases n
theorem RepL.tsame(e:TSame H H'):∀(ds:List Dx) (vs:List V),UQ ds=true->RepL K H ds vs->RepL K H' ds vs
 | [],vs,_,h=>by rw[RepL]at h ⊢;exact h
 | d::ds,vs,n,h=>by
  rw[RepL]at h ⊢;rw[UQ,YU]at n;obtain⟨x,xs,q,h1,h2⟩:=h;exact⟨x,xs,q,Rep.tsame e d x n.1 h1,RepL.tsame e ds xs n.2 h2⟩
end
end
theorem Same.put(e:Same H H')(h:H l=none):Same H (upd H' l o):=λb u q=>by
 rw[aL (bM q h)];exact e b u q
def bA(X:Cx)(N:List Str)(scope:Scope)(cl:List (Str×Addr))(C:Addr)(s:XE)(H:Hp)(fp:List Addr):Cx where
 prog:=X.prog
 w:=X.w
 K:=X.K
 mg:=X.mg
 base:=X.base
 A:=X.A
 N:=N
 s₀:=s
 H₀:=H
 env:=compEnvC scope cl C X.env
 outer:=X.stack
 stack:=X.stack
 ex:=fp
 fn:=λ_=>false
 calm:=X.calm
 pn:=[]
 xe:=λ_ _=>False
def EI(X:Cx)(q:List Expr)(t:TT):Prop:=
 ∀(pins:List (Addr×Obj)) (s:XE) (σ:L2.St) (H:Hp) (Q:Bool->Hp->Prop),Inv X pins σ H s->t σ H Q->
  wpAny (model X.prog X.w) X.A (forIn q true λc r=>if r=true then do let ok <- isTrue c X.env (eval c X.env);pure (zbi ok)else pure (zbi r)) (TP X pins σ Q) X.xe s
def V1:TT:=λ_ H Q=>Q true H
theorem MI:EI X [] V1:=λpins s σ H Q I h=>wpAny_tests_nil ⟨H,I,h⟩
theorem L8(h:PT X c t):EI X [c] t:=λpins s σ H Q I hw=>wpAny_tests_one (h pins s σ H Q I hw)
structure Clo(X:Cx)(N:List Str)(scope:Scope)(cl:List (Str×Addr)):Prop where
 clos:closureFor scope X.env=pure cl
 kind:scope.kind=.function
 nocell:∀y∈scope.names,y.2≠.cell
 names:∀y∈scope.names,y.2=.local->scope.names.lookup y.1=some .local
 sub:∀x c,cl.lookup x=some c->X.env.cells.lookup x=some c
 has:∀x,((Z2 scope X.env).names.lookup x=some .cell\/(Z2 scope X.env).names.lookup x=some .free)->∃c,cl.lookup x=some c
def Start(X:Cx)(N:List Str)(scope:Scope)(σ q:L2.St):Prop:=
 q.length=N.length/\∀(j:Nat) (x:Str) (v:V),N[j]?=some x->q[j]?=some (some v)->EJ (Z2 scope X.env) x->¬ (Z2 scope X.env).names.lookup x=some .local/\∃i:Nat,X.N[i]?=some x/\σ[i]?=some (some v)/\(X.env.kindOf x=some .cell\/X.env.kindOf x=some .free)
def IS(wi:TI)(g:TG)(tt:TT)(te:TE)(S:L2.St->L2.St->Prop):TE:=λσ H Q=>∃G,S σ G/\wi σ H λJ H1=>∀D,H1 D=none->∃W:Nat->Nat->L2.St->List V->Hp->Prop,(∃m,W 0 m G [] (upd H1 D (.lst []))) /\
 ∀i m U F H2,W i m U F H2->(J.stop i H2/\Q (.ref D) H2)\/(J.go i H2/\F.length<XQ/\∀x H3,J.yld i H2 x H3->g x U H3 λq H4=>tt q H4 λok Y=>
  if ok=true then te q Y λv H6=>H6 D=some (.lst F)/\∃N,N<m/\W (i+1) N q (F++[v]) (upd H6 D (.lst (F++[v])))else Y D=some (.lst F)/\∃N,N<m/\W (i+1) N q F Y)
section
variable {X:Cx}
theorem LV(F:Inv X pins σ H3 s3)(cc:Clo X N scope cl)(J:∀b∈fp,jU X pins H3 b)(U:∀b∈fp,∃o,s3.heap.get? b=some o) :
  (bA X N scope cl s3.heap.objs.size s3 H3 fp).Ok where
 mod:=F.ok.mod
 kind:=cc.kind
 glob:=F.ok.glob
 blt:=F.ok.blt
 above:=XU _
 inj:=λx y c h1 h2=>F.ok.inj x y c (cc.sub x c h1) (cc.sub y c h2)
 has:=λx h=>cc.has x h
 cab:=λx c h _=>nomatch h
 hd:=F.ok.hd
 frames:=F.ok.frames
 stk:=.inl rfl
 exf:=λb G=>by
  obtain⟨o,e⟩:=U b G;exact⟨YA (XO e),λx c h=>(J b G).2.2.2.2.1 x c (cc.sub x c h)⟩
 bs:=F.bs
 bsz:=Y0 F.ok.bsz F.sz
 noex:=λb o e G=>by
  rcases(J b G).2.2.2.1 with z|z
  ·exact F.ok.noex b o e z
  ·exact absurd (YZ (XO e) F.ok.bsz) (Nat.not_lt.mpr z)
 exfs:=λb G z=>by
  rcases List.mem_cons.mp (F.stkSub b z)with q|q
  ·exact(J b G).2.1 q
  ·exact(J b G).2.2.1 q
 funs:=F.stack
 frf:=F.stkFree
theorem GT(G:Inv X pins σ H3 s3)(cc:Clo X N scope cl)(ff:∀b∈fp,jU X pins H3 b)(fe:∀b∈fp,∃o,s3.heap.get? b=some o)
  (st:Start X N scope σ σ') (ho:s4.os=s3.os) (hg:s4.gens=s3.gens) (W:∀b o,s3.heap.get? b=some o->s4.heap.get? b=some o) (hn:s4.heap.Ns s3.heap.objs.size m) :
  Inv (bA X N scope cl s3.heap.objs.size s3 H3 fp) [] σ' H3 s4 where
 ok:=LV G cc ff fe
 os:=ho
 bare:=by rw[hg];exact G.bare
 base:=Un.kept W
 loc:=by
  refine⟨m,hn,λj x v h1 h2 F=>?_⟩;obtain⟨nl,i,Y,e2,q⟩:=st.2 j x v h1 h2 F;obtain⟨m0,ap,ab⟩:=G.loc;have aa:EJ X.env.scope x:=by
   rcases q with q|q
   ·exact .inr (.inl q)
   ·exact .inr (.inr q)
  obtain⟨u,ru,l⟩:=ab i x v Y e2 aa;refine⟨u,ru,?_⟩;rcases l with⟨lk,_⟩|⟨_,c,hc,J⟩
  ·rcases q with q|q <;> (rw[lk]at q;cases q)
  ·have kk:(Z2 scope X.env).names.lookup x=some .cell\/(Z2 scope X.env).names.lookup x=some .free:=by
    rcases F with F|F|F
    ·exact absurd F nl
    ·exact .inl F
    ·exact .inr F
   obtain⟨c',U⟩:=cc.has x kk;have ec:=cc.sub x c' U;rw[hc]at ec;cases ec;obtain⟨o,ad,ac⟩:=J;exact .inr ⟨kk,c,U,o,W c o ad,ac⟩
 cell:=λx c e=>by
  obtain⟨v,o,Y,d1⟩:=G.cell x c (cc.sub x c e);exact⟨v,o,W c o Y,d1⟩
 free:=G.hok.fresh (XU _)
 freeC:=λx c e=>G.freeC x c (cc.sub x c e)
 pin:=λp hp=>nomatch hp
 hok:=G.hok.kept W
 len:=st.1
theorem comp_back(Y:Inv X pins σ H3 s3)(ff:∀b∈fp,jU X pins H3 b)
  (G:Inv (bA X N scope cl s3.heap.objs.size s3 H3 fp) [] σ5 H5 s5) (hs:YN s3.heap.objs.size s5.heap h'):Inv X pins σ H5 {s5 with heap:=h'}:=by
 have ne:∀b o,s3.heap.get? b=some o->b≠s3.heap.objs.size:=λb o e=>YA (XO e)
 have u:=G.base;refine Y.call' (s':={s5 with heap:=h'}) (ch:=fp) G.os ⟨λb o e n F J=>?_,λb o e n F J=>?_,u.free,λb o e J=>?_,u.tups,u.frzs,u.tbls⟩ ?_ G.bare λb F=>?_
 ·exact(hs.2 b (ne b o e)).trans (u.keep b o e n F J)
 ·obtain⟨sl,q⟩:=u.slot b o e n F J
  exact⟨sl,(hs.2 b (ne b o e)).trans q⟩
 ·obtain⟨o',q⟩:=u.there b o e J
  exact⟨o',(hs.2 b (ne b o e)).trans q⟩
 ·intro b ob e
  have U:H5 s3.heap.objs.size=none:=G.free;refine(G.hok b ob e).stay (λc w' hc q=>(hs.2 c ?_).trans q) (λ_ q=>q) λ_ _ q=>q
  rintro rfl;rcases hc with z|z
  ·subst z;rw[U]at e;cases e
  ·rw[U]at z;cases z
 ·obtain⟨_,f1,_,f3,f4,W⟩:=ff b F
  exact⟨f3,f1,f4,W⟩
theorem C4(I:Nat->XE->Prop)
  (turn:∀n s, I n s -> wpAny (model prog w) A (Y2 it) (λr G => match r with
   | none=>R (.ok .next) G
   | some v=>wpAny (model prog w) A (zb9 target it v) (λ_ q=>wpAny (model prog w) A (ZO target env v) (λ_ J=>
     wpAny (model prog w) A (forIn ifs true λc r=>if r=true then do let ok <- isTrue c env (eval c env);pure (zbi ok)else pure (zbi r)) (λok F=>
      if ok=true then wpAny (model prog w) A (eval elt env) (λx U=>
       wpAny (model prog w) A (call (.builtin "list.append") [acc,x]) (λ_ W=>∃m,m<n/\I m W) (λ_ _=>False) U) (λ_ _=>False) F
      else ∃m,m<n/\I m F) (λ_ _=>False) J) (λ_ _=>False) q) (λ_ _=>False) G) (λ_ _=>False) s)
  (n:Nat) (h:I n s) :
  ZQ (model prog w) A (.compLoop (.ListComp elt [⟨target,iter,ifs,0⟩] scope pos) 0 it acc env) R s:=by
 refine codeAny_loop rfl I (λn s hI=>?_) n h;show wpAny _ A ((compTurn (.ListComp elt [⟨target,iter,ifs,0⟩] scope pos) 0 it acc env).onRaise (λx=>do zaX x env;theTreesLotGoes x)) _ _ s;refine wpAny_noted ?_;rw[compTurn_list];have ff:∀(e:Value) (s':XE),False->notedBy (model prog w) A env (λe s'=>R (.error e) s') e s':=λ_ _ h=>h.elim
 refine XD (zaG (XD (X3 (turn n s hI) (λr G Y=>?_) ff)));cases r with
 | none=>exact XJ Y
 | some v=>
  refine XD (X3 Y (λ_ q aa=>?_) ff);refine XD (X3 aa (λ_ J ac=>XD (X3 ac (λok F N=>?_) ff)) ff);cases ok with
  | false=>exact XJ ⟨rfl,N⟩
  | true=>
   exact XD (XD (X3 N (λx U ae=>XD (X3 ae (λ_ W ad=>XJ (XJ ⟨rfl,ad⟩)) ff)) ff))
theorem t4{ar tg am:Expr}{ap:List Expr}{scope:Scope}{pos:Pos}{N:List Str}{cl:List (Str×Addr)}{wi:TI}{g:TG}{tt:TT}{te:TE}{RR:Value->Addr->zag->XE->Prop}{pins:List (Addr×Obj)}{σ aj:L2.St}{Q:VK}{J:It}{H2:Hp}{F:XE}{it:Addr}{fp:List Addr}{tn:Nat->Heap->Prop}{E:Value->XE->Prop}
  (hc:X.calm=true) (cc:Clo X N scope cl) (hg:∀C s H fp,PG (bA X N scope cl C s H fp) tg g) (ht:∀C s H fp,EI (bA X N scope cl C s H fp) ap tt) (he:∀C s H fp,PE (bA X N scope cl C s H fp) ar te)
  (I2:Inv X pins σ H2 F) (T:Turn X.prog X.w X.K tg J fp it tn) (aq:tn 0 F.heap) (f2:∀b∈fp,jU X pins H2 b) (sS:Start X N scope σ aj)
  (q2:∀D, H2 D = none -> ∃W:Nat -> Nat -> L2.St -> List V -> Hp -> Prop, (∃m, W 0 m aj [] (upd H2 D (.lst []))) /\
   ∀i m Y U H2,W i m Y U H2->(J.stop i H2/\Q (.ref D) H2)\/(J.go i H2/\U.length<XQ/\∀x G,J.yld i H2 x G->g x Y G λak H4=>tt ak H4 λok H5=>
    if ok=true then te ak H5 λv H6=>H6 D=some (.lst U)/\∃m',m'<m/\W (i+1) m' ak (U++[v]) (upd H6 D (.lst (U++[v])))else H5 D=some (.lst U)/\∃m',m'<m/\W (i+1) m' ak U H5))
  (bm:∀(s3 s5:XE) (G H5:Hp) (ab:L2.St) (D:Addr),Inv X pins σ G s3->(∀b∈fp,jU X pins G b)->Inv (bA X N scope cl s3.heap.objs.size s3 G fp) [] ab H5 s5->Q (.ref D) H5->RR (.ref D) s3.heap.objs.size (.ok .next) s5) :
  wpAny (model X.prog X.w) X.A (newList []) (λaz a2=>wpAny (model X.prog X.w) X.A (newFunctionEnv scope X.env.globals cl [] X.env.qual none .none (some X.env)) (λal bc=>
   ZQ (model X.prog X.w) X.A (.compStart (.ListComp ar [⟨tg,am,ap,0⟩] scope pos) 0 (.ref it) az {al with scope:=Z2 scope X.env}) (RR az al.locals) bc) E a2) E F:=by
 refine ZD (wpAny_newFunctionEnv cc.nocell (by intro y hy;simp at hy) (λh1 ag ah=>?_) cc.kind);dsimp only at ag ah ⊢;have I3:Inv X pins σ (upd H2 F.heap.objs.size (.lst [])) {F with heap:=F.heap.push {cls:=.type "list",dict:=none,data:=.seq ([]:List Value).toArray} }:=I2.lnew (t':=F.toks) .nil (YY _);have hD:H2 F.heap.objs.size=none:=I2.fresh;have bt:∀b∈fp,b≠F.heap.objs.size:=λb q=>by
  obtain⟨o,e,_⟩:=T.obj 0 _ aq b q;exact YA (XO e)
 have fe:∀b∈fp,∃o,(F.heap.push {cls:=.type "list",dict:=none,data:=.seq ([]:List Value).toArray}).get? b=some o:=λb q=>by
  obtain⟨o,e,_⟩:=T.obj 0 _ aq b q;exact⟨o,XT _ e⟩
 have f3:∀b∈fp,jU X pins (upd H2 F.heap.objs.size (.lst [])) b:=λb q=>⟨by rw[aL (bt b q)];exact(f2 b q).1,(f2 b q).2⟩
 obtain⟨W,⟨m0,w0⟩,turn⟩:=q2 F.heap.objs.size hD;have bh:(upd H2 F.heap.objs.size (.lst [])) F.heap.objs.size=some (.lst []):=aN;generalize hs3:({F with heap:=F.heap.push {cls:=.type "list",dict:=none,data:=.seq ([]:List Value).toArray} }:XE)=s3 at I3;have e3:F.heap.push {cls:=.type "list",dict:=none,data:=.seq ([]:List Value).toArray}=s3.heap:=by rw[<- hs3]
 rw[e3]at ag ah fe ⊢;generalize F.heap.objs.size=D at *;generalize upd H2 D (.lst [])=G at *;have aw:∀b o,s3.heap.get? b=some o->h1.get? b=some o:=λb o e=>(ah.2 b (YA (XO e))).trans (XT _ e)
 have be:tn 0 s3.heap:=by
  refine T.keep 0 _ _ aq λb q o e=>?_
  rw[<- e3];exact XT _ e
 have an:∀s4:XE,s4={F with heap:=h1,toks:=F.toks+([]:List (Str×Value)).length}->
   ZQ (model X.prog X.w) X.A (.compLoop (.ListComp ar [⟨tg,am,ap,0⟩] scope pos) 0 (.ref it) (.ref D) (compEnvC scope cl s3.heap.objs.size X.env)) (RR (.ref D) s3.heap.objs.size) s4:=by
  rintro s4 rfl;have I4:Inv (bA X N scope cl s3.heap.objs.size s3 G fp) [] aj G {F with heap:=h1,toks:=F.toks+([]:List (Str×Value)).length}:=
   GT (m:=λx=>([]:List (Str×Value)).reverse.lookup x) I3 cc f3 fe sS (by rw[<- hs3]) (by rw[<- hs3]) aw ag
  have as:∀ {H':Hp},(∀b∈fp,H' b=none)->∀b∈fp,jU (bA X N scope cl s3.heap.objs.size s3 G fp) [] H' b:=λhn b q=>by
   have ok:=I4.ok;exact⟨hn b q,(ok.exf b q).1,ok.exfs b q,.inl q,(ok.exf b q).2,λp hp=>nomatch hp⟩
  refine C4 (λn s'=>∃i Y U H',Inv (bA X N scope cl s3.heap.objs.size s3 G fp) [] Y H' s'/\tn i s'.heap/\(∀b∈fp,H' b=none)/\H' D=some (.lst U)/\W i n Y U H') ?_ m0 ⟨0,aj,[],G,I4,T.keep 0 _ _ be λb q o e=>aw b o e,λb q=>(f3 b q).1,bh,w0⟩;rintro n s5 ⟨i,ab,U,H5,I5,a1,ba,cr,w5⟩;rcases turn i n ab U H5 w5 with⟨ay,qn⟩|⟨go,bd,step⟩
  ·refine bX (T.done (bA X N scope cl s3.heap.objs.size s3 G fp) rfl rfl rfl hc i [] s5 ab H5 _ I5 (as ba) a1 ay) λr s6 ⟨hr,I6⟩=>?_
   subst hr;exact bm s3 s6 G H5 ab D I3 f3 I6 qn
  ·refine bX (T.item (bA X N scope cl s3.heap.objs.size s3 G fp) rfl rfl rfl hc i [] s5 ab H5 _ I5 (as ba) a1 go) λr s6 ⟨u,hr,h6⟩=>?_
   subst hr;refine bX h6 λ_ s7 ⟨x,H7,I7,r7,y7,ao,bn⟩=>?_
   have bu:=I7.pinned (as bn) (T.obj _ _ ao);refine bX (hg _ _ _ _ _ s7 ab H7 x u _ bu r7 (step x H7 y7)) λ_ s8 ⟨aa,H8,I8,q8⟩=>?_
   refine bX (ht _ _ _ _ _ s8 aa H8 _ I8 q8) λok s9 ⟨H9,I9,q9⟩=>?_
   have fin:∀ {ad:XE} {ac:Hp} {vs:List V},Inv (bA X N scope cl s3.heap.objs.size s3 G fp) ([]++qX fp s7.heap) aa ac ad->ac D=some (.lst vs)->(∃m',m'<n/\W (i+1) m' aa vs ac)->
     ∃m,m<n/\∃i Y U H',Inv (bA X N scope cl s3.heap.objs.size s3 G fp) [] Y H' ad/\tn i ad.heap/\(∀b∈fp,H' b=none)/\H' D=some (.lst U)/\W i m Y U H':=λ{ad ac vs} af hd ⟨m',hm,bg⟩=>by
    refine⟨m',hm,i+1,aa,vs,ac,af.unpinned,T.keep _ _ _ ao λb q o e=>(af.pin (b,o) (ZY _ (ZY _ (hV q e)))).1,λb q=>?_,hd,bg⟩;obtain⟨o,e,d⟩:=T.obj _ _ ao b q;exact(af.pin (b,o) (ZY _ (ZY _ (hV q e)))).2.1
   cases ok with
   | false=>
    rw[if_neg XZ]at q9 ⊢;exact fin I9 q9.1 q9.2
   | true=>
    rw[if_pos rfl]at q9 ⊢;refine bX (he _ _ _ _ _ s9 aa H9 _ I9 q9) λy ad ⟨v,ac,af,bp,bb,bl⟩=>?_
    refine bX (mI (X:=bA X N scope cl s3.heap.objs.size s3 G fp) _ ad aa ac (.ref D) [v] (.ref D) [y] (λ_ au=>au D=some (.lst (U++[v]))/\∃m',m'<n/\W (i+1) m' aa (U++[v]) au) af rfl (.cons bp .nil) ⟨D,U,v,rfl,rfl,bb,bd,aN,bl⟩) λ_ da ⟨z,au,bo,_,a4,bi⟩=>?_
    exact fin bo a4 bi
 exact codeAny_compStart_list (an _ rfl) (T.self X.A 0 _ _ _ (T.keep 0 _ _ be λb q o e=>aw b o e) (an _ rfl))
theorem LK{U tg F:Expr}{G:List Expr}{scope:Scope}{pos:Pos}{N:List Str}{cl:List (Str×Addr)}{wi:TI}{g:TG}{tt:TT}{te:TE}
  (hc:X.calm=true) (cc:Clo X N scope cl) (hi:PI X tg F wi) (hg:∀C s H fp,PG (bA X N scope cl C s H fp) tg g) (ht:∀C s H fp,EI (bA X N scope cl C s H fp) G tt) (he:∀C s H fp,PE (bA X N scope cl C s H fp) U te)
  (hs:∀x,zaf F X.env x=pure x:=by intro _;rfl) :
  PE X (.ListComp U [⟨tg,F,G,0⟩] scope pos) (IS wi g tt te (Start X N scope)):=by
 intro pins s σ H Q I h;obtain⟨ap,sS,hw⟩:=h;rw[eval_ListComp];refine wpAny_comprehension_free (use:=none) rfl hs cc.clos cc.kind cc.names (bX (hi pins s σ H _ I hw) λv s1 h1=>bX h1 λam s2 h2=>?_);obtain⟨it,fp,tn,J,H2,e,I2,T,Y,f2,q2⟩:=h2;subst e;refine t4 (wi:=wi) (Q:=Q) (RR:=λW C=>compPost (model X.prog X.w) X.A X.xe none (EP X pins σ Q) W C) hc cc hg ht he I2 T Y f2 sS q2 ?_;intro s3 s5 H3 H5 aj D I3 f3 I5 q;obtain⟨m,hn,_⟩:=id I5.loc;exact⟨m,hn,λh' aa=>⟨.ref D,H5,comp_back I3 f3 I5 aa,rfl,q⟩⟩
end
end My
namespace My
open PySem PySem.W PyProof.Rows
structure Ord(n:Nat)(lt:Nat->Nat->Bool):Prop where
 irr:∀i,i<n->lt i i=false
 tr:∀i j k,i<n->j<n->k<n->lt i j=true->lt j k=true->lt i k=true
 tot:∀i j,i<n->j<n->i≠j->lt i j=true\/lt j i=true
noncomputable def g4(n:Nat)(lt:Nat->Nat->Bool):Nat->Nat->(Bool->XE->Prop)->XE->Prop:=λi j C s=>i<n/\j<n/\i≠j/\C (lt i j) s
def PermR(n:Nat)(p:Array Nat):Prop:=p.Perm (zbJ (Y9 n))
theorem PermR.size(h:PermR n p):p.size=n:=by
 have:=Array.Perm.size_eq h;simpa using this
theorem PermR.lt(h:PermR n p)(hi:i<n):p.getD i 0<n:=by
 have hs:=h.size;have q:i<p.size:=by lia
 have e:p.getD i 0=p[i]:=by simp[zbj,q]
 rw[e];have F:p[i]∈p.toList:=by simp
 have:=(Array.perm_iff_toList_perm.mp h).mem_iff.mp F;simpa using this
theorem PermR.nodup(h:PermR n p):p.toList.Nodup:=by
 have:=Array.perm_iff_toList_perm.mp h;exact this.symm.nodup (by simpa using List.nodup_range)
theorem PermR.ne(h:PermR n p)(hi:i<n)(U:j<n)(q:i≠j):p.getD i 0≠p.getD j 0:=by
 have hs:=h.size;have F:i<p.toList.length:=by rw[ZJ];lia
 have J:j<p.toList.length:=by rw[ZJ];lia
 have G:p.getD i 0=p.toList[i]:=by simp[zbj,show i<p.size by lia]
 have N:p.getD j 0=p.toList[j]:=by simp[zbj,show j<p.size by lia]
 rw[G,N];intro z;exact q ((zbx h.nodup).mp z)
def fL(lt:Nat->Nat->Bool)(p:Array Nat)(k:Nat):Prop:=∀i j,i<j->j<k->lt (p.getD i 0) (p.getD j 0)=true
section
variable {n:Nat}{lt:Nat->Nat->Bool}(O:Ord n lt)
include O
theorem kP(q:PermR n p)(G:r<=n)(h:∀i,i+1<r->lt (p.getD i 0) (p.getD (i+1) 0)=true):fL lt p r:=by
 intro i j F J;obtain⟨d,rfl⟩:∃d,j=i+1+d:=⟨j-i-1,by lia⟩;clear F;induction d with
 | zero=>exact h i (by lia)
 | succ d ih=>exact O.tr _ _ _ (q.lt (by lia)) (q.lt (by lia)) (q.lt (by lia)) (ih (by lia)) (h (i+1+d) (by lia))
theorem Q9(q:PermR n p)(hi:i<n)(G:j<n)(F:i≠j)(h:lt (p.getD i 0) (p.getD j 0)=false):lt (p.getD j 0) (p.getD i 0)=true:=by
 rcases O.tot _ _ (q.lt hi) (q.lt G) (q.ne hi G F)with z|z
 ·rw[h]at z;cases z
 ·exact z
theorem zX(q:PermR n p):∀(f m:Nat),1<=m->m+f<=n->(∀i,i+1<m->lt (p.getD i 0) (p.getD (i+1) 0)=true)->
  (∀r,m<=r->r<=m+f->(∀i,i+1<r->lt (p.getD i 0) (p.getD (i+1) 0)=true)->(r<m+f->lt (p.getD r 0) (p.getD (r-1) 0)=true)->G r s)->(kas_asc p f m).kasWp (g4 n lt) G s
 | 0,m,h1,h2,ha,hG=>hG m (XU _) (XU _) ha λz=>absurd z (by lia)
 | f+1,m,h1,h2,ha,hG=>by
  show g4 n lt _ _ _ s;refine⟨q.lt (by lia),q.lt (by lia),q.ne (by lia) (by lia) (by lia),?_⟩;cases hc:lt (p.getD m 0) (p.getD (m-1) 0)with
  | true=>
   show(KasT.ret m).kasWp (g4 n lt) G s;exact hG m (XU _) (by lia) ha λ_=>hc
  | false=>
   show(kas_asc p f (m+1)).kasWp (g4 n lt) G s;refine zX q f (m+1) (by lia) (by lia) (λi hi=>?_) (λr U W N J=>hG r (by lia) (by lia) N λz=>J (by lia));by_cases e:i+1<m
   ·exact ha i e
   ·have:i=m-1:=by lia
    subst this;have F:m-1+1=m:=by lia
    rw[F];exact Q9 O q (by lia) (by lia) (by lia) hc
theorem BU(q:PermR n p):∀(f m:Nat),1<=m->m+f<=n->(∀i,i+1<m->lt (p.getD (i+1) 0) (p.getD i 0)=true)->
  (∀r,m<=r->r<=m+f->(∀i,i+1<r->lt (p.getD (i+1) 0) (p.getD i 0)=true)->G (p,r,0) s)->(kas_desc f p m 0).kasWp (g4 n lt) G s
 | 0,m,h1,h2,ha,hG=>hG m (XU _) (XU _) ha
 | f+1,m,h1,h2,ha,hG=>by
  show g4 n lt _ _ _ s;refine⟨q.lt (by lia),q.lt (by lia),q.ne (by lia) (by lia) (by lia),?_⟩;cases hc:lt (p.getD m 0) (p.getD (m-1) 0)with
  | true=>
   show(kas_desc f p (m+1) 0).kasWp (g4 n lt) G s;refine BU q f (m+1) (by lia) (by lia) (λi hi=>?_) (λr N U J=>hG r (by lia) (by lia) J);by_cases e:i+1<m
   ·exact ha i e
   ·have:i=m-1:=by lia
    subst this;have F:m-1+1=m:=by lia
    rw[F];exact hc
  | false=>
   show g4 n lt _ _ _ s;refine⟨q.lt (by lia),q.lt (by lia),q.ne (by lia) (by lia) (by lia),?_⟩;rw[Q9 O q (by lia) (by lia) (by lia) hc];exact hG m (XU _) (by lia) ha
theorem IC(F:PermR n p)(G:r<=n)(k:Nat):(kas_rev p 0 r).getD k 0=if k<r then p.getD (r-1-k) 0 else p.getD k 0:=by
 have hs:=F.size;have e:=getElem?_mirror_all (xs:=p) (i:=0) (j:=r) (by lia) k;have g:∀(q:Array Nat) (k:Nat),q.getD k 0=(q[k]?).getD 0:=λq k=>by
  by_cases h:k<q.size <;> simp[zbj,h]
 unfold kas_rev;rw[g,e];by_cases h:k<r
 ·rw[if_pos ⟨YY _,h⟩,if_pos h,g]
  congr 2
  lia
 ·rw[if_neg (λz=>h z.2),if_neg h,g]
omit O in
theorem FU(q:PermR n p)(r:Nat):PermR n (kas_rev p 0 r):=(mirror_perm p 0 r _).trans q
theorem EQ(q:PermR n p)(hn:1<=n)(W:∀m Y,1<=m->m<=n->PermR n Y->fL lt Y m->G (m,Y) s):(kas_count n p).kasWp (g4 n lt) G s:=by
 unfold kas_count;rw[KasT.kasWp_bind];refine zX O q (n-1) 1 (XU _) (by lia) (λi hi=>absurd hi (by lia)) λr h1 h2 h3 h4=>?_
 by_cases e:r=n
 ·have:(r == n)=true:=by simp[e]
  rw[if_pos this];exact W r p h1 (by lia) q (kP O q (by lia) h3)
 ·have:¬ (r == n)=true:=by simp[e]
  rw[if_neg this];have hs:=kP O q (r:=r) (by lia) h3;by_cases h5:r>1
  ·rw[if_pos h5]
   show g4 n lt _ _ _ s;refine⟨q.lt (by lia),q.lt (by lia),q.ne (by lia) (by lia) (by lia),?_⟩;rw[hs 0 (r-1) (by lia) (by lia)];exact W r p h1 (by lia) q hs
  ·rw[if_neg h5]
   have r1:r=1:=by lia
   subst r1;unfold kas_descPart;rw[KasT.kasWp_bind];have U:=h4 (by lia);refine BU O q (n-(1+1)) (1+1) (by lia) (by lia) (λi hi=>?_) λF h6 h7 h8=>?_
   ·have:i=0:=by lia
    subst this;exact U
   ·show(kas_tail3 F n p).kasWp (g4 n lt) G s
    unfold kas_tail3;rw[KasT.kasWp_bind];have N:F<=n:=by lia
    have J:PermR n (kas_rev p 0 F):=FU q F;refine zX O J (n-F) F (by lia) (by lia) (λi hi=>?_) λm h9 ae aa _=>?_
    ·rw[IC O q N,IC O q N,if_pos (by lia),if_pos hi]
     have:=h8 (F-1-(i+1)) (by lia);have e2:F-1-(i+1)+1=F-1-i:=by lia
     rw[e2]at this;exact this
    ·exact W m _ (by lia) (by lia) J (kP O J (by lia) aa)
theorem qC(q:PermR n p)(U:k<n)(hs:fL lt p k):∀(f l r:Nat),l<=r->r<=k->r-l<=f->(∀i,i<l->lt (p.getD i 0) (p.getD k 0)=true)->(∀i,r<=i->i<k->lt (p.getD k 0) (p.getD i 0)=true)->
  (∀l,l<=k->(∀i,i<l->lt (p.getD i 0) (p.getD k 0)=true)->(∀i,l<=i->i<k->lt (p.getD k 0) (p.getD i 0)=true)->G l s)->(kas_place p k f l r).kasWp (g4 n lt) G s
 | 0,l,r,h1,h2,h3,h4,h5,hG=>by
  have:l=r:=by lia
  subst this;exact hG l h2 h4 h5
 | f+1,l,r,h1,h2,h3,h4,h5,hG=>by
  unfold kas_place;by_cases e:l ≥ r
  ·rw[if_pos e]
   have:l=r:=by lia
   subst this;exact hG l h2 h4 h5
  ·rw[if_neg e]
   show g4 n lt _ _ _ s;refine⟨q.lt (by lia),q.lt (by lia),q.ne (by lia) (by lia) (by lia),?_⟩;have Y:(l+r)/2<k:=by lia
   have J:l<=(l+r)/2:=by lia
   have W:(l+r)/2<r:=by lia
   generalize (l+r)/2=mid at *;cases hc:lt (p.getD k 0) (p.getD mid 0)with
   | true=>
    show(kas_place p k f l mid).kasWp (g4 n lt) G s;refine qC q U hs f l mid J (by lia) (by lia) h4 (λi hi N=>?_) hG;by_cases z:i=mid
    ·rw[z];exact hc
    ·exact O.tr _ _ _ (q.lt (by lia)) (q.lt (by lia)) (q.lt (by lia)) hc (hs mid i (by lia) N)
   | false=>
    show(kas_place p k f (mid+1) r).kasWp (g4 n lt) G s;have F:=Q9 O q (by lia) (by lia) (by lia) hc;refine qC q U hs f (mid+1) r (by lia) h2 (by lia) (λi hi=>?_) h5 hG;by_cases z:i=mid
    ·rw[z];exact F
    ·exact O.tr _ _ _ (q.lt (by lia)) (q.lt (by lia)) (q.lt (by lia)) (hs i mid (by lia) Y) F
theorem HM(G:PermR n p)(J:k<n)(N:l<=k)(j:Nat):(bubble p k (k-l)).getD j 0=if j=l then p.getD k 0 else if l<j/\j<=k then p.getD (j-1) 0 else p.getD j 0:=by
 have hs:=G.size;have e:=getElem?_bubble (xs:=p) (src:=k) (by lia) (k-l) (by lia) j;have g:∀(q:Array Nat) (k:Nat),q.getD k 0=(q[k]?).getD 0:=λq k=>by
  by_cases h:k<q.size <;> simp[zbj,h]
 have F:k-(k-l)=l:=by lia
 rw[F]at e;rw[g,e];by_cases h:j=l
 ·rw[if_pos h,if_pos h,g]
 ·rw[if_neg h,if_neg h]
  by_cases h2:l<j/\j<=k
  ·rw[if_pos h2,if_pos h2,g]
  ·rw[if_neg h2,if_neg h2,g]
theorem HZ(W:∀p,PermR n p->fL lt p n->G p s):∀(f:Nat) (p:Array Nat) (k:Nat),k+f=n->PermR n p->fL lt p k->(kas_bin f p k).kasWp (g4 n lt) G s
 | 0,p,k,h1,hp,hs=>by
  have:k=n:=by lia
  subst this;exact W p hp hs
 | f+1,p,k,h1,hp,hs=>by
  unfold kas_bin;rw[KasT.kasWp_bind];have F:k<n:=by lia
  refine qC O hp F hs k 0 k (YY _) (XU _) (by lia) (λi hi=>absurd hi (by lia)) (λi h2 Y=>absurd Y (by lia)) λl J h4 h5=>?_
  refine HZ W f _ (k+1) (by lia) ((bubble_perm p k _).trans hp) λi j q hj=>?_
  rw[HM O hp F J,HM O hp F J];by_cases N:i=l
  ·rw[if_pos N,if_neg (by lia),if_pos (by lia)]
   exact h5 (j-1) (by lia) (by lia)
  ·rw[if_neg N]
   by_cases b1:j=l
   ·rw[if_pos b1,if_neg (by lia)]
    exact h4 i (by lia)
   ·rw[if_neg b1]
    by_cases U:l<i/\i<=k
    ·rw[if_pos U,if_pos (by lia)]
     exact hs (i-1) (j-1) (by lia) (by lia)
    ·rw[if_neg U]
     by_cases b2:l<j/\j<=k
     ·rw[if_pos b2]
      by_cases c:i=j-1
      ·lia
      ·exact hs i (j-1) (by lia) (by lia)
     ·rw[if_neg b2]
      exact hs i j q (by lia)
theorem KM(N:1<=n)(J:∀p,PermR n p->fL lt p n->G p s):(kas_sort n).kasWp (g4 n lt) G s:=by
 unfold kas_sort;rw[KasT.kasWp_bind];refine EQ O (Array.Perm.refl _) N λm q h1 h2 F hs=>?_
 show(if m<n then kas_bin (n-max m 1) q (max m 1)else KasT.ret q).kasWp (g4 n lt) G s;have e:max m 1=m:=by lia
 rw[e];by_cases h:m<n
 ·rw[if_pos h]
  exact HZ O J (n-m) q m (by lia) F hs
 ·rw[if_neg h]
  have:m=n:=by lia
  subst this;exact J q F hs
end
theorem AC{q:Type}{n:Nat}{lt:Nat->Nat->Bool}{c:Nat->Nat->(Bool->XE->Prop)->XE->Prop}(F:∀i j C,i<n->j<n->i≠j->C (lt i j) s->c i j C s){Q:q->XE->Prop}:∀(t:KasT q),t.kasWp (g4 n lt) Q s->t.kasWp c Q s
 | .ret a,h=>h
 | .ask i j k,h=>by
  obtain⟨h1,h2,G,J⟩:=(show i<n/\j<n/\i≠j/\(k (lt i j)).kasWp (g4 n lt) Q s from h);exact F i j _ h1 h2 G (AC F (k (lt i j)) J)
end My
namespace My
open PySem PySem.Spec PyProof.Rows PySem.W
section
variable {prog:XM}{w:World}{A:XS}{E:Value->XE->Prop}{s:XE}{it d:Addr}{i ep:Nat}{od:Obj}{es:Array Z6}
def RawD(h:Heap)(d:Addr)(es:Array Z6)(ep:Nat):Prop:=∃o,h.get? d=some o/\o.ExactDict/\o.data=.dict es ep
theorem RawD.at'(x:RawD h d es ep)(k:∀o,h.get? d=some o->h'.get? d=some o):RawD h' d es ep:=let ⟨o,a,b⟩:=x;⟨o,k o a,b⟩
theorem RawD.typ(x:RawD s.heap d es ep):s.TypeIs (.ref d) "dict" := let ⟨o,a,b,_⟩:=x;⟨o,a,b.1⟩
theorem xR(N:(d == ZI)=false)(G:RawD s.heap d es ep)
  (U:Q (.ref s.heap.objs.size) {s with heap:=s.heap.push {cls:=.type "dict_keyiterator",data:=.fields #[.ref d,.int 0 0,.int es.size 0,.int ep 0]} }):wpAny (model prog w) A (pyIter (.ref d)) Q E s:=by
 have q:=G.typ;obtain⟨o,g1,W,J⟩:=G;refine wpAny_pyIter_slot q PySem.F.slot_dict_iter (ZM PySem.F.slot_dict_iter q PySem.F.entry_dict_iter ?_ (PySem.F.args_dict_iter_1 _));unfold ZL.«dict.__iter__»;refine XD ?_;unfold Builtin.Dict.dictSlotNone;refine XD (wpAny_notOrdered_dict q ?_);show wpAny _ _ (pure (XN d)) _ _ s;refine XJ ?_;show wpAny _ _ (zcs d >>= _) _ _ s;unfold zcs;rw[if_neg (by rw[N];exact XZ)];refine XD (XJ (XD (zbk g1 J (XD (zbl g1 J ?_)))));refine XD (ZD (XJ ⟨_,rfl, "dict_keyiterator",_,⟨_,X9 _ rfl,rfl⟩,PySem.F.slot_dict_keyiterator_next.lookup,?_⟩));simpa[YD]using U
theorem xS(F:s.heap.IsKeyIter it d i es.size ep)(W:RawD s.heap d es ep)(Y:i<es.size)
  (U:∀h',h'.IsKeyIter it d (i+1) es.size ep->YN it s.heap h'->Q (some es[i].key) {s with heap:=h'}):wpAny (model prog w) A (Y2 (.ref it)) Q E s:=by
 have q:=F.typeIs;obtain⟨o,J,hc,G⟩:=id F;obtain⟨od,g1,g2,N⟩:=W;unfold Y2;refine XD (zbm (zal (name:=zam "__next__") q zct (ZM zct q zdn ?_ (zdo _))));refine XD (XJ (XD (XD ?_)))
 first|refine XD (zcu q (XJ ?_))|refine XD (zcv q (XJ ?_))
 refine XD (zcw J G ?_);simp only[show zbK "dict_keyiterator" = false by decide,zaB,if_false];show wpAny _ _ (if(XN d == X4)=true then _ else _) _ _ s;rw[if_neg (show ¬ ((XN d == X4)=true)from XZ)];refine XD (XJ (XD (zbk g1 N ?_)));rw[if_neg (by simp)];refine XD (XJ (XD (zbl g1 N ?_)));rw[if_neg (by simp)];refine XJ ?_;simp only[show ¬ ((i:Int)<0)from by lia,if_false,ZF,zdf Y];refine XD ?_;first|refine XD (zcu q (XJ ?_))|refine XD (zcv q (XJ ?_))
 refine XD (wpAny_isOneOf_keyiter q ?_);show wpAny _ _ (zaJ (.ref it) 1 (YD ((i:Int)+1)) >>= _) _ _ s;refine XD (Z9 J G (by simp) ?_);have nx:(s.heap.update it (ZG (·.setIfInBounds 1 (YD ((i:Int)+1))))).IsKeyIter it d (i+1) es.size ep:=⟨_,ZS _ J (zaY (zap G _)),(zdg ..).trans hc,by rw[zap G];simp[YD]⟩;refine XD (Y1 (XD (wpAny_isOneOf_keyiter (s:={s with heap:=s.heap.update it (ZG (·.setIfInBounds 1 (YD ((i:Int)+1))))}) nx.typeIs ?_)));show wpAny _ _ (pure es[i].key) _ _ _;exact XJ (XJ ⟨_,rfl,XJ (U _ nx (zaZ ..))⟩)
theorem BG(W:A.handled=none)(F:s.heap.IsKeyIter it d i es.size ep)(Y:RawD s.heap d es ep)(hx:es.size<=i)
  (U:∀h',zbL it s.heap h'->Q none {s with heap:=h'}):wpAny (model prog w) A (Y2 (.ref it)) Q E s:=by
 have q:=F.typeIs;obtain⟨o,J,hc,G⟩:=id F;obtain⟨od,g1,g2,N⟩:=Y;unfold Y2;refine XD (zbm (zal (name:=zam "__next__") q zct (ZM zct q zdn ?_ (zdo _))));refine XD (XJ (XD (XD ?_)))
 first|refine XD (zcu q (XJ ?_))|refine XD (zcv q (XJ ?_))
 refine XD (zcw J G ?_);simp only[show zbK "dict_keyiterator" = false by decide,zaB,if_false];show wpAny _ _ (if(XN d == X4)=true then _ else _) _ _ s;rw[if_neg (show ¬ ((XN d == X4)=true)from XZ)];refine XD (XJ (XD (zbk g1 N ?_)));rw[if_neg (by simp)];refine XD (XJ (XD (zbl g1 N ?_)));rw[if_neg (by simp)];refine XJ ?_;simp only[show ¬ ((i:Int)<0)from by lia,if_false,ZF,Array.getElem?_eq_none hx];refine XD ?_;first|refine XD (zcu q (XJ ?_))|refine XD (zcv q (XJ ?_))
 show wpAny _ _ (zaJ (.ref it) 0 .none >>= _) _ _ s;refine XD (Z9 J G (by simp) ?_);show wpAny _ _ (newExc (.type "StopIteration") [] >>= _) _ _ _;refine XD ?_;simp only[newExc,newTuple];refine XD (ZD ?_ (by size_fits));refine XD (m:=zbn _ _) (zcx (a:=X4) (by first|rfl|(simp only[zbn];rfl)) ?_)
 refine ZD ?_ (by size_fits);simp only[raiseNew];refine XD (zcy ?_);rw[show A.in1.handled=none from W];refine XD (XJ (zbM ?_));refine XD (zdh (T := "StopIteration") (b:=true) ⟨_,X9 _ rfl,rfl⟩ isSubtype_stop ?_);exact XJ (U _ (((zaZ ..).extBut.push _).push _))
theorem CH(U:A.handled=none)(I d:Addr)(G:d≠I)(es:Array Z6)(ep:Nat) :
  Walks prog w A I [I,d] [I] es.size (λi v=>∃e,es[i]?=some e/\e.key=v) (λi h=>h.IsKeyIter I d i es.size ep/\RawD h d es ep) where
 sub:=λb q=>by simp at q;simp[q]
 frame:=λ_ _ _ st N=>⟨st.1.at λo e=>N I (by simp) o e,st.2.at' λo e=>N d (by simp) o e⟩
 item:=λi s Q E hi st F=>xS st.1 st.2 hi λh' a b=>F es[i].key h' s.toks ⟨es[i],by simp[hi],rfl⟩ ⟨a,st.2.at' λo e=>b.extBut d o G e⟩ λc o q e=>b.extBut c o (λh=>q (by simp[h])) e
 done:=λs Q E st F=>BG U st.1 st.2 (XU _) λh' J=>F h' s.toks λb o q e=>J b o (λh=>q (by simp[h])) e
 self:=λ_ _ _ _ st F=>wpAny_pyIter_keyiter st.1 F
theorem F9(lo:(d == ZI)=false)(es:Array Z6)(ep:Nat):KdlSrc prog w "dict" d d es.size (λi v=>∃e,es[i]?=some e/\e.key=v) (λh=>RawD h d es ep) where
 type:=λs h=>h.typ
 there:=λh x=>by
  obtain⟨o,e,_⟩:=x;exact⟨XO e,XO e⟩
 keep:=λh h' x k=>x.at' λo e=>k d (.inl rfl) o e
 notList:=by decide
 notTuple:=by decide
 hint:=λA E s Q h q=>kdl_hint_dict h.typ q
 iter:=λA s G ok=>by
  have F:d<s.heap.objs.size:=by
   obtain⟨o,e,_⟩:=ok;exact XO e
  exact⟨_,_,λE Q q=>xR lo ok q,CH G _ d (YA F) es ep,⟨_,X9 _ rfl,rfl,rfl⟩,ok.at' λo e=>XT _ e⟩
def CB(h:Heap)(it d:Addr)(i n ep:Nat)(q fl:Value)(ok F:Value):Prop:=
 h.get? it=some {cls:=.type "dict_itemiterator",dict:=none,data:=.fields #[q,fl,.ref d,.int i 0,.int n 0,.int ep 0,ok,F],slots:=#[]}
def ItSt(h:Heap)(it d S:Addr)(i n ep:Nat):Prop:=
 (i=0/\∃ok q,CB h it d i n ep .none (.bool false) ok q)\/∃ok q a f F,CB h it d i n ep (YD (a:Nat)) (.bool f) ok q/\h.get? a=some F/\a≠it/\a≠S
theorem tZ(F:CB s.heap it d i es.size ep own fl ok ov)(W:RawD s.heap d es ep)(Y:i<es.size)
  (U:∀h1:Heap, CB h1 it d (i+1) es.size ep own fl ok ov -> YN it s.heap h1 ->
   wpAny (model prog w) A.in1 (zcz (.ref it) 6 es[i].key es[i].val) (λv s'=>Q (some v) s') (λ_ _=>False) {s with heap:=h1}):wpAny (model prog w) A (Y2 (.ref it)) Q E s:=by
 obtain⟨od,g1,g2,N⟩:=W;have G:s.TypeIs (.ref it) "dict_itemiterator" := ⟨_,F,rfl⟩;unfold Y2;refine XD (zbm (zal (name:=zam "__next__") G zcA (ZM zcA G zdp ?_ (zdq _))));refine XD (XJ (XD (XD ?_)))
 first|refine XD (zcB G (XJ ?_))|refine XD (zcC G (XJ ?_))
 refine XD (zcw F rfl ?_);simp only[show zbK "dict_itemiterator" = true by decide,if_true];show wpAny _ _ (if(XN d == X4)=true then _ else _) _ _ s;rw[if_neg (show ¬ ((XN d == X4)=true)from XZ)];refine XD (XJ (XD (zbk g1 N ?_)));rw[if_neg (by simp)];refine XD (XJ (XD (zbl g1 N ?_)));rw[if_neg (by simp)];refine XJ ?_;simp only[show ¬ ((i:Int)<0)from by lia,if_false,ZF,zdf Y];refine XD ?_;first|refine XD (zcB G (XJ ?_))|refine XD (zcC G (XJ ?_))
 refine XD (zdi G ?_);show wpAny _ _ (zaJ (.ref it) 3 (YD ((i:Int)+1)) >>= _) _ _ s;refine XD (zaa F (by simp) λh1 k1 k2=>?_);have k3:CB h1 it d (i+1) es.size ep own fl ok ov:=by
  have e:((i+1:Nat):Int)=(i:Int)+1:=by lia
  unfold CB;rw[e];simpa[YD]using k1
 have J:Shared.TypeIs {s with heap:=h1} (.ref it) "dict_itemiterator" := ⟨_,k3,rfl⟩;refine XD (Y1 (XD (zdi J ?_)));refine XD (zdi J ?_);show wpAny _ _ (zcz (.ref it) 6 es[i].key es[i].val) _ _ {s with heap:=h1};exact X3 (U h1 k3 k2) (λv s' q=>XJ ⟨_,rfl,XJ q⟩) λ_ _ z=>z.elim
theorem CD(ad:ItSt s.heap it d S i es.size ep)(hS:S<s.heap.objs.size)(hm:RawD s.heap d es ep)(hx:i<es.size)
  (hQ:∀h', ItSt h' it d S (i+1) es.size ep -> h'.get? s.heap.objs.size = some {cls := .type "tuple", data := .seq #[es[i].key, es[i].val]} -> h'.objs.size = s.heap.objs.size+1 ->
   (∀b o,b≠it->s.heap.get? b=some o->h'.get? b=some o)->Q (some (.ref s.heap.objs.size)) {s with heap:=h'}):wpAny (model prog w) A (Y2 (.ref it)) Q E s:=by
 have N:it<s.heap.objs.size:=by
  rcases ad with⟨_,ok,Y,G⟩|⟨ok,Y,a,f,oa,G,_⟩ <;> exact XO G
 rcases ad with⟨_,ok,Y,G⟩|⟨ok,Y,a,f,oa,G,ha,J,al⟩
 ·refine tZ G hm hx λh1 k1 k2=>?_
  have z1:h1.objs.size=s.heap.objs.size:=k2.1;unfold zcz;refine XD (zcD ?_);have U:CB (h1.push {cls:=.type "tuple",data:=.seq #[es[i].key,es[i].val]}) it d (i+1) es.size ep .none (.bool false) ok Y:=XT _ k1;have m2:(h1.push {cls:=.type "tuple",data:=.seq #[es[i].key,es[i].val]}).get? s.heap.objs.size=some {cls:=.type "tuple",data:=.seq #[es[i].key,es[i].val]}:=by rw[<- z1];exact X9 _ rfl
  have m3:(h1.push {cls:=.type "tuple",data:=.seq #[es[i].key,es[i].val]}).objs.size=s.heap.objs.size+1:=by rw[zbN,z1]
  have m4:∀b o,b≠it->s.heap.get? b=some o->(h1.push {cls:=.type "tuple",data:=.seq #[es[i].key,es[i].val]}).get? b=some o:=λb o q e=>XT _ (k2.extBut b o q e)
  show wpAny _ _ (zcE (.ref it) >>= _) _ _ {s with heap:=h1.push {cls:=.type "tuple",data:=.seq #[es[i].key,es[i].val]} };dsimp only;rw[z1];generalize h1.push {cls:=.type "tuple",data:=.seq #[es[i].key,es[i].val]}=h2 at *;refine XD ?_;unfold zcE;refine XD (YI U rfl (x:=.none) rfl (XJ ?_));simp only[if_true];refine XD (YI U rfl (x:=ok) rfl (XD (YI U rfl (x:=Y) rfl ?_)));refine XD (zaa U (by simp) λF e3 W=>?_);have ak:CB F it d (i+1) es.size ep .none (.bool false) es[i].key Y:=e3;refine XD (zaa ak (by simp) λh4 e4 s4=>?_);have ao:CB h4 it d (i+1) es.size ep .none (.bool false) es[i].key es[i].val:=e4;refine XD (zaa ao (by simp) λh5 e5 s5=>?_);have an:CB h5 it d (i+1) es.size ep (YD (s.heap.objs.size:Nat)) (.bool false) es[i].key es[i].val:=e5;refine XD (zaa an (by simp) λh6 e6 s6=>?_);have am:CB h6 it d (i+1) es.size ep (YD (s.heap.objs.size:Nat)) (.bool false) es[i].key es[i].val:=e6;have ex:∀b o,b≠it->h2.get? b=some o->h6.get? b=some o:=λb o q e=>(show YN it h5 h6 from s6).extBut b o q ((show YN it h4 h5 from s5).extBut b o q ((show YN it F h4 from s4).extBut b o q ((show YN it h2 F from W).extBut b o q e)))
  have sz:h6.objs.size=s.heap.objs.size+1:=by
   rw[(show YN it h5 h6 from s6).1,(show YN it h4 h5 from s5).1,(show YN it F h4 from s4).1,(show YN it h2 F from W).1,m3]
  exact XD (zbo (XJ (hQ h6 (.inr ⟨_,_,_,false,_,am,ex _ _ (YS N) m2,YS N,YS hS⟩) (ex _ _ (YS N) m2) sz λb o q e=>ex b o q (m4 b o q e))))
 ·refine tZ G hm hx λh1 k1 k2=>?_
  have z1:h1.objs.size=s.heap.objs.size:=k2.1;unfold zcz;refine XD (zcD ?_);have U:CB (h1.push {cls:=.type "tuple",data:=.seq #[es[i].key,es[i].val]}) it d (i+1) es.size ep (YD (a:Nat)) (.bool f) ok Y:=XT _ k1;have m2:(h1.push {cls:=.type "tuple",data:=.seq #[es[i].key,es[i].val]}).get? s.heap.objs.size=some {cls:=.type "tuple",data:=.seq #[es[i].key,es[i].val]}:=by rw[<- z1];exact X9 _ rfl
  have m3:(h1.push {cls:=.type "tuple",data:=.seq #[es[i].key,es[i].val]}).objs.size=s.heap.objs.size+1:=by rw[zbN,z1]
  have m4:∀b o,b≠it->s.heap.get? b=some o->(h1.push {cls:=.type "tuple",data:=.seq #[es[i].key,es[i].val]}).get? b=some o:=λb o q e=>XT _ (k2.extBut b o q e)
  show wpAny _ _ (zcE (.ref it) >>= _) _ _ {s with heap:=h1.push {cls:=.type "tuple",data:=.seq #[es[i].key,es[i].val]} };dsimp only;rw[z1];generalize h1.push {cls:=.type "tuple",data:=.seq #[es[i].key,es[i].val]}=h2 at *;refine XD ?_;unfold zcE;refine XD (YI U rfl (x:=YD (a:Nat)) rfl ?_);show wpAny _ _ (loadIfAlive ((a:Int).toNat) >>= _) _ _ _;rw[ZF];refine XD (kdx_alive (m4 a oa J ha) ?_);simp only[Option.isNone_some,zaB,if_false];refine XD (YI U rfl (x:=.bool f) rfl ?_);have fin:∀F:Heap,CB F it d (i+1) es.size ep (YD (a:Nat)) (.bool true) ok Y->YN it h2 F->Q (some (.ref s.heap.objs.size)) {s with heap:=F}:=λF e3 W=>
   hQ F (.inr ⟨_,_,a,true,oa,e3,W.extBut a oa J (m4 a oa J ha),J,al⟩) (W.extBut _ _ (YS N) m2) (by rw[W.1,m3]) λb o q e=>W.extBut b o q (m4 b o q e)
  cases f with
  | true=>
   rw[if_neg (show ¬ ((YV true != YV true)=true)from XZ)];refine XJ ?_;simp only[zaB,if_false];exact XJ (fin h2 U (Heap.SameBut.refl _ _))
  | false=>
   rw[if_pos (show(YV false != YV true)=true from rfl)];refine XD (zaa U (by simp) λF e3 W=>?_);refine XJ ?_;simp only[zaB,if_false];exact XJ (fin F e3 W)
theorem xB(N:A.handled=none)(q:CB s.heap it d i es.size ep own fl ok ov)(U:RawD s.heap d es ep)(W:es.size<=i)
  (J:∀h',zbL it s.heap h'->Q none {s with heap:=h'}):wpAny (model prog w) A (Y2 (.ref it)) Q E s:=by
 obtain⟨od,g1,Y,G⟩:=U;have F:s.TypeIs (.ref it) "dict_itemiterator" := ⟨_,q,rfl⟩;unfold Y2;refine XD (zbm (zal (name:=zam "__next__") F zcA (ZM zcA F zdp ?_ (zdq _))));refine XD (XJ (XD (XD ?_)))
 first|refine XD (zcB F (XJ ?_))|refine XD (zcC F (XJ ?_))
 refine XD (zcw q rfl ?_);simp only[show zbK "dict_itemiterator" = true by decide,if_true];show wpAny _ _ (if(XN d == X4)=true then _ else _) _ _ s;rw[if_neg (show ¬ ((XN d == X4)=true)from XZ)];refine XD (XJ (XD (zbk g1 G ?_)));rw[if_neg (by simp)];refine XD (XJ (XD (zbl g1 G ?_)));rw[if_neg (by simp)];refine XJ ?_;simp only[show ¬ ((i:Int)<0)from by lia,if_false,ZF,Array.getElem?_eq_none W];refine XD ?_;first|refine XD (zcB F (XJ ?_))|refine XD (zcC F (XJ ?_))
 show wpAny _ _ (zaJ (.ref it) 2 .none >>= _) _ _ s;refine XD (Z9 q rfl (by simp) ?_);show wpAny _ _ (newExc (.type "StopIteration") [] >>= _) _ _ _;refine XD ?_;simp only[newExc,newTuple];refine XD (ZD ?_ (by size_fits));refine XD (m:=zbn _ _) (zcx (a:=X4) (by first|rfl|(simp only[zbn];rfl)) ?_)
 refine ZD ?_ (by size_fits);simp only[raiseNew];refine XD (zcy ?_);rw[show A.in1.handled=none from N];refine XD (XJ (zbM ?_));refine XD (zdh (T := "StopIteration") (b:=true) ⟨_,X9 _ rfl,rfl⟩ isSubtype_stop ?_);exact XJ (J _ (((zaZ ..).extBut.push _).push _))
theorem ItSt.keep(x:ItSt h it d S i n ep)(N:∀b o,b≠S->h.get? b=some o->h'.get? b=some o)(U:it≠S):ItSt h' it d S i n ep:=by
 rcases x with⟨e,ok,J,q⟩|⟨ok,J,a,f,Y,q,W,G,F⟩
 ·exact .inl ⟨e,ok,J,N _ _ U q⟩
 ·exact .inr ⟨ok,J,a,f,Y,N _ _ U q,N _ _ F W,G,F⟩
structure Made(es:Array Z6)(lo:Addr)(h:Heap)(as:List Addr):Prop where
 above:∀a∈as,lo<a
 pair:∀(j:Nat) (a:Addr),as[j]?=some a->∃e,es[j]?=some e/\h.get? a=some {cls:=.type "tuple",data:=.seq #[e.key,e.val]}
end
section
variable {prog:XM}{w:World}{A:XS}{s:XE}{R:zag->XE->Prop}{es:Array Z6}{ep:Nat}
theorem DX{S I d:Addr}(hh:A.handled=none)(an:S<I)(ax:d≠S)(ar:d≠I)(hn:es.size<=XQ)(res:Value){h0:Heap}
  (hR:∀h' tk q c as,(∀b o,b≠S->b≠I->h0.get? b=some o->h'.get? b=some o)->h'.get? S=some {cls:=.type "list",dict:=none,data:=.seq q c,slots:=#[]}->as.length=es.size->Made es I h' as->q.toList=as.map XN->R (.ok (.ret res)) {s with heap:=h',toks:=tk}) :
  ∀(k i:Nat) (h:Heap) (tk c:Nat) (q:Array Value) (as:List Addr),es.size-i=k->i<=es.size->ItSt h I d S i es.size ep->RawD h d es ep->(∀b o,b≠S->b≠I->h0.get? b=some o->h.get? b=some o)->
   h.get? S=some {cls:=.type "list",dict:=none,data:=.seq q c,slots:=#[]}->q.toList=as.map XN->as.length=i->Made es I h as->I<h.objs.size->
   ZQ (model prog w) A (.builtin "list.extend.loop" ⟨[.ref S,.ref I,res],[]⟩) R {s with heap:=h,toks:=tk}:=by
 have af:S≠I:=YA an;intro k;induction k with
 | zero=>
  intro i h tk c q as hk hi aa hD G hS J ad hG ac;have al:es.size<=i:=by lia
  refine zaK PySem.F.entry_extend_loop ?_;rw[zbp zbO _];show wpAny _ A.in1 (Y2 (.ref I) >>= _) _ _ _;have fin:∀h',zbL I h h'->R (.ok (.ret res)) {s with heap:=h',toks:=tk}:=λh' he=>by
   refine hR h' tk q c as (λb o h1 h2 e=>he b o h2 (G b o h1 h2 e)) (he S _ af hS) (by lia) ⟨hG.above,λj a N=>?_⟩ J;obtain⟨e,e1,e2⟩:=hG.pair j a N;exact⟨e,e1,he a _ (YS (hG.above a (YO N))) e2⟩
  rcases aa with⟨_,ok,ov,W⟩|⟨ok,ov,a,f,oa,W,_⟩
  ·exact XD (xB (s:={s with heap:=h,toks:=tk}) (A:=A.in1) hh W hD al λh' he=>XJ (fin h' he))
  ·exact XD (xB (s:={s with heap:=h,toks:=tk}) (A:=A.in1) hh W hD al λh' he=>XJ (fin h' he))
 | succ k ih=>
  intro i h tk c q as hk hi aa hD G hS J ad hG ac;have Y:i<es.size:=by lia
  have hsz:q.size=i:=by rw[<- ZJ,J,XR,ad]
  refine zaK PySem.F.entry_extend_loop ?_;rw[zbp zbO _];show wpAny _ A.in1 (Y2 (.ref I) >>= _) _ _ _;refine XD (CD (s:={s with heap:=h,toks:=tk}) (S:=S) aa (XO hS) hD Y λh' ak ht hz U=>?_);dsimp only at ht hz U ⊢;have ah:=U S _ af hS;have aj:S<h.objs.size:=XO hS;have up:∀b o,b≠S->h'.get? b=some o->(h'.update S (ZE (·.push (XN h.objs.size)))).get? b=some o:=λb o hb e=>(Y5 _ _ (X5 hb)).trans e
  show wpAny _ A.in1 (zbP S (·.push (XN h.objs.size)) >>= _) _ _ _;refine XD (zbq ah rfl ?_ (by rw[hsz];lia) (by show(q.push (XN h.objs.size)).size<=XQ+1;rw[Array.size_push,hsz];lia));refine XJ ⟨zaL zbO _,ih (i+1) _ tk _ (q.push (XN h.objs.size)) (as++[h.objs.size]) (by lia) Y (ak.keep up (X5 af)) (hD.at' λo e=>up d o ax (U d o ar e)) (λb o h1 h2 e=>up b o h1 (U b o h2 (G b o h1 h2 e))) (ZS _ ah rfl) (by rw[Array.toList_push,J,zbr];rfl) (by rw[Y3,ad];rfl) ⟨λa ha=>?_,λj b N=>?_⟩ ?_⟩
  ·rcases List.mem_append.mp ha with ha|ha
   ·exact hG.above a ha
   ·rw[List.mem_singleton.mp ha];exact ac
  ·by_cases h1:j<as.length
   ·rw[zcf h1]at N
    obtain⟨e,e1,e2⟩:=hG.pair j b N;have hb:=hG.above b (YO N);exact⟨e,e1,up b _ (YS (zbf an hb)) (U b _ (YS hb) e2)⟩
   ·rw[zce (by lia)]at N
    have:j-as.length=0:=by
     by_cases z:j-as.length=0
     ·exact z
     ·rw[List.getElem?_eq_none (by simp only[zco];lia)]at N;cases N
    rw[this]at N;cases N;have e:j=i:=by lia
    subst e;exact⟨es[j],by simp[Y],up _ _ (YS aj) ht⟩
  ·have e:=up _ _ (YS aj) ht
   exact zbf ac (XO e)
end
section
variable {prog:XM}{w:World}{A:XS}{E:Value->XE->Prop}{s:XE}{r d:Addr}{es:Array Z6}{ep:Nat}
theorem CI(J:s.heap.IsItemsView r d)(Y:RawD s.heap d es ep)
  (W:Q (.ref s.heap.objs.size) {s with heap:=s.heap.push {cls:=.type "dict_itemiterator",data:=.fields #[.none,.bool false,.ref d,.int 0 0,.int es.size 0,.int ep 0,.none,.none]} }):wpAny (model prog w) A (pyIter (.ref r)) Q E s:=by
 have G:=J.typeIs;obtain⟨ov,U,v2,N⟩:=id J;obtain⟨o,g1,g2,q⟩:=Y;refine wpAny_pyIter_slot G zdr (ZM zdr G PySem.F.entry_dict_items_iter ?_ (PySem.F.args_dict_items_iter_1 _));unfold ZL.«dict_items.__iter__»;refine XD (XJ (XD ?_));unfold Builtin.Dict_items.dictOf;refine XD (YI U N (x:=.ref d) rfl (XJ ?_));refine XD ?_;unfold Builtin.Dict_items.newIterator;refine XD (zbk g1 q (XD (zbl g1 q ?_)));simp only[show zbK "dict_itemiterator" = true by decide,if_true];refine ZD (XJ ⟨_,rfl, "dict_itemiterator",_,⟨_,X9 _ rfl,rfl⟩,PySem.F.slot_dict_itemiterator_next.lookup,?_⟩) (by simp only[sizeOk,zds,XX,Y3,Y4,zbb,zaH];lia);simpa[YD,zds]using W
theorem wV{R:zag->XE->Prop}(hh:A.handled=none)(hv:s.heap.IsItemsView r d)(hm:RawD s.heap d es ep)(S:Addr)(ab:S≠r)(Y:d≠S)(res:Value)(G:Nat)(hS:s.heap.get? S=some {cls:=.type "list",data:=.seq #[] G})
  (hR:∀h' tk F c as,(∀b o,b≠S->s.heap.get? b=some o->h'.get? b=some o)->h'.get? S=some {cls:=.type "list",dict:=none,data:=.seq F c,slots:=#[]}->as.length=es.size->Made es s.heap.objs.size h' as->F.toList=as.map XN->R (.ok (.ret res)) {s with heap:=h',toks:=tk}) (hn:es.size<=XQ) :
  wpAny (model prog w) A.in1 (zdj (.ref S) (.ref r) res)
   (λfin s'=>match fin with | .done f=>R (.ok f) s' | .again c'=>c'.quiet=true/\ZQ (model prog w) A c' R s') (λe s'=>R (.error e) s') s:=by
 have W:S<s.heap.objs.size:=XO hS;have ag:d<s.heap.objs.size:=by
  obtain⟨o,e,_⟩:=hm;exact XO e
 have N:∀(h:Heap) (q tk:Nat),(∀b o,b≠S->(s.heap.push {cls:=.type "dict_itemiterator",data:=.fields #[.none,.bool false,.ref d,.int 0 0,.int es.size 0,.int ep 0,.none,.none]}).get? b=some o->h.get? b=some o)->
   h.get? S=some {cls:=.type "list",data:=.seq #[] q}->ZQ (model prog w) A (.builtin "list.extend.loop" ⟨[.ref S,.ref s.heap.objs.size,res],[]⟩) R {s with heap:=h,toks:=tk}:=by
  intro h q tk hk ai;have hI:=hk s.heap.objs.size _ (YS W) (X9 _ rfl);exact DX (es:=es) (ep:=ep) (s:=s) (h0:=s.heap) hh W Y (YA ag) hn res (λh' ah F c as aj aa hl hG U=>hR h' ah F c as (λb o J e=>aj b o J (YA (XO e)) e) aa hl hG U)
   es.size 0 h tk q #[] [] (Nat.sub_zero _) (YY _) (.inl ⟨rfl,.none,.none,hI⟩) (hm.at' λo e=>hk d o Y (XT _ e)) (λb o J _ e=>hk b o J (XT _ e)) ai rfl rfl ⟨(λ_ ha=>nomatch ha),(λj a hj=>by simp at hj)⟩ (XO hI)
 unfold zdj;refine XD (zci (T := "dict_items") hv.typeIs ?_);simp only[show Builtin.List.listSameRef (.ref S) (.ref r)=false by simp[Builtin.List.listSameRef,ab],show(zac "dict_items" == zac "list")=false by decide,show(zac "dict_items" == zac "tuple")=false by decide,Bool.or_false,zaB,if_false];refine XD (CI hv hm ?_);have p1:=XT {cls:=.type "dict_itemiterator",data:=.fields #[.none,.bool false,.ref d,.int 0 0,.int es.size 0,.int ep 0,.none,.none]} hS;refine XD (Y1 (kdx_hint (let ⟨o,ho,hc,_⟩:=hv;⟨o,XT _ ho,hc⟩) ?_));refine wpAny_ite_split (λ_=>?_) (λ_=>XJ ⟨zaL zbO _,N _ G _ (λb o _ e=>e) p1⟩);refine XD (wpAny_rule (XD ?_));show wpAny _ _ (zbP S (·.push .none) >>= λ_=>zbP S (·.pop)) _ _ _;refine XD (zbq p1 rfl ?_);have p2:=ZS (ZE (·.push X4)) p1 rfl;refine zbq (hz:=by seq_fits) p2 rfl ?_;have p3:=ZS (ZE (·.pop)) p2 rfl;exact XJ ⟨zaL zbO _,N _ _ _ (λb o J e=>(Y5 _ _ (X5 J)).trans ((Y5 _ _ (X5 J)).trans e)) p3⟩
theorem uQ(hh:A.handled=none)(hv:s.heap.IsItemsView r d)(hm:RawD s.heap d es ep)(hn:es.size<=XQ)
  (h:∀(h':Heap) (tk:Nat) (as:List Addr),(∀b o,s.heap.get? b=some o->h'.get? b=some o)->as.length=es.size->Made es s.heap.objs.size h' as->R (as.map XN) {s with heap:=h',toks:=tk}) :
  wpAny (model prog w) A (collect (.ref r)) R E s:=by
 have hr:r<s.heap.objs.size:=let ⟨_,ho,_⟩:=hv;XO ho;have hd:d<s.heap.objs.size:=let ⟨_,ho,_⟩:=hm;XO ho;unfold collect;refine XD (wpAny_runValue (zaK entry_proto_collect' ?_));rw[zbp PySem.F.plain_proto_collect _];show wpAny _ A.in1 (newList [] >>= λl=>again (.builtin "list.__iadd__" ⟨[l,.ref r],[]⟩)) _ _ s;refine XD (ZD ?_);refine XJ ⟨zaL PySem.F.plain_list_iadd _,zaK entry_list_iadd' ?_⟩;rw[zbp PySem.F.plain_list_iadd _];have p1:(s.heap.push {cls:=.type "list",data:=.seq ([]:List Value).toArray}).get? s.heap.objs.size=some {cls:=.type "list",data:=.seq #[]}:=X9 _ rfl;show wpAny _ A.in1 (zdj (.ref s.heap.objs.size) (.ref r) (.ref s.heap.objs.size)) _ _ _;have ab:=wV (prog:=prog) (w:=w) (A:=A) (s:={s with heap:=s.heap.push {cls:=.type "list",data:=.seq ([]:List Value).toArray} }) (es:=es) (ep:=ep)
  (R:=λ(q:zag) (s':XE) => ∃(h':Heap) (tk:Nat) (G:Array Value) (Y:Nat) (as:List Addr), q = .ok (.ret (.ref s.heap.objs.size)) /\ s' = {s with heap:=h', toks:=tk} /\
   (∀b o,s.heap.get? b=some o->h'.get? b=some o)/\h'.get? s.heap.objs.size=some {cls:=.type "list",dict:=none,data:=.seq G Y,slots:=#[]}/\as.length=es.size/\Made es s.heap.objs.size h' as/\G.toList=as.map XN)
  hh (let ⟨o,ho,x⟩:=hv;⟨o,XT _ ho,x⟩) (hm.at' λo e=>XT _ e) s.heap.objs.size (YS hr) (YA hd) (.ref s.heap.objs.size) 0 p1
  (λh' tk G Y as hk N W U J=>⟨h',tk,G,Y,as,rfl,rfl,λb o e=>hk b o (YA (XO e)) (XT _ e),N,W,⟨λa ha=>zcr (by show s.heap.objs.size<=(s.heap.push _).objs.size;rw[zbN];exact Nat.le_succ _) (U.above a ha),U.pair⟩,J⟩) hn
 refine X3 ab (λfin s' x=>?_) λe s' x=>?_
 ·cases fin with
  | done f=>
   obtain⟨h',tk,G,Y,as,e,rfl,hk,N,W,U,J⟩:=x;cases e;show wpAny _ A (load s.heap.objs.size >>= _) _ _ _;refine XD (wpAny_load N (XJ ?_));rw[J];exact h h' tk as hk W U
  | again c₁=>
   refine⟨x.1,zav x.2 λq ac y=>?_⟩;obtain⟨h',tk,G,Y,as,e,rfl,hk,N,W,U,J⟩:=y;cases e;show wpAny _ A (load s.heap.objs.size >>= _) _ _ _;refine XD (wpAny_load N (XJ ?_));rw[J];exact h h' tk as hk W U
 ·obtain⟨_,_,_,_,_,z,_⟩:=x
  cases z
end
section
variable {prog:XM}{w:World}{A:XS}{E:Value->XE->Prop}{s:XE}{a L:Addr}{vs:List Value}{m:Str->Option Value}
theorem GJ(O:Ord vs.length lt)(W:s.heap.Ns L m)(ho:s.heap.get? a=some (YM "list" vs.toArray n))(J:a≠L)(ad:vs.length<64)
  (ac:2 <= vs.length -> ∀h':Heap, (∀b o, b≠a -> b≠L -> s.heap.get? b = some o -> h'.get? b = some o) -> ∃κ, (∀Q':SortKind -> XE -> Prop, Q' κ {s with heap:=h'} -> wpAny (model prog w) A (keyKind' vs.toArray) Q' (λ_ _ => False) {s with heap:=h'}) /\
   ∀i j C,i<vs.length->j<vs.length->i≠j->C (lt i j) {s with heap:=h'}->kas_ask prog w A κ vs i j C {s with heap:=h'})
  (hP:∀(p:Array Nat) (h':Heap) (c:Nat), PermR vs.length p -> fL lt p vs.length -> h'.get? a = some (YM "list" (zbJ (p.toList.map λi => vs.getD i X4)) c) ->
   (∀b o,b≠a->b≠L->s.heap.get? b=some o->h'.get? b=some o)->h'.Ns L m->P (.done (.ret .none)) {s with heap:=h'}) :
  wpAny (model prog w) A (ZL.«list.sort» ⟨[.ref a],[]⟩) P E s:=by
 by_cases h2:2<=vs.length
 ·have N:News (Att.vQ s.heap) L s.heap (Att.ledger s.heap L a):=λ⟨b,o⟩ F=>⟨(Att.dP.mp F).2.2,(Att.dP.mp F).1,Att.kH _ _⟩
  refine kat_list_sort (Att.N9 W) N ho J (Att.kH _ _) (λ⟨b,o⟩ F=>(Att.dP.mp F).2.1) h2 ad λe1 h' F' N'=>?_
  have keep:∀b o,b≠a->b≠L->s.heap.get? b=some o->h'.get? b=some o:=λb o q hL e=>(N' (b,o) (YH _ (Att.dP.mpr ⟨hL,q,e⟩))).1
  obtain⟨κ,k1,k2⟩:=ac h2 h' keep;refine k1 _ (AC k2 _ (KM O (by lia) λp F hs=>?_));refine KasFin.intro F' N' (.head λ⟨b,o⟩ q=>(Att.dP.mp q).2.1) λaf c ae U=>?_
  exact hP p af c F hs (U _ (X8 ..)).1 (λb o q hL e=>(U (b,o) (YH _ (Att.dP.mpr ⟨hL,q,e⟩))).1) ae.ns
 ·have G:vs.toArray.size<2:=by rw[XX];lia
  rw[list_sort_plain];obtain⟨e1,Y⟩:∃e1,(s.heap.update a (ZE λ_=>(#[]:Array Value))).get? a=some (YM "list" #[] e1):=⟨_,get?_update_seq ho λ_=>#[]⟩;refine XD (listItems_at ho rfl (XD (listUpdate_at ho rfl ?_ (by rw[XX,zaH];lia) (YY _))));refine XD (seqEpoch_at Y rfl (XD (zcD ?_ (by show vs.length<=_;rw[zaH];lia))));refine XD (zcF ?_ (YY _));refine Y1 ?_;show wpAny (model prog w) A _ P E {s with heap:=((s.heap.update a (ZE λ_=>(#[]:Array Value))).push (YM "tuple" vs.toArray 0)).push (YM "list" #[] 0)};dsimp only;rw[if_pos G,if_pos G];have g1:(((s.heap.update a (ZE λ_=>(#[]:Array Value))).push (YM "tuple" vs.toArray 0)).push (YM "list" #[] 0)).get? a=some (YM "list" #[] e1):=XT _ (XT _ Y);refine XD (XJ ?_);rw[StateT.run_pure];refine XD (XJ ?_);dsimp only;refine XD (seqEpoch_at g1 rfl (XD (listUpdate_at g1 rfl ?_ (YY _) ?_)))
  ·simp only[bne_self_eq_false,zaB,if_false]
   have s1:=zaZ s.heap a (ZE λ_=>(#[]:Array Value));have s2:=zaZ (((s.heap.update a (ZE λ_=>(#[]:Array Value))).push (YM "tuple" vs.toArray 0)).push (YM "list" #[] 0)) a (ZE λ_=>(arrOf (SortSt.mk' general' (vs.toArray.zip vs.toArray) #[] 7 none)).map (·.2));have keep:∀b o,b≠a->s.heap.get? b=some o->_:=λb o q e=>s2.extBut b o q (XT (YM "list" #[] 0) (XT (YM "tuple" vs.toArray 0) (s1.extBut b o q e)))
   have eo:(arrOf (SortSt.mk' general' (vs.toArray.zip vs.toArray) #[] 7 none)).map (·.2)=zbJ ((zbJ (Y9 vs.length)).toList.map λi=>vs.getD i X4):=by
    show((vs.toArray.zip vs.toArray).map (·.2))=_;apply Array.toList_inj.mp;rw[Array.toList_map,Array.toList_zip];show(vs.zip vs).map (·.2)=(Y9 vs.length).map λi=>vs.getD i X4
    apply zbI
    ·simp
    ·intro i h5 h6
     have:i<vs.length:=by simpa using h6
     simp[this]
   obtain⟨c,hc⟩:∃c,((((s.heap.update a (ZE λ_=>(#[]:Array Value))).push (YM "tuple" vs.toArray 0)).push (YM "list" #[] 0)).update a (ZE λ_=>(arrOf (SortSt.mk' general' (vs.toArray.zip vs.toArray) #[] 7 none)).map (·.2))).get? a=some (YM "list" ((arrOf (SortSt.mk' general' (vs.toArray.zip vs.toArray) #[] 7 none)).map (·.2)) c):=⟨_,get?_update_seq g1 _⟩;exact XJ (hP (zbJ (Y9 vs.length)) _ c (Array.Perm.refl _) (λi j h1 h3=>absurd h3 (by lia)) (by rw[<- eo];exact hc) (λb o q _ e=>keep b o q e) (W.at' λo e=>keep L o (X5 J) e))
  ·rw[Array.size_map]
   show(vs.toArray.zip vs.toArray).size<=_;rw[zaH];simp
   lia
end
end My
namespace My
open PySem PySem.Spec PyProof.Rows PySem.W PySem.SeqAt
theorem u9:∀ns:List Int,HT.lexLt ns ns=false
 | []=>rfl
 | x::xs=>by rw[HT.dS,if_pos rfl];exact u9 xs
theorem vX:∀a b c:List Int,HT.lexLt a b=true->HT.lexLt b c=true->HT.lexLt a c=true
 | [],[],c,h,_=>by cases h
 | [],_::_,[],_,h=>by cases h
 | [],_::_,_::_,_,_=>rfl
 | _::_,[],_,h,_=>by cases h
 | _::_,_::_,[],_,h=>by cases h
 | x::xs,y::ys,z::zs,h1,h2=>by
  rw[HT.dS]at h1 h2 ⊢;by_cases G:x=y
  ·by_cases F:y=z
   ·rw[if_pos G]at h1;rw[if_pos F]at h2;rw[if_pos (G.trans F)];exact vX xs ys zs h1 h2
   ·rw[if_neg F]at h2;rw[if_neg (λq=>F (G.symm.trans q)),G];exact h2
  ·rw[if_neg G]at h1
   have h1:=of_decide_eq_true h1;by_cases F:y=z
   ·rw[if_neg (λq=>G (q.trans F.symm))];exact decide_eq_true (by lia)
   ·rw[if_neg F]at h2
    have h2:=of_decide_eq_true h2;rw[if_neg (by lia)];exact decide_eq_true (by lia)
theorem vL:∀a b:List Int,a≠b->HT.lexLt a b=true\/HT.lexLt b a=true
 | [],[],h=>absurd rfl h
 | [],_::_,_=>.inl rfl
 | _::_,[],_=>.inr rfl
 | x::xs,y::ys,h=>by
  rw[HT.dS,HT.dS];by_cases e:x=y
  ·rw[if_pos e,if_pos e.symm]
   exact vL xs ys λq=>h (by rw[e,q])
  ·rw[if_neg e,if_neg (λq=>e q.symm)]
   rcases Int.lt_or_gt_of_ne e with q|q
   ·exact .inl (decide_eq_true q)
   ·exact .inr (decide_eq_true q)
def NO(ks:List (List Int))(i j:Nat):Bool:=HT.lexLt (ks.getD i []) (ks.getD j [])
theorem GU(N:ks.Nodup):Ord ks.length (NO ks) where
 irr:=λi _=>u9 _
 tr:=λi j k _ _ _ h1 h2=>vX _ _ _ h1 h2
 tot:=λi j hi J q=>vL _ _ λe=>q (by
  have F:ks.getD i []=ks[i]:=by simp[hi]
  have G:ks.getD j []=ks[j]:=by simp[J]
  rw[F,G]at e;exact(zbx N).mp e)
section
variable {prog:XM}{w:World}{A:XS}{E:Value->XE->Prop}{s:XE}
theorem ME(h:Q (decide (x<y)) s):wpAny (model prog w) A (oneLt' b (.int x t) (.int y u)) Q E s:=by
 cases b with
 | true=>exact oneLt_int h
 | false=>exact kat_one _ _ (PyProof.Rows.lt_int h)
theorem xE:∀ {us vs:List Value} {ns ms:List Int} (i:Nat),YX us ns->YX vs ms->fin=decide (ns.length<ms.length)->Q (HT.lexLt ns ms) s->KatLex prog w A b fin Q (us.zip vs) i s
 | _,_,_,_,i,.nil,.nil,hf,h=>by rw[zc0];show Q fin s;rw[hf];exact h
 | _,_,_,_,i,.nil,.cons _ _ _,hf,h=>by rw[zc0];show Q fin s;rw[hf];exact h
 | _,_,_,_,i,.cons _ _ _,.nil,hf,h=>by rw[List.zip_nil_right];show Q fin s;rw[hf];exact h
 | _,_,_,_,i,.cons x t r1,.cons y u r2,hf,h=>by
  rw[zc1];refine kat_cons (EqAt.int_int x t y u prog w _ _ ?_);rw[HT.dS]at h;by_cases e:x=y
  ·rw[if_pos e]at h
   rw[show(x == y)=true by simpa using e];refine kat_yes (xE (i+1) r1 r2 ?_ h);rw[hf];simp only[Y4,Nat.add_lt_add_iff_right]
  ·rw[if_neg e]at h
   rw[show(x == y)=false by simpa using e];exact kat_no (ME h)
def TupI(h:Heap)(a:Addr)(ns:List Int):Prop:=∃q:List Value,IsTup h a q.toArray/\YX q ns
theorem TupI.at'(x:TupI h a ns)(k:∀o,h.get? a=some o->h'.get? a=some o):TupI h' a ns:=by
 obtain⟨q,⟨o,e,c⟩,i⟩:=x;exact⟨q,⟨o,k o e,c⟩,i⟩
theorem GO(hx:TupI s.heap x ns)(Y:TupI s.heap y ms)(h:Q (HT.lexLt ns ms) s):wpAny (model prog w) A (keyLt' (tuples' b) (.ref x) (.ref y)) Q E s:=by
 obtain⟨q,⟨ox,N,x2,n,W⟩,G⟩:=hx;obtain⟨vs,⟨oy,J,y2,m,y3⟩,F⟩:=Y;refine kat_lt N W J y3 ?_;show KatLex prog w A b (decide (q.toArray.size<vs.toArray.size)) Q (q.zip vs) 0 s;refine xE 0 G F ?_ h;have U:q.length=ns.length:=G.length;have a2:vs.length=ms.length:=F.length;rw[XX,XX,U,a2]
theorem L9(hx:TupI s.heap x ns)(hy:TupI s.heap y ms)(F:ns≠ms)(hu:A.units<cLine):EqAt A s (.ref x) (.ref y) false:=by
 obtain⟨q,tx,N⟩:=hx;obtain⟨vs,ty,W⟩:=hy;have ne:x≠y:=λe=>by
  subst e;obtain⟨o,J,c1,n,d1⟩:=tx;obtain⟨o',G,c2,n',d2⟩:=ty;rw[J]at G;cases G;rw[d1]at d2;injection d2 with d3 _
  have:q=vs:=by simpa using congrArg Array.toList d3
  subst this;have:∀ {q:List Value} {a b:List Int},YX q a->YX q b->a=b:=by
   intro q a b h1;induction h1 generalizing b with
   | nil=>intro h2;cases h2;rfl
   | cons n t _ ih=>intro h2;cases h2 with|cons _ _ r=>rw[ih r]
  exact F (this N W)
 have he:∀j (h1:j<q.toArray.size) (h2:j<vs.toArray.size),EqAt A.in1 s q.toArray[j] vs.toArray[j] (decide (ns.getD j 0=ms.getD j 0)):=by
  intro j h1 h2;have g:∀ {q:List Value} {ns:List Int} {j:Nat} (_:YX q ns) (h:j<q.length),∃t,q[j]=.int (ns.getD j 0) t:=by
   intro q ns j r;induction r generalizing j with
   | nil=>intro h;cases h
   | cons n t r ih=>
    intro h;cases j with
    | zero=>exact⟨t,rfl⟩
    | succ j=>
     obtain⟨t',e⟩:=ih (j:=j) (by simpa using h);exact⟨t',by simpa using e⟩
  obtain⟨t,J⟩:=g N (j:=j) (by simpa using h1);obtain⟨t',G⟩:=g W (j:=j) (by simpa using h2);have U:q.toArray[j]=q[j]'(by simpa using h1):=by simp
  have Y:vs.toArray[j]=vs[j]'(by simpa using h2):=by simp
  rw[U,Y,J,G];exact EqAt.to (EqAt.int_int _ _ _ _) (by simp[zdc])
 refine EqAt.to (EqAt.of_refs ne (RcAt.tuples tx ty hu he)) ?_;have U:q.toArray.size=ns.length:=by rw[XX];exact N.length
 have Y:vs.toArray.size=ms.length:=by rw[XX];exact W.length
 rw[U,Y,zdb];intro z;rw[YU]at z;obtain⟨z1,z2⟩:=z;have hl:ns.length=ms.length:=by simpa using z2
 rw[zbg]at z1;refine F (zbI hl λj h1 h2=>?_);have:=of_decide_eq_true (z1 j (List.mem_range.mpr (by lia)));simpa[h1,h2]using this
def B6(h:Heap)(p a:Addr)(v:Value)(ns:List Int):Prop:=IsTup h p #[.ref a,v]/\TupI h a ns
theorem DI(hx:B6 s.heap p a u ns)(hy:B6 s.heap q b v ms)(F:ns≠ms)(G:A.units<cLine)(h:Q (HT.lexLt ns ms) s) :
  wpAny (model prog w) A (keyLt' (tuples' false) (.ref p) (.ref q)) Q E s:=by
 obtain⟨⟨ox,N,x2,n,Y⟩,tx⟩:=hx;obtain⟨⟨oy,J,y2,m,y3⟩,ty⟩:=hy;refine kat_lt N Y J y3 ?_;refine kat_cons (L9 tx ty F G prog w _ _ (kat_no ?_));obtain⟨us,U,i1⟩:=tx;obtain⟨ws,W,i2⟩:=ty;exact kat_one _ _ (HT.pA U W i1 i2 G h)
end
end My
namespace My
open PySem PySem.Spec PyProof.Rows L2 PySem.SeqAt
theorem obj_some(x:ObjOk P w H h a o):∃ob,h.get? a=some ob:=by
 cases o with
 | lst xs=>obtain⟨_,_,_,_,e⟩:=x;exact⟨_,e⟩
 | tup xs=>obtain⟨_,_,_,ob,e,_⟩:=x;exact⟨ob,e⟩
 | dK kvs=>obtain⟨_,_,_,_,ob,_,_,e,_⟩:=x;exact⟨ob,e⟩
 | dT kvs=>obtain⟨_,_,_,_,ob,_,_,e,_⟩:=x;exact⟨ob,e⟩
 | set S n=>obtain⟨ob,_,_,_,e,_⟩:=x;exact⟨ob,e⟩
 | ins C dx fs=>obtain⟨_,_,_,e,_⟩:=x;exact⟨_,e⟩
 | own y=>exact x
 | xd fs=>obtain⟨_,⟨ob,_,_,e,_⟩,_⟩:=x;exact⟨ob,e⟩
 | rng lo hi=>obtain⟨_,_,_,e⟩:=x;exact⟨_,e⟩
 | frz ob u=>obtain⟨e,_⟩:=x;exact⟨_,e⟩
 | tbl ps=>exact⟨_,(show h.get? a=some _ from x)⟩
 | met f y=>exact⟨_,(show h.get? a=some _ from x)⟩
 | ext φ=>exact x.2.1
theorem FT(I:Inv X pins σ H s)(keep:∀b o,b≠X.env.locals->s.heap.get? b=some o->h'.get? b=some o)(ns:∀m,s.heap.Ns X.env.locals m->h'.Ns X.env.locals m)
  (same:∀b o,s.heap.get? b=some o->H' b=H b) (new:∀b o,H b=none->H' b=some o->ObjOk X.prog X.w H' h' b o):Inv X pins σ H' {s with heap:=h',toks:=t'}:=by
 have nl:∀b o,H b=some o->b≠X.env.locals:=λb o e z=>by rw[z,I.free]at e;cases e
 have F:∀b o,H b=some o->H' b=some o:=λb o e=>by
  obtain⟨ob,q⟩:=obj_some (I.hok b o e);rw[same b ob q];exact e
 refine I.step (g':=s.gens) (d':=s.drawn) (ch:=[]) (λ_ z=>nomatch z) (λb o G _ _ e _=>keep b o G e) (λb o G _ _ e _=>⟨o.slots,keep b o G e⟩) (λb o _ e n=>by rw[same b o e];exact n) (λb o _ e=>?_)
  (λb xs e=>F b _ e) (λb o u e=>F b _ e) (λb ps e=>⟨#[],by rw[F b _ e];simp⟩) ns (λb u e=>?_) I.bare
 ·by_cases J:b=X.env.locals
  ·obtain⟨m,U,_⟩:=I.loc
   obtain⟨o',_,_,W,_⟩:=ns m U;exact⟨o',by rw[J];exact W⟩
  ·exact⟨o,keep b o J e⟩
 ·cases e0:H b with
  | some v=>
   have:v=u:=by
    have:=F b v e0;rw[e]at this;exact(YJ this).symm
   subst this;refine(I.hok b v e0).stay (λc v N q=>keep c v ?_ q) (λc q=>F c _ q) λc xs q=>F c _ q
   rcases N with z|z
   ·rw[z];exact nl b _ e0
   ·exact nl c _ z
  | none=>exact new b u e0 e
def kI(p:List Int×V):List Key×V:=(p.1.map X7,p.2)
theorem KC(ns:List Int):(ns.map (X7:Int->Key)).map kV=ns.map V.int:=by
 rw[ZH];rfl
def vV(q:List (List Int×V)):Prop:=q.Pairwise λa b=>HT.lexLt a.1 b.1=true
theorem wI:∀ {ns:List Int} {us:List Value},Vals (ns.map V.int) us->YX us ns:=λr=>L2.intsAre_of r
theorem vP{X:Cx}{pins:List (Addr×Obj)}{σ:L2.St}{H:Hp}{s:XE}{d:Addr}{ps:List (List Int×V)}(I:Inv X pins σ H s)(hd:Rd H d (.dT (ps.map kI))) :
  ps.length<=XQ/\(d == ZI)=false/\(ps.map (·.1)).Nodup/\∃es ep,RawD s.heap d es ep/\es.size=ps.length/\∀(j:Nat) (p:List Int×V),ps[j]?=some p->∃(e:Z6) (b:Addr),es[j]?=some e/\e.key=.ref b/\H b=some (.tup (p.1.map V.int))/\RelV p.2 e.val:=by
 obtain⟨z,y,xs,r,o,es,ep,h1,h2,U,N,J⟩:=(show ObjOk X.prog X.w H s.heap d (.dT (ps.map kI))from hd.ok I.hok);have hl:xs.length=ps.length:=by rw[<- zaE r,XR]
 have G:es.size=ps.length:=by
  have:=congrArg zay N;rw[ZJ,XR]at this
  lia
 have get:∀ {ps:List (List Int×V)} {xs:List (List Key×Addr×Value)},YQ (λ(p:List Key×V) (q:List Key×Addr×Value)=>p.1=q.1/\H q.2.1=some (.tup (p.1.map kV))/\RelV p.2 q.2.2) (ps.map kI) xs->
   ∀(j:Nat) (p:List Int×V),ps[j]?=some p->∃q,xs[j]?=some q/\(kI p).1=q.1/\H q.2.1=some (.tup ((kI p).1.map kV))/\RelV p.2 q.2.2:=by
  intro ps;induction ps with
  | nil=>intro xs r j p e;simp at e
  | cons p0 ps ih=>
   intro xs r j p e;rw[XW]at r;cases r with
   | cons h t=>
    cases j with
    | zero=>simp at e;subst e;exact⟨_,rfl,h⟩
    | succ j=>exact ih t j p (by simpa using e)
 have F:∀ {ps:List (List Int×V)} {xs:List (List Key×Addr×Value)},YQ (λ(p:List Key×V) (q:List Key×Addr×Value)=>p.1=q.1/\H q.2.1=some (.tup (p.1.map kV))/\RelV p.2 q.2.2) (ps.map kI) xs->
   xs.map (·.1)=ps.map λp=>p.1.map X7:=by
  intro ps;induction ps with
  | nil=>intro xs r;rw[zck]at r;cases r;rfl
  | cons p0 ps ih=>
   intro xs r;rw[XW]at r;cases r with
   | cons h t=>rw[XW,XW,ih t,<- h.1];rfl
 refine⟨by rw[XR]at z;exact z,y,?_,es,ep,⟨o,h1,h2,U⟩,G,λj p e=>?_⟩
 ·rw[F r]at J
  have:(ps.map λp=>p.1.map (X7:Int->Key))=(ps.map (·.1)).map λns=>ns.map X7:=by rw[ZH];rfl
  rw[this]at J;exact List.Pairwise.of_map _ (λa b h e=>h (by rw[e])) J
 ·obtain⟨q,W,e2,e3,e4⟩:=get r j p e
  have Y:es[j]?=some (entryOfKey (zad (bR X.prog X.w)) q):=by
   rw[<- zbs,N,YB,W];rfl
  exact⟨_,q.2.1,Y,rfl,by rw[e3];show some (HO.tup (((p.1.map X7):List Key).map kV))=_;rw[KC],e4⟩
theorem AK(I:Inv X pins σ H s)(h:H b=some (.tup (ns.map V.int))):TupI s.heap b ns:=by
 obtain⟨q,r,t,_⟩:=I.tuple (SqT.of h);exact⟨q,t,wI r⟩
theorem wR(J:PermR ps.length p)(hs:fL (NO (ps.map (·.1))) p ps.length) :
  (p.toList.map λi=>ps.getD i ([],.non)).Perm ps/\vV (p.toList.map λi=>ps.getD i ([],.non)):=by
 have U:(Y9 ps.length).map (λi=>ps.getD i ([],.non))=ps:=by
  apply zbI
  ·simp
  ·intro i h1 h2
   simp[h2]
 constructor
 ·have:=(Array.perm_iff_toList_perm.mp J).map λi=>ps.getD i (([],.non):List Int×V)
  rw[U]at this;exact this
 ·unfold vV
  rw[List.pairwise_map];rw[List.pairwise_iff_getElem];intro i j hi N q;have hsz:=J.size;rw[ZJ]at hi N;have h1:=hs i j q (by lia);have g:∀k (F:k<p.size),p.getD k 0=p.toList[k]'(by rw[ZJ];exact F):=λk F=>by simp[zbj,F]
  rw[g i hi,g j N]at h1;have G:∀k,(ps.map (·.1)).getD k []=(ps.getD k ([],.non)).1:=λk=>by
   by_cases h:k<ps.length
   ·simp[h]
   ·simp[Nat.le_of_not_lt h]
  unfold NO at h1;rw[G,G]at h1;exact h1
end My
namespace My
open PySem PySem.Spec PyProof.Rows L2 PySem.SeqAt PySem.W
theorem hW{q G F:Type}{R:G->F->Prop}{f:q->G}{g:q->F}:∀(l:List q),(∀i∈l,R (f i) (g i))->YQ R (l.map f) (l.map g)
 | [],_=>.nil
 | i::l,h=>.cons (h i (X8 ..)) (hW l λj J=>h j (YH _ J))
theorem iQ{F G:Type}{f:G->Value}{R:G->F->Prop}:∀(ps:List F) (vs:List Value),vs.length=ps.length->(∀(j:Nat) (p:F),ps[j]?=some p->∃b,vs[j]?=some (f b)/\R b p)->∃bs:List G,vs=bs.map f/\YQ R bs ps
 | [],[],_,_=>⟨[],rfl,.nil⟩
 | [],_::_,h,_=>by cases h
 | _::_,[],h,_=>by cases h
 | p::ps,v::vs,hl,h=>by
  obtain⟨b,e,r⟩:=h 0 p rfl;obtain⟨bs,J,N⟩:=iQ ps vs (by simpa using hl) λj q U=>h (j+1) q (by simpa using U)
  have:v=f b:=by simpa using e
  exact⟨b::bs,by rw[XW,<- J,this],.cons r N⟩
theorem iB{F q:Type}{R:F->q->Prop}:∀ {as:List F} {bs:List q},YQ R as bs->∀(j:Nat) (b:q),bs[j]?=some b->∃a,as[j]?=some a/\R a b
 | _,_,.nil,j,b,e=>by simp at e
 | _,_,.cons h t,0,b,e=>by simp at e;subst e;exact⟨_,rfl,h⟩
 | _,_,.cons h t,j+1,b,e=>iB t j b (by simpa using e)
section
variable {X:Cx}
def u5(el:Hp->V->List Int×V->Prop)(H:Hp)(ps:List (List Int×V))(Q:VK):Prop:=
 ∀(l:Addr) (us:List V) (qs:List (List Int×V)) (H2:Hp),Same H H2->H l=none->H2 l=some (.lst us)->YQ (el H2) us qs->qs.Perm ps->vV qs->Q (.ref l) H2
def WG:Hp->V->List Int×V->Prop:=λH u q=>∃b,u=.ref b/\H b=some (.tup (q.1.map V.int))
def WD:Hp->V->List Int×V->Prop:=λH u q=>∃a b,u=.ref a/\H a=some (.tup [.ref b,q.2])/\H b=some (.tup (q.1.map V.int))
theorem tH{pins:List (Addr×Obj)}{σ:L2.St}{H H1:Hp}{s:XE}{h1:Heap}{tk:Nat}{A:XS}{E:Value->XE->Prop}{Q:VK}{ps:List (List Int×V)}{as:List Addr}{el:Hp->V->List Int×V->Prop}{P:PySem.Fin->XE->Prop}
  (I:Inv X pins σ H s) (F:∀b o,s.heap.get? b=some o->h1.get? b=some o) (al:ps.length<64) (hn:(ps.map (·.1)).Nodup) (hl:as.length=ps.length)
  (J:∀b o,s.heap.get? b=some o->H1 b=H b) (U:∀b o,H1 b=some o->b<h1.objs.size)
  (ab:∀(b:Addr) (o:HO),H b=none->H1 b=some o->∀(h':Heap) (H':Hp),(∀c u,c≠h1.objs.size->c≠X.env.locals->h1.get? c=some u->h'.get? c=some u)->ObjOk X.prog X.w H' h' b o)
  (aq:∀(j:Nat) (p:List Int×V) (a:Addr),ps[j]?=some p->as[j]?=some a->∀H',Same H1 H'->el H' (.ref a) p)
  (af:2 <= ps.length -> ∀h':Heap, (∀b o, b≠h1.objs.size -> b≠X.env.locals -> h1.get? b = some o -> h'.get? b = some o) -> ∃κ, (∀Q':SortKind -> XE -> Prop, Q' κ {s with heap:=h', toks:=tk} -> wpAny (model X.prog X.w) A (keyKind' (as.map XN).toArray) Q' (λ_ _ => False) {s with heap:=h', toks:=tk}) /\
   ∀i j C,i<ps.length->j<ps.length->i≠j->C (NO (ps.map (·.1)) i j) {s with heap:=h',toks:=tk}->kas_ask X.prog X.w A κ (as.map XN) i j C {s with heap:=h',toks:=tk})
  (q:u5 el H ps Q) (hP:∀s',EP X pins σ Q (.ref h1.objs.size) s'->P (.done (.ret .none)) s') :
  wpAny (model X.prog X.w) A (ZL.«list.sort» ⟨[.ref h1.objs.size],[]⟩) P E {s with heap:=h1.push (YM "list" (as.map XN).toArray 0),toks:=tk}:=by
 obtain⟨m,Y,_⟩:=id I.loc;have G:(as.map XN).length=ps.length:=by rw[XR,hl]
 have ag:X.env.locals<h1.objs.size:=by
  obtain⟨o,_,_,e,_⟩:=id Y;exact XO (F _ o e)
 have aj:(h1.push (YM "list" (as.map XN).toArray 0)).Ns X.env.locals m:=Y.at' λo e=>XT _ (F _ o e)
 have O:Ord (as.map XN).length (NO (ps.map (·.1))):=by
  rw[G,<- XR (f:=(·.1)) (as:=ps)];exact GU hn
 have ac:H h1.objs.size=none:=by
  cases e:H h1.objs.size with
  | none=>rfl
  | some o=>
   obtain⟨ob,z⟩:=obj_some (I.hok _ o e);exact absurd (XO (F _ ob z)) (ZN _)
 have aa:H1 h1.objs.size=none:=by
  cases e:H1 h1.objs.size with
  | none=>rfl
  | some o=>exact absurd (U _ o e) (ZN _)
 refine GJ (lt:=NO (ps.map (·.1))) (n:=0) (L:=X.env.locals) (m:=m) (s:={s with heap:=h1.push (YM "list" (as.map XN).toArray 0),toks:=tk}) O aj (X9 _ rfl) (YS ag) (by rw[G];exact al) (λh2 h' k=>?_) λp h' c hp hs am W ao=>?_
 ·rw[G]at h2
  obtain⟨κ,k1,k2⟩:=af h2 h' λb o hb hL e=>k b o hb hL (XT _ e)
  exact⟨κ,k1,λi j C hi hj=>k2 i j C (by rw[G]at hi;exact hi) (by rw[G]at hj;exact hj)⟩
 ·rw[G]at hp hs
  obtain⟨g1,g2⟩:=wR hp hs;have N:∀c u,c≠h1.objs.size->c≠X.env.locals->h1.get? c=some u->h'.get? c=some u:=λc u ap an e=>W c u ap an (XT _ e)
  have lt:∀i∈p.toList,i<ps.length:=λi hi=>by
   have:=(Array.perm_iff_toList_perm.mp hp).mem_iff.mp hi;simpa using this
  have ga:∀i,i<ps.length->as[i]?=some (as.getD i 0)/\ps[i]?=some (ps.getD i ([],.non))/\(as.map XN).getD i X4=.ref (as.getD i 0):=λi hi=>by
   have h1:i<as.length:=by lia
   refine⟨by simp[h1],by simp[hi],by simp[h1]⟩
  have ah:Same H (upd H1 h1.objs.size (.lst (p.toList.map λi=>V.ref (as.getD i 0)))):=λb o e=>by
   obtain⟨ob,z⟩:=obj_some (I.hok b o e);rw[aL (bM e ac),J b ob z];exact e
  have ai:Same H1 (upd H1 h1.objs.size (.lst (p.toList.map λi=>V.ref (as.getD i 0)))):=xQ aa;have I2:Inv X pins σ (upd H1 h1.objs.size (.lst (p.toList.map λi=>V.ref (as.getD i 0)))) {s with heap:=h',toks:=tk}:=by
   refine FT I (λb o hL e=>N b o (λz=>absurd (XO (F b o e)) (by rw[z];exact ZN _)) hL (F b o e)) (λm' ak=>?_) (λb o e=>?_) (λb o n e=>?_)
   ·obtain⟨o1,bf,bc,e1,d1,r1⟩:=Y
    obtain⟨o2,a5,bl,e2,d2,r2⟩:=ak;rw[e1]at e2;cases e2;rw[d1]at d2;injection d2 with d3 d4
    subst d3 d4;have:m=m':=funext λx=>by rw[<- r1.2 x,<- r2.2 x]
    rw[<- this];exact ao
   ·rw[aL (λz=>absurd (XO (F b o e)) (by rw[z];exact ZN _))]
    exact J b o e
   ·by_cases hb:b=h1.objs.size
    ·subst hb
     rw[aN]at e;cases e;refine⟨?_,_,c,?_,am⟩
     ·rw[XR,ZJ,hp.size,zaH]
      lia
     ·show Vals _ (p.toList.map λi=>(as.map XN).getD i X4)
      exact hW p.toList λi hi=>by
       show(as.map XN).getD i X4=XN (as.getD i 0);exact(ga i (lt i hi)).2.2
    ·rw[aL hb]at e
     exact ab b o n e h' _ N
  refine hP _ ⟨.ref h1.objs.size,_,I2,rfl,q _ _ _ _ ah ac aN (hW p.toList λi hi=>?_) g1 g2⟩;obtain⟨a1,a2,_⟩:=ga i (lt i hi);exact aq i _ _ a2 a1 _ ai
theorem GZ{A:XS}{κ:SortKind}{as:List Addr}{i j:Nat}{C:Bool->XE->Prop}{s:XE}(hi:i<as.length)(G:j<as.length)(h:wpAny (model X.prog X.w) A (keyLt' κ (.ref (as.getD i 0)) (.ref (as.getD j 0))) C (λ_ _=>False) s):kas_ask X.prog X.w A κ (as.map XN) i j C s:=by
 unfold kas_ask;have F:(as.map XN).getD i X4=.ref (as.getD i 0):=by simp[hi]
 have q:(as.map XN).getD j X4=.ref (as.getD j 0):=by simp[G]
 rw[F,q];exact h
theorem kQ:∀ {as:List Addr} {fs:List Value},YQ (λa f=>∃q:List Value,IsTup h a q.toArray/\q[0]?=some f) as fs->KatTups h (as.map XN) fs
 | _,_,.nil=>.nil
 | _,_,.cons ⟨q,⟨o,e,c,n,d⟩,z⟩ t=>KatTups.cons e c d (by simpa using z) (kQ t)
theorem uU(hc:X.calm=true):CallR X (.builtin "sorted") (λxs H Q=>∃d ps,xs=[.ref d]/\Rd H d (.dT (ps.map kI))/\ps.length<64/\(∀p∈ps,p.1≠[])/\u5 WG H ps Q):=by
 intro pins s σ H xs us Q I r h;obtain⟨d,ps,rfl,hd,al,N,q⟩:=h;obtain⟨u,rfl,ru⟩:=vals1 r;cases ru;obtain⟨hz,au,aq,es,ep,ar,ac,ae⟩:=vP I hd;refine Calls.call_function_entry kind_sorted plain_sorted entry_sorted (args_sorted1 _) ?_;unfold ZL.«sorted»;refine XD (m:=checkCount "sorted" 1 1 _) (XJ (XD (kdu_collect (F9 au es ep) (I.ok.hd hc) ar (by rw[ac];exact hz) λh1 tk G F items=>?_)));obtain⟨ap,ig⟩:=items;have an:G.toList.length=ps.length:=by rw[ZJ,ap,ac]
 obtain⟨bs,ao,Y⟩:=iQ (f:=XN) (R:=λb (p:List Int×V)=>H b=some (.tup (p.1.map V.int))) ps G.toList an λj p hp=>by
  obtain⟨e,b,U,e2,e3,_⟩:=ae j p hp;have hj:j<G.size:=by
   have:=(List.getElem?_eq_some_iff.mp hp).1
   lia
  obtain⟨e',e4,e5⟩:=ig j G[j] (by simp[hj]);rw[U]at e4;cases e4;exact⟨b,by rw[zbs];simp[hj,<- e5,e2],e3⟩
 have J:bs.length=ps.length:=zaE Y;rw[ao];refine XD (zcF ?_ (by rw[XR,J];exact hz));have ag:(h1.push (YM "list" (bs.map XN).toArray 0)).get? h1.objs.size=some (YM "list" (bs.map XN).toArray 0):=X9 _ rfl;show wpAny _ _ _ _ _ {s with heap:=h1.push (YM "list" (bs.map XN).toArray 0),toks:=tk};refine XD (Y1 (ZM slot_list_sort ⟨_,ag,rfl⟩ entry_list_sort ?body (args_list_sort _)))
 case body=>
  refine tH (H1:=H) (el:=WG) (Q:=Q) I F al aq J (λ_ _ _=>rfl) (λb o e=>?_) (λb o n e=>absurd (n.symm.trans e) (by simp)) (λj p a hp ha H' sm=>?_) (λh2 h' k=>?_) q λs' hE=>⟨_,rfl,XJ ⟨_,rfl,hE⟩⟩
  ·obtain⟨ob,z⟩:=obj_some (I.hok b o e)
   exact XO (F b ob z)
  ·obtain⟨a',U,e2⟩:=iB Y j p hp
   rw[ha]at U;cases U;exact⟨a,rfl,sm _ _ e2⟩
  ·have tI:∀(j:Nat) (p:List Int×V),ps[j]?=some p->∃b,bs[j]?=some b/\TupI h' b p.1:=λj p hp=>by
    obtain⟨b,U,e2⟩:=iB Y j p hp;refine⟨b,U,(AK I e2).at' λo e=>k b o ?_ ?_ (F b o e)⟩
    ·exact λz=>absurd (XO (F b o e)) (by rw[z];exact ZN _)
    ·exact λz=>by rw[z,I.free]at e2;cases e2
   refine⟨tuples' (zac "int" != zac "tuple"),λQ' q'=>?_,λi j C hi hj bn hC=>?_⟩
   ·have first:∀ {bs:List Addr} {ps:List (List Int×V)},bs.length=ps.length->(∀(j:Nat) (p:List Int×V),ps[j]?=some p->∃b,bs[j]?=some b/\TupI h' b p.1)->(∀p∈ps,p.1≠[])->∃fs:List Value,YQ (λa f=>∃W:List Value,IsTup h' a W.toArray/\W[0]?=some f) bs fs/\∀v∈fs,∃i t,v=.int i t:=by
     intro bs;induction bs with
     | nil=>intro ps hl _ _;exact⟨[],.nil,λ_ h=>nomatch h⟩
     | cons b bs ih=>
      intro ps hl ht hn;cases ps with
      | nil=>cases hl
      | cons p ps=>
       obtain⟨fs,f1,f2⟩:=ih (ps:=ps) (by simpa using hl) (λj q hq=>ht (j+1) q (by simpa using hq)) λq hq=>hn q (YH _ hq)
       obtain⟨b',U,W,t1,i1⟩:=ht 0 p rfl;have:b'=b:=by simpa using U.symm
       subst this;have N:=hn p (X8 ..);obtain⟨ns,pv⟩:=p;dsimp only at i1 N;cases i1 with
       | nil=>exact absurd rfl N
       | cons n t r=>exact⟨.int n t::fs,.cons ⟨_,t1,rfl⟩ f1,λv hv=>(List.mem_cons.mp hv).elim (λz=>⟨n,t,z⟩) (f2 v)⟩
    obtain⟨fs,f1,f2⟩:=first J tI N
    refine kat_kind (s:={s with heap:=h',toks:=tk}) (kQ f1) (by rw[<- zaE f1,J];lia) (λv hv=>?_) (by decide) q';obtain⟨i,t,rfl⟩:=f2 v hv;exact Looks.of_pure rfl
   ·have ai:i<bs.length:=by lia
    have aj:j<bs.length:=by lia
    refine GZ ai aj ?_;obtain⟨x,x1,x2⟩:=tI i _ (Y6 hi);obtain⟨y,y1,y2⟩:=tI j _ (Y6 hj);have ex:bs.getD i 0=x:=by simp[Z8,x1]
    have ey:bs.getD j 0=y:=by simp[Z8,y1]
    rw[ex,ey];refine GO (s:={s with heap:=h',toks:=tk}) x2 y2 ?_;unfold NO at hC;have k1:(ps.map (·.1)).getD i []=ps[i].1:=by simp[hi]
    have k2:(ps.map (·.1)).getD j []=ps[j].1:=by simp[hj]
    rw[k1,k2]at hC;exact hC
def HJ:V->List V->Hp->VK->Prop:=λx vs H Q=>∃d kvs,x=.ref d/\vs=[]/\Rd H d (.dT kvs)/\∀r,H r=none->Q (.ref r) (upd H r (.ext λh=>h.IsItemsView r d))
theorem GG:US X "dict.items" HJ:=by
 intro pins s σ H x vs v us Q I rx U h;obtain⟨d,kvs,rfl,rfl,Y,q⟩:=h;cases rx;have G:=U.zero;subst G;obtain⟨z,y,xs,r,o,es,ep,h1,h2,h3,_⟩:=(show ObjOk X.prog X.w H s.heap d (.dT kvs)from Y.ok I.hok);have J:s.TypeIs (.ref d) "dict" := ⟨o,h1,h2.1⟩;refine ZM PySem.F.slot_dict_items J PySem.F.entry_dict_items ?_ (PySem.F.args_dict_items_1 _);unfold ZL.«dict.items»;refine XD ?_;unfold Builtin.Dict.noArgs;refine XD (wpAny_notOrdered_dict J ?_);show wpAny _ _ (pure d) _ _ s;refine XJ ?_;show wpAny _ _ (zcs d >>= _) _ _ s;unfold zcs;rw[if_neg (by rw[y];exact XZ)];refine XD (XJ (XD (ZD (XJ ⟨_,rfl,?_⟩))));have hn:H s.heap.objs.size=none:=I.fresh;refine⟨.ref s.heap.objs.size,_,I.laid (t':=s.toks) (o:=.ext λh=>h.IsItemsView s.heap.objs.size d) (λ_ _ q=>XT _ q) (XU _) ⟨⟨_,X9 _ rfl,rfl,rfl⟩,⟨_,X9 _ rfl⟩,λa b ⟨o,N,W⟩ k=>⟨o,k o N,W⟩⟩,rfl,q _ hn⟩
def ED(H:Hp)(as:List Addr)(ds:List (List V)):Hp:=λb=>match as.findIdx? (λa=>decide (a=b))with
 | some j=>some (.tup (ds.getD j []))
 | none=>H b
theorem lQ(h:¬ b∈as):ED H as ds b=H b:=by
 unfold ED;have:as.findIdx? (λa=>decide (a=b))=none:=by
  rw[List.findIdx?_eq_none_iff];intro a q;exact decide_eq_false λe=>h (e ▸ q)
 rw[this]
theorem BF(h:b∈as):∃j,as[j]?=some b/\ED H as ds b=some (.tup (ds.getD j [])):=by
 unfold ED;cases e:as.findIdx? (λa=>decide (a=b))with
 | none=>
  rw[List.findIdx?_eq_none_iff]at e;have:=e b h;simp at this
 | some j=>
  rw[List.findIdx?_eq_some_iff_getElem]at e;obtain⟨h1,h2,_⟩:=e;exact⟨j,by rw[Y6 h1,of_decide_eq_true h2],rfl⟩
theorem uM(hc:X.calm=true)(hu:X.A.units+64<cLine):CallR X (.builtin "sorted") (λxs H Q=>∃r d ps,xs=[.ref r]/\H r=some (.ext λh=>h.IsItemsView r d)/\Rd H d (.dT (ps.map kI))/\ps.length<64/\u5 WD H ps Q):=by
 intro pins s σ H xs us Q I rr h;obtain⟨r,d,ps,rfl,hr,hd,ba,q⟩:=h;obtain⟨u,rfl,ru⟩:=vals1 rr;cases ru;obtain⟨hz,ci,ap,es,ep,bh,an,al⟩:=vP I hd;have hv:s.heap.IsItemsView r d:=(I.hok r _ hr).1;have nL:∀ {b:Addr} {o:HO},H b=some o->b≠X.env.locals:=λe z=>by rw[z,I.free]at e;cases e
 refine Calls.call_function_entry kind_sorted plain_sorted entry_sorted (args_sorted1 _) ?_;unfold ZL.«sorted»;refine XD (m:=checkCount "sorted" 1 1 _) (XJ (XD (uQ (I.ok.hd hc) hv bh (by rw[an];exact hz) λh1 tk as J bb ae=>?_)));have F:as.length=ps.length:=by rw[bb,an]
 obtain⟨bs,be,ax⟩:=iQ (f:=XN) (R:=λb (p:List Int×V)=>H b=some (.tup (p.1.map V.int))) ps (es.toList.map (·.key)) (by rw[XR,ZJ,an]) λj p hp=>by
  obtain⟨e,b,e1,e2,e3,_⟩:=al j p hp;exact⟨b,by rw[YB,zbs,e1];exact congrArg some e2,e3⟩
 have ao:bs.length=ps.length:=zaE ax
 -- the j-th pair
 have G:∀(j:Nat) (p:List Int×V),ps[j]?=some p->∃a b v,as[j]?=some a/\bs[j]?=some b/\H b=some (.tup (p.1.map V.int))/\RelV p.2 v/\s.heap.objs.size<a/\h1.get? a=some {cls:=.type "tuple",data:=.seq #[.ref b,v]}:=λj p hp=>by
  obtain⟨e,b,e1,e2,e3,e4⟩:=al j p hp;have N:j<ps.length:=(List.getElem?_eq_some_iff.mp hp).1;obtain⟨b',f1,f2⟩:=iB ax j p hp;have aw:as[j]?=some (as[j]'(by lia)):=Y6 (by lia);obtain⟨e',g1,g2⟩:=ae.pair j _ aw;rw[e1]at g1;cases g1;have hb:b=b':=by
   have z:(es.toList.map (·.key))[j]?=some (.ref b):=by rw[YB,zbs,e1];exact congrArg some e2
   rw[be,YB,f1]at z;have:=YJ z;injection this with this
   exact this.symm
  subst hb;exact⟨_,b,e.val,aw,f1,e3,e4,ae.above _ (zbQ _),by rw[g2,e2]⟩
 have af:∀(i j:Nat) (a:Addr),as[i]?=some a->as[j]?=some a->i=j:=λi j a hi N=>by
  have li:i<ps.length:=by rw[<- F];exact(List.getElem?_eq_some_iff.mp hi).1
  have lj:j<ps.length:=by rw[<- F];exact(List.getElem?_eq_some_iff.mp N).1
  obtain⟨a1,b1,v1,U,_,x2,_,_,x3⟩:=G i _ (Y6 li);obtain⟨a2,b2,v2,y1,_,Y,_,_,y3⟩:=G j _ (Y6 lj);rw[hi]at U;cases U;rw[N]at y1;cases y1;rw[x3]at y3;injection y3 with y3
  injection y3 with _ _ y3 _
  injection y3 with y3 _
  have hb:b1=b2:=by
   have:=congrArg (λz:Array Value=>z[0]?) y3;simpa using this
  subst hb;rw[x2]at Y;injection Y with Y
  injection Y with Y
  have:ps[i].1=ps[j].1:=by
   have inj:∀ {a b:List Int},a.map V.int=b.map V.int->a=b:=by
    intro a;induction a with
    | nil=>intro b h;cases b with
     | nil=>rfl
     | cons _ _=>cases h
    | cons x xs ih=>intro b h;cases b with
     | nil=>cases h
     | cons y ys=>
      rw[XW,XW]at h;injection h with h1 h2
      injection h1 with h1
      rw[h1,ih h2]
   exact inj Y
  have e1:(ps.map (·.1))[i]'(by rw[XR];exact li)=(ps.map (·.1))[j]'(by rw[XR];exact lj):=by simpa using this
  exact(zbx ap).mp e1
 have ar:∀(j:Nat) (p:List Int×V) (b:Addr),ps[j]?=some p->bs[j]?=some b->((bs.zip ps).map λx=>[V.ref x.1,x.2.2]).getD j []=[V.ref b,p.2]:=λj p b h1 h2=>by
  have:((bs.zip ps).map λx=>[V.ref x.1,x.2.2])[j]?=some [V.ref b,p.2]:=by
   rw[YB,(List.getElem?_zip_eq_some (z:=(b,p))).mpr ⟨h2,h1⟩];rfl
  simp[Z8,this]
 have am:∀b o,s.heap.get? b=some o->¬ b∈as:=λb o e hb=>absurd (XO e) (Nat.not_lt.mpr (zb4 (ae.above b hb)))
 have ay:Same H (ED H as ((bs.zip ps).map λx=>[V.ref x.1,x.2.2])):=λb o e=>by
  obtain⟨ob,z⟩:=obj_some (I.hok b o e);rw[lQ (am b ob z)];exact e
 refine XD (zcF ?_ (by rw[XR,F];exact hz));have a3:(h1.push (YM "list" (as.map XN).toArray 0)).get? h1.objs.size=some (YM "list" (as.map XN).toArray 0):=X9 _ rfl;show wpAny _ _ _ _ _ {s with heap:=h1.push (YM "list" (as.map XN).toArray 0),toks:=tk};refine XD (Y1 (ZM slot_list_sort ⟨_,a3,rfl⟩ entry_list_sort ?body (args_list_sort _)))
 case body=>
  refine tH (H1:=ED H as ((bs.zip ps).map λx=>[V.ref x.1,x.2.2])) (el:=WD) (Q:=Q) I J ba ap F (λb o e=>lQ (am b o e)) (λb o e=>?_) (λb o n e h' H' k=>?_) (λj p a hp ha H' sm=>?_) (λh2 h' k=>?_) q λs' hE=>⟨_,rfl,XJ ⟨_,rfl,hE⟩⟩
  ·by_cases hb:b∈as
   ·obtain⟨j,N⟩:=List.mem_iff_getElem?.mp hb
    have lj:j<ps.length:=by rw[<- F];exact(List.getElem?_eq_some_iff.mp N).1
    obtain⟨a,b',v,U,_,_,_,_,x3⟩:=G j _ (Y6 lj);rw[N]at U;cases U;exact XO x3
   ·rw[lQ hb]at e
    obtain⟨ob,z⟩:=obj_some (I.hok b o e);exact XO (J b ob z)
  ·have hb:b∈as:=zaq λz=>by rw[lQ z,n]at e;cases e
   obtain⟨j,N,e2⟩:=BF (H:=H) (ds:=(bs.zip ps).map λx=>[V.ref x.1,x.2.2]) hb;rw[e2]at e;cases e;have lj:j<ps.length:=by rw[<- F];exact(List.getElem?_eq_some_iff.mp N).1
   obtain⟨a,b',v,U,x2,_,x4,x5,x3⟩:=G j _ (Y6 lj);rw[N]at U;cases U;rw[ar j _ b' (Y6 lj) x2];have au:b≠X.env.locals:=YS (zbf I.lt x5);exact⟨by show 2<=XQ;decide,[.ref b',v],.cons rfl (.cons x4 .nil),_,k b _ (YA (XO x3)) au x3,rfl,0,rfl,rfl⟩
  ·obtain⟨a',b,v,U,x2,x3,x4,_,_⟩:=G j p hp
   rw[ha]at U;cases U;obtain⟨j',a4,e2⟩:=BF (H:=H) (as:=as) (ds:=(bs.zip ps).map λx=>[V.ref x.1,x.2.2]) (YO ha);have:=af j' j a a4 ha;subst this;rw[ar j' p b hp x2]at e2;exact⟨a,b,rfl,sm _ _ e2,sm _ _ (ay _ _ x3)⟩
  ·have pI:∀(j:Nat) (p:List Int×V),ps[j]?=some p->∃a b v,as[j]?=some a/\bs[j]?=some b/\B6 h' a b v p.1:=λj p hp=>by
    obtain⟨a,b,v,U,x2,x3,x4,x5,x6⟩:=G j p hp;refine⟨a,b,v,U,x2,⟨_,k a _ (YA (XO x6)) (YS (zbf I.lt x5)) x6,rfl,0,rfl⟩,(AK I x3).at' λo e=>k b o ?_ (nL x3) (J b o e)⟩;exact λz=>absurd (XO (J b o e)) (by rw[z];exact ZN _)
   refine⟨tuples' (zac "tuple" != zac "tuple"),λQ' q'=>?_,λi j C hi N bf hC=>?_⟩
   ·have pr:YQ (λa (f:Value)=>∃W:List Value,IsTup h' a W.toArray/\W[0]?=some f) as (bs.map XN):=by
     have:∀ {as bs:List Addr} {ps:List (List Int×V)},as.length=ps.length->bs.length=ps.length->(∀(j:Nat) (p:List Int×V),ps[j]?=some p->∃a b v,as[j]?=some a/\bs[j]?=some b/\B6 h' a b v p.1)->YQ (λa (f:Value)=>∃W:List Value,IsTup h' a W.toArray/\W[0]?=some f) as (bs.map XN):=by
      intro as;induction as with
      | nil=>intro bs ps h1 h2 _;cases ps with
       | nil=>cases bs with
        | nil=>exact .nil
        | cons _ _=>cases h2
       | cons _ _=>cases h1
      | cons a as ih=>intro bs ps h1 h2 h3;cases ps with
       | nil=>cases h1
       | cons p ps=>cases bs with
        | nil=>cases h2
        | cons b bs=>
         obtain⟨a',b',v,y1,Y,y3,_⟩:=h3 0 p rfl;have e1:a'=a:=by simpa using y1.symm
         have e2:b'=b:=by simpa using Y.symm
         subst e1 e2;exact .cons ⟨[.ref b',v],y3,rfl⟩ (ih (by simpa using h1) (by simpa using h2) λj q hq=>h3 (j+1) q (by simpa using hq))
     exact this F ao pI
    refine kat_kind (s:={s with heap:=h',toks:=tk}) (kQ pr) (by rw[XR,ao];lia) (λv hv=>?_) (by decide) q';obtain⟨b,hb,rfl⟩:=List.mem_map.mp hv;obtain⟨j,N⟩:=List.mem_iff_getElem?.mp hb;have lj:j<ps.length:=by rw[<- ao];exact(List.getElem?_eq_some_iff.mp N).1
    obtain⟨a,b',v,_,Y,_,W,⟨o,e1,e2,_⟩,_⟩:=pI j _ (Y6 lj);rw[N]at Y;cases Y;rw[<- e2];exact(show Looks _ h' (zao (.ref b)) o.cls from(Looks.ld e1).andThen .now)
   ·refine GZ (by lia) (by lia) ?_
    obtain⟨x,b1,v1,U,_,x2⟩:=pI i _ (Y6 hi);obtain⟨y,b2,v2,y1,_,Y⟩:=pI j _ (Y6 N);have ex:as.getD i 0=x:=by simp[Z8,U]
    have ey:as.getD j 0=y:=by simp[Z8,y1]
    rw[ex,ey];have bg:ps[i].1≠ps[j].1:=λz=>bf (by
     have e1:(ps.map (·.1))[i]'(by rw[XR];exact hi)=(ps.map (·.1))[j]'(by rw[XR];exact N):=by simpa using z
     exact(zbx ap).mp e1)
    refine DI (s:={s with heap:=h',toks:=tk}) x2 Y bg (by show X.A.units+1+1<cLine;lia) ?_;unfold NO at hC;have k1:(ps.map (·.1)).getD i []=ps[i].1:=by simp[hi]
    have k2:(ps.map (·.1)).getD j []=ps[j].1:=by simp[N]
    rw[k1,k2]at hC;exact hC
end
theorem D2{prog:XM}{w:World}{A:XS}{E:Value->XE->Prop}{s:XE}{t J:Addr}{items:Array Value}{U W:Value}{lo hi:Option Int}{Q:Value->XE->Prop}(q:IsTup s.heap t items)(hs:s.heap.IsSliceOf J U W .none)(pl:zaj U lo)(pu:zaj W hi)
  (hw:HT.sIx items.size 0 lo=0/\HT.sIx items.size items.size hi=items.size) (h:Q (.ref t) s):wpAny (model prog w) A (zak (.ref t) (.ref J)) Q E s:=by
 obtain⟨os,G,F,Y⟩:=id hs;have tt:s.TypeIs (.ref J) "slice" := ⟨os,G,F⟩;unfold zak;try with_reducible refine Y1 ?_
 first|refine XD (XJ ?_)|skip
 refine XD (wpAny_sequenceKey q.typeIs (by decide) ?_);refine XD (zal (name:=zam "__getitem__") q.typeIs zch (ZM zch q.typeIs entry_tuple_getitem ?_ (args_tuple_getitem _ _)));show wpAny _ _ (Builtin.Tuple.tupleItemsOf (.ref t) >>= _) _ _ s;refine XD (tupleItemsOf_ q (XD (zci tt ?_)));rw[if_pos (by decide)];refine XD (HT.gL hs pl pu ?_);have N:(((HT.sIx items.size 0 lo:Nat):Int) == 0 && (1:Int) == 1 && (HT.sIx items.size items.size hi-HT.sIx items.size 0 lo) == items.size)=true:=by
  rw[hw.1,hw.2];simp
 show wpAny _ _ (if(((HT.sIx items.size 0 lo:Nat):Int) == 0 && (1:Int) == 1 && (HT.sIx items.size items.size hi-HT.sIx items.size 0 lo) == items.size)=true then _ else _) _ _ s;rw[if_pos N];refine XD (m:=Builtin.Tuple.tupleIsExact _) ?_;unfold Builtin.Tuple.tupleIsExact;refine XD (zci q.typeIs (XJ ?_));rw[if_pos (by decide)];exact XD (wpAny_rule (XJ ⟨_,rfl,XJ h⟩))
section
variable {X:Cx}
def T8(K:XF):V->Option Int->Option Int->Hp->VK->Prop:=λx lo hi H Q=>∃a xs,x=.ref a/\SqT K H a xs/\(HT.sIx xs.length 0 lo=0/\HT.sIx xs.length xs.length hi=xs.length)/\Q (.ref a) H
theorem MB:SlR X (T8 X.K):=by
 intro pins s σ H x v vl vu lo hi sl Q I U hs Y N h;obtain⟨a,xs,rfl,W,hw,q⟩:=h;cases U;obtain⟨G,r,J,hz⟩:=I.tuple W;have F:G.toArray.size=xs.length:=by rw[XX];exact r.length.symm
 exact⟨"tuple",_,PyProof.Rows.slot_tuple_getitem.lookup,J.typeIs,D2 J hs Y N (by rw[F];exact hw) ⟨.ref a,H,I,rfl,q⟩⟩
theorem MD:SlR X (λx lo hi H Q=>TZ X.K x lo hi H Q\/T8 X.K x lo hi H Q):=OA.or MB
end
theorem qT(x:ObjOk P w H h d (.dT kvs)):(d == ZI)=false/\kvs.length<=XQ/\∃es ep,RawD h d es ep/\es.size=kvs.length /\
  ∀(j:Nat) (p:List Key×V),kvs[j]?=some p->∃(e:Z6) (b:Addr),es[j]?=some e/\e.key=.ref b/\H b=some (.tup (p.1.map kV))/\RelV p.2 e.val/\e.hash=(zad (bR P w)).hash p.1:=by
 obtain⟨z,y,xs,r,o,es,ep,h1,h2,J,G,h5⟩:=x;have hl:xs.length=kvs.length:=(zaE r).symm;have F:es.size=kvs.length:=by
  have:=congrArg zay G;rw[ZJ,XR]at this
  lia
 have get:∀ {kvs:List (List Key×V)} {xs:List (List Key×Addr×Value)},YQ (λ(p:List Key×V) (q:List Key×Addr×Value)=>p.1=q.1/\H q.2.1=some (.tup (p.1.map kV))/\RelV p.2 q.2.2) kvs xs->
   ∀(j:Nat) (p:List Key×V),kvs[j]?=some p->∃q,xs[j]?=some q/\p.1=q.1/\H q.2.1=some (.tup (p.1.map kV))/\RelV p.2 q.2.2:=by
  intro kvs xs r;induction r with
  | nil=>intro j p e;simp at e
  | cons h t ih=>
   intro j p e;cases j with
   | zero=>simp at e;subst e;exact⟨_,rfl,h⟩
   | succ j=>exact ih j p (by simpa using e)
 refine⟨y,z,es,ep,⟨o,h1,h2,J⟩,F,λj p e=>?_⟩;obtain⟨q,N,W,e3,Y⟩:=get r j p e;have U:es[j]?=some (entryOfKey (zad (bR P w)) q):=by
  rw[<- zbs,G,YB,N];rfl
 exact⟨_,q.2.1,U,rfl,e3,Y,by show(zad (bR P w)).hash q.1=_;rw[W]⟩
def UK(d:Addr)(o:Obj)(kvs:List (List Key×V)):It:=
 ⟨λi H=>H d=some (.frz o (.dT kvs))/\i<kvs.length,λi H x H'=>H'=H/\∃k v b,kvs[i]?=some (k,v)/\x=.ref b/\H b=some (.tup (k.map kV)),λi H=>H d=some (.frz o (.dT kvs))/\kvs.length<=i⟩
theorem DA{P:XM}{w:World}{K:XF}{tg:Expr}(d it:Addr)(o:Obj)(kvs:List (List Key×V))(es:Array Z6)(ep:Nat)(Y:o.data=.dict es ep)(ap:es.size=kvs.length):Turn P w K tg (UK d o kvs) [it] it (λi h=>h.IsKeyIter it d i es.size ep) where
 mem:=by simp
 obj:=λi h st b F=>by
  have e:b=it:=by simpa using F
  subst e;obtain⟨o,U,e2,e3⟩:=st;exact⟨o,U,λv z=>by rw[e3]at z;cases z⟩
 keep:=λi h h' st k=>st.at λo e=>k it (by simp) o e
 item:=by
  intro X hP hw hK hc i pins s σ H E I W st hg;subst hP hw hK;obtain⟨h1,h2⟩:=hg;obtain⟨g1,g2⟩:=(show ObjOk X.prog X.w H s.heap d (.frz o (.dT kvs))from I.hok d _ h1);obtain⟨_,_,am,af,⟨o',N,r2,r3⟩,G,q⟩:=qT g2;rw[g1]at N;cases N;rw[Y]at r3;injection r3 with r4 r5
  subst r4 r5;obtain⟨f0,f1,f2,f3,f4,f5⟩:=W it (by simp);have hi:i<es.size:=by lia
  refine xS st ⟨o,g1,r2,Y⟩ hi λh' J sb=>?_
  have I1:Inv X pins σ H {s with heap:=h'}:=I.turned (t':=s.toks) (λb o F e=>(sb.2 b F).trans e) f0 f1 f3 f4 f5;obtain⟨e,b,U,e2,e3,_⟩:=q i _ (Y6 h2);have ee:es[i]=e:=by
   rw[zdf hi]at U;exact YJ U
  obtain⟨o2,q1,q2,q3⟩:=id J;refine⟨_,rfl,rF (s:={s with heap:=h'}) (n := "dict_keyiterator") q1 q2 q3 (by decide) ⟨.ref b,H,I1,?_,⟨rfl,kvs[i].1,kvs[i].2,b,Y6 h2,rfl,e3⟩,J,λc F=>(W c F).1⟩⟩;rw[ee,e2];rfl
 done:=by
  intro X hP hw hK hc i pins s σ H E I W st hg;subst hP hw hK;obtain⟨h1,h2⟩:=hg;obtain⟨g1,g2⟩:=(show ObjOk X.prog X.w H s.heap d (.frz o (.dT kvs))from I.hok d _ h1);obtain⟨_,_,am,af,⟨o',N,r2,r3⟩,G,q⟩:=qT g2;rw[g1]at N;cases N;obtain⟨f0,f1,f2,f3,f4,f5⟩:=W it (by simp);exact BG (I.ok.hd hc) st ⟨o,g1,r2,Y⟩ (by lia) λh' eb=>⟨rfl,I.turned (t':=s.toks) (λb o F e=>eb b o F e) f0 f1 f3 f4 f5⟩
 self:=λ_ _ _ _ _ st h=>wpAny_pyIter_keyiter st h
theorem zH(I:Inv X pins σ H s)(F:H d=some (.dT kvs))(N:s.heap.get? d=some o):Inv X pins σ (upd H d (.frz o (.dT kvs))) s:=by
 have ne:∀b u,H b=some u->(∀z,u≠.dT z)->b≠d:=λb u e n z=>by
  subst z;rw[F]at e;exact n kvs (YJ e).symm
 have J:=I.un (h':=s.heap) (t':=s.toks) (H':=upd H d (.frz o (.dT kvs))) ⟨λb u q _ _ _=>q,λb u q _ _ _=>⟨u.slots,q⟩,λb u q n _=>by rw[aL (λz=>by rw[z,F]at n;cases n)];exact n,λb u q _=>⟨u,q⟩,
  λb xs q=>by rw[aL (ne b _ q (λz h=>by cases h))];exact q,λb u xs q=>by rw[aL (ne b _ q (λz h=>by cases h))];exact q,λb ps q=>⟨#[],by rw[aL (ne b _ q (λz h=>by cases h)),q];simp⟩⟩ (λb u e=>?_)
 ·exact J
 ·have st:∀ {b:Addr} {u:HO},ObjOk X.prog X.w H s.heap b u->ObjOk X.prog X.w (upd H d (.frz o (.dT kvs))) s.heap b u:=λx=>x.stay (λ_ _ _ q=>q) (λc q=>by rw[aL (ne c _ q (λz h=>by cases h))];exact q) λc xs q=>by rw[aL (ne c _ q (λz h=>by cases h))];exact q
  by_cases G:b=d
  ·subst G
   rw[aN]at e;cases e;exact⟨N,st (I.hok b _ F)⟩
  ·rw[aL G]at e
   exact st (I.hok b u e)
section
variable {X:Cx}{tg:Expr}
end
section
variable {X:Cx}
end
end My
namespace My
open PySem PySem.Spec PyProof.Rows L2 PySem.SeqAt
abbrev Tm:=List Int×Int
def look(cs:List Tm)(k:List Int):Option Int:=(cs.find? λt=>decide (t.1=k)).map (·.2)
def put(cs:List Tm)(k:List Int)(c:Int):List Tm:=if(cs.any λt=>decide (t.1=k))=true then cs.map (λt=>if t.1=k then(t.1,c)else t)else cs++[(k,c)]
theorem lZ{a b:List Int}:(a.map (X7:Int->Key)=b.map X7)↔a=b:=by
 constructor
 ·intro h
  induction a generalizing b with
  | nil=>cases b with
   | nil=>rfl
   | cons _ _=>cases h
  | cons x xs ih=>cases b with
   | nil=>cases h
   | cons y ys=>
    rw[XW,XW]at h;injection h with h1 h2
    injection h1 with h1
    rw[h1,ih h2]
 ·intro h;rw[h]
theorem oB(cs:List Tm)(k:List Int)(c:Int):(put cs k c).length<=cs.length+1:=by
 unfold put;split
 ·rw[XR];lia
 ·rw[Y3];simp
theorem FK:∀t∈put cs k c,t.1=k\/∃u∈cs,u.1=t.1:=by
 intro t q;unfold put at q;split at q
 ·obtain⟨u,F,e⟩:=List.mem_map.mp q
  split at e
  ·rename_i z;subst e;exact .inl z
  ·subst e;exact .inr ⟨u,F,rfl⟩
 ·rcases List.mem_append.mp q with h|h
  ·exact .inr ⟨t,h,rfl⟩
  ·rw[List.mem_singleton.mp h];exact .inl rfl
theorem C8(h:(cs.map (·.1)).Nodup):((put cs k c).map (·.1)).Nodup:=by
 unfold put;split
 ·rw[ZH]
  have:((·.1) ∘ λt:Tm=>if t.1=k then(t.1,c)else t)=(·.1):=by
   funext t;show(if t.1=k then(t.1,c)else t).1=t.1;split <;> rfl
  rw[this];exact h
 ·rename_i z
  rw[zbr];refine L2.AR h λq=>z ?_
  obtain⟨t,F,e⟩:=List.mem_map.mp q;exact List.any_eq_true.mpr ⟨t,F,decide_eq_true e⟩
theorem FH(h:(cs.map (·.1)).Nodup)(q:t∈cs):look cs t.1=some t.2:=by
 induction cs with
 | nil=>cases q
 | cons u cs ih=>
  rw[XW,List.nodup_cons]at h;rcases List.mem_cons.mp q with e|e
  ·subst e;simp[look]
  ·have ne:¬ u.1=t.1:=λz=>h.1 (List.mem_map.mpr ⟨t,e,z.symm⟩)
   have:=ih h.2 e;unfold look at this ⊢;rw[ZC,decide_eq_false ne];exact this
def kZ(cs:List Tm)(t:Tm):List Tm:=put cs t.1 ((look cs t.1).getD 0+t.2)
def aT(ts:List Tm):List Tm:=ts.foldl kZ []
theorem mK(ts:List Tm)(t:Tm):aT (ts++[t])=kZ (aT ts) t:=by
 unfold aT;rw[List.foldl_append];rfl
theorem dU:∀(ts:List Tm),(aT ts).length<=ts.length/\((aT ts).map (·.1)).Nodup/\∀t∈aT ts,∃u∈ts,u.1=t.1:=by
 intro ts;have G:∀(ts:List Tm) (cs:List Tm),(cs.map (·.1)).Nodup->(ts.foldl kZ cs).length<=cs.length+ts.length/\((ts.foldl kZ cs).map (·.1)).Nodup/\∀t∈ts.foldl kZ cs,(∃u∈ts,u.1=t.1)\/∃u∈cs,u.1=t.1:=by
  intro ts;induction ts with
  | nil=>intro cs h;exact⟨by simp,h,λt F=>.inr ⟨t,F,rfl⟩⟩
  | cons x ts ih=>
   intro cs h;obtain⟨a,b,c⟩:=ih (kZ cs x) (C8 h);refine⟨?_,b,λt F=>?_⟩
   ·have:=oB cs x.1 ((look cs x.1).getD 0+x.2)
    rw[zbG,Y4];unfold kZ at *
    lia
   ·rcases c t F with⟨u,q,e⟩|⟨u,q,e⟩
    ·exact .inl ⟨u,YH _ q,e⟩
    ·rcases FK u q with z|⟨v,J,z⟩
     ·exact .inl ⟨x,X8 ..,z.symm.trans e⟩
     ·exact .inr ⟨v,J,z.trans e⟩
 obtain⟨a,b,c⟩:=G ts [] List.nodup_nil;refine⟨by have:=a;simpa[aT]using this,b,λt F=>?_⟩;rcases c t F with h|⟨u,q,_⟩
 ·exact h
 ·cases q
def jF(M:Int)(q:List Tm):List Tm:=(q.filter λt=>decide (t.2%M≠0)).map λt=>(t.1,t.2%M)
def TS(H H':Hp):Prop:=∀b xs,H b=some (.tup xs)->H' b=some (.tup xs)
theorem Same.ts(e:Same H H'):TS H H':=λb xs h=>e b _ h
theorem TS.trans(a:TS H H1)(b:TS H1 H2):TS H H2:=λc xs h=>b c xs (a c xs h)
theorem TS.put(h:H l=some u)(n:∀xs,u≠.tup xs):TS H (upd H l o):=λb xs q=>by
 rw[aL (λz=>by subst z;rw[h]at q;exact n xs (YJ q))];exact q
noncomputable def hT(ns:List Int):Int:=reduceHash (Builtin.Tuple.tupleHashOf (ns.map hashInt))
end My
namespace My
open PySem PySem.Spec PyProof.Rows L2
noncomputable def WM(t:Bool):String:=if t=true then "tuple_iterator" else "list_iterator"
noncomputable def WJ(t:Bool):String:=if t=true then "tuple" else "list"
def SIt(t:Bool)(h:Heap)(i l:Addr)(k:Nat):Prop:=∃o,h.get? i=some o/\o.cls=.type (WM t)/\o.data=.fields #[.ref l,.int k 0]
def SSq(t:Bool)(h:Heap)(l:Addr)(xs:Array Value):Prop:=∃o,h.get? l=some o/\o.cls=.type (WJ t)/\∃n,o.data=.seq xs n
theorem SIt.to(x:SIt t h i l k)(e:∀o,h.get? i=some o->h'.get? i=some o):SIt t h' i l k:=let ⟨o,ho,r⟩:=x;⟨o,e o ho,r⟩
theorem SSq.to(x:SSq t h l xs)(e:∀o,h.get? l=some o->h'.get? l=some o):SSq t h' l xs:=let ⟨o,ho,r⟩:=x;⟨o,e o ho,r⟩
section
variable {prog:XM}{w:World}{A:XS}{E:Value->XE->Prop}{s:XE}
theorem next_item(F:SIt t s.heap it l i)(W:SSq t s.heap l xs)(hx:xs[i]?=some x)
  (Y:∀h',SIt t h' it l (i+1)->YN it s.heap h'->Q x {s with heap:=h'}):wpAny (model prog w) A (zcG (.ref it)) Q E s:=by
 cases t with
 | false=>exact wpAny_nextOf_list_item (it:=it) (l:=l) (items:=xs) F W hx Y
 | true=>
  have q:s.heap.IsTupleIter it l i:=F;obtain⟨o,J,hc,G⟩:=F;obtain⟨ol,U,_,nl,N⟩:=W;unfold zcG;refine XD (zal (name:=zam "__next__") q.typeIs zcH (ZM zcH q.typeIs zdt ?_ (zdu _)));show wpAny _ _ (field (.ref it) 0 >>= _) _ _ _;refine XD (YI J G (x:=.ref l) rfl ?_);show wpAny _ _ (if(XN l == X4)=true then _ else _) _ _ _;rw[if_neg (show ¬ ((XN l == X4)=true)from XZ)];show wpAny _ _ (field (.ref it) 1 >>= _) _ _ _;refine XD (YI J G (x:=.int i 0) rfl ?_);show wpAny _ _ (seqItems? (.ref l) >>= _) _ _ _;refine XD (zcI U N ?_);simp only[ZF,hx];refine XD (Z9 J G (by simp) (XJ ⟨x,rfl,XJ (Y _ ⟨_,ZS _ J (zaY (zap G _)),(zdg ..).trans hc,by rw[zap G];simp[YD]⟩ (zaZ ..))⟩))
theorem next_end(U:A.handled=none)(F:SIt t s.heap it l i)(Y:SSq t s.heap l xs)(hx:xs[i]?=none)
  (hE:∀h' e,zbL it s.heap h'->(∃o,h'.get? e=some o/\o.cls=.type "StopIteration")->E (.ref e) {s with heap:=h'}):wpAny (model prog w) A (zcG (.ref it)) Q E s:=by
 cases t with
 | false=>exact wpAny_nextOf_list_end (it:=it) (l:=l) (items:=xs) U F Y hx hE
 | true=>
  have q:s.heap.IsTupleIter it l i:=F;obtain⟨o,W,hc,J⟩:=F;obtain⟨ol,N,_,nl,G⟩:=Y;unfold zcG;refine XD (zal (name:=zam "__next__") q.typeIs zcH (ZM zcH q.typeIs zdt ?_ (zdu _)));show wpAny _ _ (field (.ref it) 0 >>= _) _ _ _;refine XD (YI W J (x:=.ref l) rfl ?_);show wpAny _ _ (if(XN l == X4)=true then _ else _) _ _ _;rw[if_neg (show ¬ ((XN l == X4)=true)from XZ)];show wpAny _ _ (field (.ref it) 1 >>= _) _ _ _;refine XD (YI W J (x:=.int i 0) rfl ?_);show wpAny _ _ (seqItems? (.ref l) >>= _) _ _ _;refine XD (zcI N G ?_);simp only[ZF,hx];refine XD (wpAny_rule (XD (Z9 W J (by simp) ?_)));show wpAny _ _ (newExc (.type "StopIteration") [] >>= _) _ _ _;refine XD ?_;simp only[newExc,newTuple];refine XD (ZD ?_ (by size_fits));refine XD (m:=zbn _ _) (zcx (a:=X4) (by first|rfl|(simp only[zbn];rfl)) ?_);refine ZD ?_ (by size_fits);simp only[raiseNew]
  refine XD (zcy ?_);first|rw[show A.in1.handled=none from U]|rw[U]
  refine XD (XJ (zbM ?_));exact hE _ _ (((zaZ ..).extBut.push _).push _) ⟨_,X9 _ rfl,rfl⟩
abbrev WB(t:Bool)(l:Addr):Obj:={cls:=.type (WM t),data:=.fields #[.ref l,.int 0 0]}
end
def M4(K:XF)(t:Bool)(H:Hp)(a:Addr)(xs:List V):Prop:=if t=true then SqT K H a xs else SqL K H a xs
theorem zT(I:Inv X pins σ H s)(h:M4 X.K t H a xs):∃q:List Value,Vals xs q/\SSq t s.heap a q.toArray:=by
 cases t with
 | true=>
  obtain⟨q,r,p,_⟩:=I.tuple (show SqT X.K H a xs from h);exact⟨q,r,p⟩
 | false=>
  obtain⟨q,r,p,_⟩:=I.list (show SqL X.K H a xs from h);exact⟨q,r,PlainL.isList p⟩
theorem JJ(I:Inv X pins σ H s)(h:M4 X.K t H a xs)(h':M4 X.K t H a ys):xs=ys:=by
 cases t with
 | true=>exact I.tuple_inj (show SqT X.K H a xs from h) h'
 | false=>exact I.list_inj (show SqL X.K H a xs from h) h'
theorem pO{pins:List (Addr×Obj)}{t':Nat}{fp:List Addr}(I:Inv X pins σ H s)(J:∀b∈fp,jU X pins H b)(k:∀b o,b∉fp->s.heap.get? b=some o->h'.get? b=some o):Inv X pins σ H {s with heap:=h',toks:=t'}:=by
 have F:∀b u,H b=some u->b∉fp:=λb u e z=>by rw[(J b z).1]at e;cases e
 refine I.call' (s':={s with heap:=h',toks:=t'}) (ch:=fp) rfl ⟨λb o e _ _ G=>k b o G e,λb o e _ _ G=>⟨o.slots,k b o G e⟩,λ_ _ _ n _=>n,λb o e G=>⟨o,k b o G e⟩,λ_ _ q=>q,λ_ _ _ q=>q,λb ps q=>⟨#[],by rw[q];simp⟩⟩ (λb u e=>?_) I.bare λb U=>?_
 ·refine(I.hok b u e).stay (λc v Y q=>k c v ?_ q) (λ_ q=>q) λ_ _ q=>q
  rcases Y with z|z
  ·rw[z];exact F b u e
  ·exact F c _ z
 ·obtain⟨_,f1,_,f3,W,N⟩:=J b U
  exact⟨f3,f1,W,N⟩
end My
namespace P
open PySem PySem.Spec PyProof.Rows L2
inductive D where
 | non|bl (b:Bool)|int (i:Int)|str (x:Str)|tup (l:List D)|lst (l:List D)
 | dK (l:List (Key×D))|dT (l:List (List Key×D))
abbrev Av:=Addr->Prop
section
variable (A:Av)(H:Hp)
mutual
/-- a heap bears a value that stays (the things that may still be written are in A) -/
inductive Rep:D->V->Prop where
 | non:Rep .non .non
 | bl (b:Bool):Rep (.bl b) (.bl b)
 | int (i:Int):Rep (.int i) (.int i)
 | str (x:Str):Rep (.str x) (.str x)
 | tup {l:List D} {a:Addr} {xs:List V} (h:H a=some (.tup xs)) (r:RepL l xs):Rep (.tup l) (.ref a)
 | lst {l:List D} {a:Addr} {xs:List V} (n:¬ A a) (h:Rd H a (.lst xs)) (r:RepL l xs):Rep (.lst l) (.ref a)
 | dK {l:List (Key×D)} {a:Addr} {xs:List (Key×V)} (n:¬ A a) (h:Rd H a (.dK xs)) (e:xs.map (·.1)=l.map (·.1)) (r:RepL (l.map (·.2)) (xs.map (·.2))):Rep (.dK l) (.ref a)
 | dT {l:List (List Key×D)} {a:Addr} {xs:List (List Key×V)} (n:¬ A a) (h:Rd H a (.dT xs)) (e:xs.map (·.1)=l.map (·.1)) (r:RepL (l.map (·.2)) (xs.map (·.2))):Rep (.dT l) (.ref a)
inductive RepL:List D->List V->Prop where
 | nil:RepL [] []
 | cons {d:D} {v:V} {ds:List D} {vs:List V} (h:Rep d v) (t:RepL ds vs):RepL (d::ds) (v::vs)
end
inductive RepB:D->V->Prop where
 | of {d:D} {v:V} (h:Rep A H d v):RepB d v
 | lst {l:List D} {a:Addr} {xs:List V} (h:Rd H a (.lst xs)) (r:RepL A H l xs):RepB (.lst l) (.ref a)
 | dK {l:List (Key×D)} {a:Addr} {xs:List (Key×V)} (h:Rd H a (.dK xs)) (e:xs.map (·.1)=l.map (·.1)) (r:RepL A H (l.map (·.2)) (xs.map (·.2))):RepB (.dK l) (.ref a)
 | dT {l:List (List Key×D)} {a:Addr} {xs:List (List Key×V)} (h:Rd H a (.dT xs)) (e:xs.map (·.1)=l.map (·.1)) (r:RepL A H (l.map (·.2)) (xs.map (·.2))):RepB (.dT l) (.ref a)
inductive Own:D->Addr->Prop where
 | lst {l:List D} {a:Addr} {xs:List V} (h:H a=some (.lst xs)) (r:RepL A H l xs):Own (.lst l) a
 | dK {l:List (Key×D)} {a:Addr} {xs:List (Key×V)} (h:H a=some (.dK xs)) (e:xs.map (·.1)=l.map (·.1)) (r:RepL A H (l.map (·.2)) (xs.map (·.2))):Own (.dK l) a
 | dT {l:List (List Key×D)} {a:Addr} {xs:List (List Key×V)} (h:H a=some (.dT xs)) (e:xs.map (·.1)=l.map (·.1)) (r:RepL A H (l.map (·.2)) (xs.map (·.2))):Own (.dT l) a
end
noncomputable def Kp:HO->Prop
 | .tup _=>True | .lst _=>True|_=>False
structure Ext(A:Av)(H H':Hp):Prop where
 rd:∀b u,Rd H b u->Rd H' b u
 kp:∀b u,Kp u->H b=some u->H' b=some u
 ow:∀b u,A b->H b=some u->H' b=some u
 fz:∀b o u,H b=some (.frz o u)->H' b=some (.frz o u)
theorem Ext.refl(A:Av)(H:Hp):Ext A H H:=⟨λ_ _ h=>h,λ_ _ _ h=>h,λ_ _ _ h=>h,λ_ _ _ h=>h⟩
theorem Ext.trans(a:Ext A H H1)(b:Ext A H1 H2):Ext A H H2:=
 ⟨λc u h=>b.rd c u (a.rd c u h),λc u k h=>b.kp c u k (a.kp c u k h),λc u n h=>b.ow c u n (a.ow c u n h),λc o u h=>b.fz c o u (a.fz c o u h)⟩
theorem Ext.mono(h:Ext A H H')(s:∀a,A' a->A a):Ext A' H H':=⟨h.rd,h.kp,λb u n e=>h.ow b u (s b n) e,h.fz⟩
theorem Ext.same(h:Same H H'):Ext A H H':=
 ⟨λb u r=>by rcases r with r|⟨o,r⟩;exact .inl (h _ _ r);exact .inr ⟨o,h _ _ r⟩,λb u _ r=>h _ _ r,λb u _ r=>h _ _ r,λb o u r=>h _ _ r⟩
theorem Ext.tp(x:Ext A H H')(b:Addr)(xs:List V)(h:H b=some (.tup xs)):H' b=some (.tup xs):=x.kp b _ trivial h
theorem Ext.new(h:H p=none):Ext A H (upd H p o):=Ext.same (My.xQ h)
mutual
theorem Rep.ext(x:Ext A H H'):Rep A H d v->Rep A H' d v
 | .non=>.non
 | .bl b=>.bl b
 | .int i=>.int i
 | .str s=>.str s
 | .tup h r=>.tup (x.tp _ _ h) (RepL.ext x r)
 | .lst n h r=>.lst n (x.rd _ _ h) (RepL.ext x r)
 | .dK n h e r=>.dK n (x.rd _ _ h) e (RepL.ext x r)
 | .dT n h e r=>.dT n (x.rd _ _ h) e (RepL.ext x r)
theorem RepL.ext(x:Ext A H H'):RepL A H ds vs->RepL A H' ds vs
 | .nil=>.nil
 | .cons h t=>.cons (Rep.ext x h) (RepL.ext x t)
end
theorem RepB.ext(x:Ext A H H'):RepB A H d v->RepB A H' d v
 | .of h=>.of (h.ext x)
 | .lst h r=>.lst (x.rd _ _ h) (r.ext x)
 | .dK h e r=>.dK (x.rd _ _ h) e (r.ext x)
 | .dT h e r=>.dT (x.rd _ _ h) e (r.ext x)
theorem Own.ext(x:Ext A H H')(q:A a):Own A H d a->Own A H' d a
 | .lst h r=>.lst (x.ow _ _ q h) (r.ext x)
 | .dK h e r=>.dK (x.ow _ _ q h) e (r.ext x)
 | .dT h e r=>.dT (x.ow _ _ q h) e (r.ext x)
theorem Own.b:Own A H d a->RepB A H d (.ref a)
 | .lst h r=>.lst (.inl h) r
 | .dK h e r=>.dK (.inl h) e r
 | .dT h e r=>.dT (.inl h) e r
mutual
/-- avoid other things: those that were not there, or fewer -/
theorem Rep.av(x:∀a,A' a->A a\/H a=none):Rep A H d v->Rep A' H d v
 | .non=>.non
 | .bl b=>.bl b
 | .int i=>.int i
 | .str s=>.str s
 | .tup h r=>.tup h (RepL.av x r)
 | .lst n h r=>.lst (λz=>(x _ z).elim n λz=>by rcases h with h|⟨o,h⟩ <;> (rw[z]at h;cases h)) h (RepL.av x r)
 | .dK n h e r=>.dK (λz=>(x _ z).elim n λz=>by rcases h with h|⟨o,h⟩ <;> (rw[z]at h;cases h)) h e (RepL.av x r)
 | .dT n h e r=>.dT (λz=>(x _ z).elim n λz=>by rcases h with h|⟨o,h⟩ <;> (rw[z]at h;cases h)) h e (RepL.av x r)
theorem RepL.av(x:∀a,A' a->A a\/H a=none):RepL A H ds vs->RepL A' H ds vs
 | .nil=>.nil
 | .cons h t=>.cons (Rep.av x h) (RepL.av x t)
end
noncomputable def RK:HO->Prop
 | .lst _=>True | .dK _=>True | .dT _=>True|_=>False
theorem jA(n:b≠a)(h:Rd H b u):Rd (upd H a o) b u:=by
 rcases h with h|⟨x,h⟩
 ·exact .inl (by rw[aL n];exact h)
 ·exact .inr ⟨x,by rw[aL n];exact h⟩
mutual
theorem Rep.put(q:A a)(F:H a=some u)(ob:RK u):Rep A H d v->Rep A (upd H a o) d v
 | .non=>.non
 | .bl b=>.bl b
 | .int i=>.int i
 | .str s=>.str s
 | .tup (a:=b) h r=>.tup (by rw[aL (λz=>by subst z;rw[F]at h;cases h;exact ob)];exact h) (RepL.put q F ob r)
 | .lst (a:=b) n h r=>.lst n (jA (λz=>n (by rw[z];exact q)) h) (RepL.put q F ob r)
 | .dK (a:=b) n h e r=>.dK n (jA (λz=>n (by rw[z];exact q)) h) e (RepL.put q F ob r)
 | .dT (a:=b) n h e r=>.dT n (jA (λz=>n (by rw[z];exact q)) h) e (RepL.put q F ob r)
theorem RepL.put(q:A a)(F:H a=some u)(ob:RK u):RepL A H ds vs->RepL A (upd H a o) ds vs
 | .nil=>.nil
 | .cons h t=>.cons (Rep.put q F ob h) (RepL.put q F ob t)
end
theorem Own.put{A:Av}{H:Hp}{a b:Addr}{o u:HO}(F:A a)(G:H a=some u)(ob:RK u)(q:b≠a){d:D}:Own A H d b->Own A (upd H a o) d b
 | .lst h r=>.lst (by rw[aL q];exact h) (r.put F G ob)
 | .dK h e r=>.dK (by rw[aL q];exact h) e (r.put F G ob)
 | .dT h e r=>.dT (by rw[aL q];exact h) e (r.put F G ob)
theorem Own.av(x:∀a,A' a->A a\/H a=none):Own A H d a->Own A' H d a
 | .lst h r=>.lst h (r.av x)
 | .dK h e r=>.dK h e (r.av x)
 | .dT h e r=>.dT h e (r.av x)
theorem Own.rep(n:¬ A a):Own A H d a->Rep A H d (.ref a)
 | .lst h r=>.lst n (.inl h) r
 | .dK h e r=>.dK n (.inl h) e r
 | .dT h e r=>.dT n (.inl h) e r
section
variable {A:Av}{H:Hp}
theorem RepL.length:∀ {ds:List D} {vs:List V},RepL A H ds vs->vs.length=ds.length
 | _,_,.nil=>rfl
 | _,_,.cons _ t=>by rw[Y4,Y4,RepL.length t]
theorem RepL.get:∀ {ds:List D} {vs:List V} {i:Nat} {v:V},RepL A H ds vs->vs[i]?=some v->∃d,ds[i]?=some d/\Rep A H d v
 | _,_,i,v,.nil,e=>by simp at e
 | _,_,0,v,.cons h t,e=>by simp at e;subst e;exact⟨_,rfl,h⟩
 | _,_,i+1,v,.cons h t,e=>RepL.get (i:=i) t (by simpa using e)
theorem RepL.get':∀ {ds:List D} {vs:List V} {i:Nat} {d:D},RepL A H ds vs->ds[i]?=some d->∃v,vs[i]?=some v/\Rep A H d v
 | _,_,i,v,.nil,e=>by simp at e
 | _,_,0,v,.cons h t,e=>by simp at e;subst e;exact⟨_,rfl,h⟩
 | _,_,i+1,v,.cons h t,e=>RepL.get' (i:=i) t (by simpa using e)
theorem RepL.append:∀ {ds es:List D} {vs us:List V},RepL A H ds vs->RepL A H es us->RepL A H (ds++es) (vs++us)
 | _,_,_,_,.nil,s=>s
 | _,_,_,_,.cons h t,s=>.cons h (RepL.append t s)
theorem RepL.take:∀ {ds:List D} {vs:List V} (n:Nat),RepL A H ds vs->RepL A H (ds.take n) (vs.take n)
 | _,_,0,_=>by simp;exact .nil
 | _,_,n+1,.nil=>.nil
 | _,_,n+1,.cons h t=>.cons h (RepL.take n t)
theorem RepL.drop:∀ {ds:List D} {vs:List V} (n:Nat),RepL A H ds vs->RepL A H (ds.drop n) (vs.drop n)
 | _,_,0,r=>r
 | _,_,n+1,.nil=>.nil
 | _,_,n+1,.cons h t=>RepL.drop n t
theorem RepL.set:∀ {ds:List D} {vs:List V} {d:D} {v:V} (n:Nat),Rep A H d v->RepL A H ds vs->RepL A H (ds.set n d) (vs.set n v)
 | _,_,_,_,_,_,.nil=>.nil
 | _,_,_,_,0,r,.cons h t=>.cons r t
 | _,_,_,_,n+1,r,.cons h t=>.cons h (RepL.set n r t)
theorem Rep.b(h:Rep A H d v):RepB A H d v:=.of h
theorem RepB.int_inv(h:RepB A H (.int i) v):v=.int i:=by cases h with|of h=>cases h;rfl
theorem RepB.bl_inv(h:RepB A H (.bl i) v):v=.bl i:=by cases h with|of h=>cases h;rfl
theorem RepB.str_inv(h:RepB A H (.str i) v):v=.str i:=by cases h with|of h=>cases h;rfl
theorem RepB.non_inv(h:RepB A H .non v):v=.non:=by cases h with|of h=>cases h;rfl
theorem RepB.tup_inv(h:RepB A H (.tup l) v):∃a xs,v=.ref a/\H a=some (.tup xs)/\RepL A H l xs:=by
 cases h with|of h=>cases h with|tup h r=>exact⟨_,_,rfl,h,r⟩
theorem RepB.lst_inv(h:RepB A H (.lst l) v):∃a xs,v=.ref a/\Rd H a (.lst xs)/\RepL A H l xs:=by
 cases h with
 | of h=>cases h with|lst n h r=>exact⟨_,_,rfl,h,r⟩
 | lst h r=>exact⟨_,_,rfl,h,r⟩
theorem RepB.dK_inv(h:RepB A H (.dK l) v):∃a xs,v=.ref a/\Rd H a (.dK xs)/\xs.map (·.1)=l.map (·.1)/\RepL A H (l.map (·.2)) (xs.map (·.2)):=by
 cases h with
 | of h=>cases h with|dK n h e r=>exact⟨_,_,rfl,h,e,r⟩
 | dK h e r=>exact⟨_,_,rfl,h,e,r⟩
theorem RepB.dT_inv(h:RepB A H (.dT l) v):∃a xs,v=.ref a/\Rd H a (.dT xs)/\xs.map (·.1)=l.map (·.1)/\RepL A H (l.map (·.2)) (xs.map (·.2)):=by
 cases h with
 | of h=>cases h with|dT n h e r=>exact⟨_,_,rfl,h,e,r⟩
 | dT h e r=>exact⟨_,_,rfl,h,e,r⟩
end
abbrev cL:=List (Option D)
inductive Fact where
 | rep (d:D) (v:V)|fz (a:Addr) (o:Obj) (u:HO)
def Fact.Holds(A:Av)(H:Hp):Fact->Prop
 | .rep d v=>Rep A H d v
 | .fz a o u=>H a=some (.frz o u)
theorem Fact.ext(x:Ext A H H'):∀ {p:Fact},p.Holds A H->p.Holds A H'
 | .rep _ _,h=>Rep.ext x h
 | .fz _ _ _,h=>x.fz _ _ _ h
theorem Fact.av(x:∀a,A' a->A a\/H a=none):∀ {p:Fact},p.Holds A H->p.Holds A' H
 | .rep _ _,h=>Rep.av x h
 | .fz _ _ _,h=>h
theorem Fact.put(G:A a)(F:H a=some u)(ob:RK u):∀ {p:Fact},p.Holds A H->p.Holds A (upd H a o)
 | .rep _ _,h=>Rep.put G F ob h
 | .fz b q w,h=>by
  have h:H b=some (.frz q w):=h;show upd H a o b=some (.frz q w);rw[aL (λz=>by subst z;rw[F]at h;cases h;exact ob)];exact h
structure ST(H0:Hp)(A0 A:Av)(E:List Fact)(O:List Nat)(σ:L2.St)(H:Hp)(ρ:cL):Prop where
 ex:Ext A0 H0 H
 sub:∀a,A0 a->A a
 l0:∀a,A0 a->H0 a≠none
 live:∀a,A a->H a≠none
 len:σ.length=ρ.length
 val:∀i d,ρ[i]?=some (some d)->i∉O->∃v,σ[i]?=some (some v)/\Rep A H d v
 own:∀i d,ρ[i]?=some (some d)->i∈O->∃a,σ[i]?=some (some (.ref a))/\A a/\H0 a=none/\Own A H d a
 inj:∀i j d d' a,i∈O->j∈O->ρ[i]?=some (some d)->ρ[j]?=some (some d')->σ[i]?=some (some (.ref a))->σ[j]?=some (some (.ref a))->i=j
 ext:∀p∈E,p.Holds A H
section
variable {H0:Hp}{A0 A:Av}{E:List Fact}{O:List Nat}{σ:L2.St}{H H':Hp}{ρ:cL}
theorem ST.mono(s:ST H0 A0 A E O σ H ρ)(x:Ext A H H'):ST H0 A0 A E O σ H' ρ where
 ex:=s.ex.trans (x.mono s.sub)
 sub:=s.sub
 l0:=s.l0
 live:=λa q=>by
  have:=s.live a q;cases e:H a with
  | none=>exact absurd e this
  | some u=>rw[x.ow a u q e];exact λz=>nomatch z
 len:=s.len
 val:=λi d h n=>by obtain⟨v,h1,h2⟩:=s.val i d h n;exact⟨v,h1,h2.ext x⟩
 own:=λi d h n=>by obtain⟨a,h1,h2,F,G⟩:=s.own i d h n;exact⟨a,h1,h2,F,G.ext x h2⟩
 inj:=s.inj
 ext:=λp J=>Fact.ext x (s.ext p J)
theorem ST.more(s:ST H0 A0 A E O σ H ρ)(h:Rep A H d v):ST H0 A0 A (.rep d v::E) O σ H ρ:=
 {s with ext:=λp q=>by rcases List.mem_cons.mp q with e|e;rw[e];exact h;exact s.ext p e}
theorem ST.less(s:ST H0 A0 A E O σ H ρ)(h:∀p∈E',p∈E):ST H0 A0 A E' O σ H ρ:=
 {s with ext:=λp q=>s.ext p (h p q)}
theorem cN(h:(ρ.set i o)[j]?=some (some d)):(j=i/\o=some d/\i<ρ.length)\/(j≠i/\ρ[j]?=some (some d)):=by
 rw[List.getElem?_set]at h;by_cases e:i=j
 ·rw[if_pos e]at h
  by_cases l:i<ρ.length
  ·rw[if_pos l]at h
   exact .inl ⟨e.symm,YJ h,l⟩
  ·rw[if_neg l]at h;cases h
 ·rw[if_neg e]at h
  exact .inr ⟨λz=>e z.symm,h⟩
theorem sig_set(h:i<σ.length):(σ.set i (some v))[i]?=some (some v):=by simp[h]
theorem iG(h:j≠i):(σ.set i (some v))[j]?=σ[j]?:=by rw[ZX (X5 h)]
theorem ST.put(s:ST H0 A0 A E O σ H ρ)(h:Rep A H d v)(n:i∉O):ST H0 A0 A E O (σ.set i (some v)) H (ρ.set i (some d)) where
 ex:=s.ex
 sub:=s.sub
 l0:=s.l0
 live:=s.live
 len:=by simp[s.len]
 val:=λj d' h' F=>by
  rcases cN h' with⟨e,q,l⟩|⟨e,q⟩
  ·subst e;cases q;exact⟨v,sig_set (by rw[s.len];exact l),h⟩
  ·obtain⟨w,h1,h2⟩:=s.val j d' q F;exact⟨w,by rw[iG e];exact h1,h2⟩
 own:=λj d' h' F=>by
  rcases cN h' with⟨e,q,l⟩|⟨e,q⟩
  ·subst e;exact absurd F n
  ·obtain⟨w,h1,h2⟩:=s.own j d' q F;exact⟨w,by rw[iG e];exact h1,h2⟩
 inj:=λj k d1 d2 a Y W h1 h2 G U=>by
  have J:j≠i:=λz=>n (z ▸ Y)
  have N:k≠i:=λz=>n (z ▸ W)
  rcases cN h1 with⟨e,_⟩|⟨_,h1⟩
  ·exact absurd e J
  rcases cN h2 with⟨e,_⟩|⟨_,h2⟩
  ·exact absurd e N
  exact s.inj j k d1 d2 a Y W h1 h2 (by rw[iG J]at G;exact G) (by rw[iG N]at U;exact U)
 ext:=s.ext
theorem ST.shut(s:ST H0 A0 A E O σ H ρ)(h:∀i,i∈O'->i∈O):∃A',ST H0 A0 A' E O' σ H ρ:=by
 let F:Av:=λa=>∃i d,i∈O/\i∉O'/\ρ[i]?=some (some d)/\σ[i]?=some (some (.ref a))
 have cut:∀a,(A a/\¬ F a)->A a\/H a=none:=λa z=>.inl z.1
 refine⟨λa=>A a/\¬ F a,s.ex,λa J=>⟨s.sub a J,?_⟩,s.l0,λa J=>s.live a J.1,s.len,λi d hi n=>?_,λi d hi n=>?_,λi j d d' a hi hj=>s.inj i j d d' a (h i hi) (h j hj),λp hp=>Fact.av cut (s.ext p hp)⟩
 ·rintro⟨i,d,h1,h2,W,Y⟩
  obtain⟨b,q,G,U,N⟩:=s.own i d W h1;rw[Y]at q;cases q;exact s.l0 a J U
 ·by_cases hO:i∈O
  ·obtain⟨a,q,G,U,N⟩:=s.own i d hi hO
   exact⟨.ref a,q,(N.av cut).rep λz=>z.2 ⟨i,d,hO,n,hi,q⟩⟩
  ·obtain⟨v,q,G⟩:=s.val i d hi hO
   exact⟨v,q,G.av cut⟩
 ·obtain⟨a,q,G,U,N⟩:=s.own i d hi (h i n)
  refine⟨a,q,⟨G,?_⟩,U,N.av cut⟩;rintro⟨j,d',h1,h2,W,Y⟩;have:=s.inj i j d d' a (h i n) h1 hi W q Y;subst this;exact h2 n
end
abbrev Ev:=cL->Option D
abbrev Bv:=cL->Option Bool
abbrev Lv:=cL->Option (List D)
abbrev RR:=Av->Hp->D->V->Prop
inductive tD(R:RR)(O:List Nat)(f:Ev)(σ:L2.St)(H:Hp)(Q:VK):Prop
 | mk (H0:Hp) (A0 A:Av) (E:List Fact) (ρ:cL) (d:D) (st:ST H0 A0 A E O σ H ρ) (e:f ρ=some d) (q:∀v H',Ext A H H'->R A H' d v->Q v H'):tD R O f σ H Q
inductive tDT(O:List Nat)(g:Bv)(σ:L2.St)(H:Hp)(Q:Bool->Hp->Prop):Prop
 | mk (H0:Hp) (A0 A:Av) (E:List Fact) (ρ:cL) (b:Bool) (st:ST H0 A0 A E O σ H ρ) (e:g ρ=some b) (q:∀H',Ext A H H'->Q b H'):tDT O g σ H Q
def PD(X:Cx)(O:List Nat)(e:Expr)(f:Ev):Prop:=PE X e (tD Rep O f)
def PB(X:Cx)(O:List Nat)(e:Expr)(f:Ev):Prop:=PE X e (tD RepB O f)
def rO(X:Cx)(O:List Nat)(e:Expr)(g:Bv):Prop:=PT X e (tDT O g)
def PDW(X:Cx)(O:List Nat)(e:Expr)(g:Bv):Prop:=PW X e (tDT O g)
theorem PDW.pt(h:PDW X O e g):rO X O e g:=PW.pt h
inductive RL(R:RR)(A:Av)(H:Hp):List D->List V->Prop where
 | nil:RL R A H [] []
 | cons {d v ds vs} (h:R A H d v) (t:RL R A H ds vs):RL R A H (d::ds) (v::vs)
inductive tDA(R:RR)(O:List Nat)(f:Lv)(σ:L2.St)(H:Hp)(Q:List V->Hp->Prop):Prop
 | mk (H0:Hp) (A0 A:Av) (E:List Fact) (ρ:cL) (ds:List D) (st:ST H0 A0 A E O σ H ρ) (e:f ρ=some ds) (q:∀vs H',Ext A H H'->RL R A H' ds vs->Q vs H'):tDA R O f σ H Q
def sL(X:Cx)(O:List Nat)(es:List Expr)(f:Lv):Prop:=PA X es (tDA Rep O f)
def oG(X:Cx)(O:List Nat)(es:List Expr)(f:Lv):Prop:=PA X es (tDA RepB O f)
section
variable {X:Cx}{O:List Nat}
theorem PE.mono(h:PE X e t)(x:∀σ H Q,t' σ H Q->t σ H Q):PE X e t':=λpins s σ H Q I w=>h pins s σ H Q I (x σ H Q w)
theorem PT.mono(h:PT X e t)(x:∀σ H Q,t' σ H Q->t σ H Q):PT X e t':=λpins s σ H Q I w=>h pins s σ H Q I (x σ H Q w)
theorem PW.mono(h:PW X e t)(x:∀σ H Q,t' σ H Q->t σ H Q):PW X e t':=λq pins s σ H Q I w=>h q pins s σ H Q I (x σ H Q w)
theorem PA.mono(h:PA X es t)(x:∀σ H Q,t' σ H Q->t σ H Q):PA X es t':=λpos pins s σ H Q I w=>h pos pins s σ H Q I (x σ H Q w)
theorem PD.b{e:Expr}{f:Ev}(h:PD X O e f):PB X O e f:=PE.mono h λσ H Q ⟨H0,A0,A,E,ρ,d,st,e,q⟩=>⟨H0,A0,A,E,ρ,d,st,e,λv H' x r=>q v H' x (.of r)⟩
theorem RL.toL:∀ {ds:List D} {vs:List V},RL Rep A H ds vs->RepL A H ds vs
 | _,_,.nil=>.nil
 | _,_,.cons h t=>.cons h (RL.toL t)
def aA(i:Nat):Ev:=λρ=>(ρ[i]?).join
def eC(d:D):Ev:=λ_=>some d
theorem bQ{ρ:cL}{i:Nat}{d:D}(h:(ρ[i]?).join=some d):ρ[i]?=some (some d):=by
 cases e:ρ[i]? with
 | none=>rw[e]at h;cases h
 | some o=>rw[e]at h;cases o with
  | none=>cases h
  | some x=>cases h;rfl
theorem cX{e:Expr}(i:Nat)(h:PE X e (iN i))(n:i∉O):PD X O e (aA i):=PE.mono h <| by
 rintro σ H Q ⟨H0,A0,A,E,ρ,d,st,e,q⟩;obtain⟨v,F,r⟩:=st.val i d (bQ e) n;exact⟨v,F,q v H (Ext.refl _ _) r⟩
theorem fE{e:Expr}(i:Nat)(h:PE X e (iN i)):PB X O e (aA i):=PE.mono h <| by
 rintro σ H Q ⟨H0,A0,A,E,ρ,d,st,e,q⟩;by_cases n:i∈O
 ·obtain⟨a,F,_,_,r⟩:=st.own i d (bQ e) n
  exact⟨_,F,q _ H (Ext.refl _ _) r.b⟩
 ·obtain⟨v,F,r⟩:=st.val i d (bQ e) n
  exact⟨v,F,q v H (Ext.refl _ _) (.of r)⟩
theorem dB{i j pos}:PD X O (.Constant (.int i) j pos) (eC (.int i)):=PE.mono NR λσ H Q ⟨H0,A0,A,E,ρ,d,st,e,q⟩=>by cases e;exact q _ H (Ext.refl _ _) (.int _)
theorem SQ{i j pos}:PD X O (.Constant (.bool i) j pos) (eC (.bl i)):=PE.mono RW λσ H Q ⟨H0,A0,A,E,ρ,d,st,e,q⟩=>by cases e;exact q _ H (Ext.refl _ _) (.bl _)
theorem O6{i j pos}:PD X O (.Constant (.str i) j pos) (eC (.str i)):=PE.mono QS λσ H Q ⟨H0,A0,A,E,ρ,d,st,e,q⟩=>by cases e;exact q _ H (Ext.refl _ _) (.str _)
theorem QO{j pos}:PD X O (.Constant .none j pos) (eC .non):=PE.mono OZ λσ H Q ⟨H0,A0,A,E,ρ,d,st,e,q⟩=>by cases e;exact q _ H (Ext.refl _ _) .non
def Live(A:Av)(H:Hp):Prop:=∀a,A a->H a≠none
theorem Live.ext(l:Live A H)(x:Ext A H H'):Live A H':=λa q=>by
 cases e:H a with
 | none=>exact absurd e (l a q)
 | some u=>rw[x.ow a u q e];exact λz=>nomatch z
inductive rD(g:D->D->Option D)(x y:V)(H:Hp)(Q:VK):Prop
 | mk (A:Av) (dx dy d:D) (lv:Live A H) (rx:RepB A H dx x) (ry:RepB A H dy y) (e:g dx dy=some d) (q:∀v H',Ext A H H'->Rep A H' d v->Q v H'):rD g x y H Q
def jK(X:Cx)(f:Value->Value->Sem Value)(g:D->D->Option D):Prop:=OpR X f (rD g)
theorem OpR.mono(h:OpR X f r)(x:∀a b H Q,r' a b H Q->r a b H Q):OpR X f r':=λpins s σ H a b v u Q I F q w=>h pins s σ H a b v u Q I F q (x a b H Q w)
def aQ(g:D->D->Option D)(q F:Ev):Ev:=λρ=>(q ρ).bind λx=>(F ρ).bind λy=>g x y
theorem bind_some{q F:Type}{o:Option q}{f:q->Option F}{b:F}(h:o.bind f=some b):∃a,o=some a/\f a=some b:=by
 cases o with
 | none=>cases h
 | some a=>exact⟨a,rfl,h⟩
theorem vO{g:D->D->Option D}{N J:Ev}{σ:L2.St}{H:Hp}{Q:VK}(h:tD Rep O (aQ g N J) σ H Q):RM (rD g) (tD RepB O N) (tD RepB O J) σ H Q:=by
 obtain⟨H0,A0,A,E,ρ,d,st,e,q⟩:=h;obtain⟨x,ex,e⟩:=bind_some e;obtain⟨y,ey,e⟩:=bind_some e;exact⟨H0,A0,A,E,ρ,x,st,ex,λv H1 F r1=>⟨H0,A0,A,E,ρ,y,st.mono F,ey,λw H2 G Y=>⟨A,x,y,d,(st.mono (F.trans G)).live,r1.ext G,Y,e,λz H3 W U=>q z H3 ((F.trans G).trans W) U⟩⟩⟩
theorem aS(F:jK X (YT op) g)(G:PB X O a fa)(q:PB X O b fb):PD X O (.BinOp a op b pos) (aQ g fa fb):=
 PE.mono (M5 F G q) λσ H Q h=>vO h
theorem zQ(J:jK X (XY op) g)(G:PB X O a fa)(F:PB X O b fb)(q:zau op b=false):PD X O (.Compare a [op] [b] pos) (aQ g fa fb):=
 PE.mono (K5 J G F q) λσ H Q h=>vO h
noncomputable def AB:D->Option Bool
 | .bl b=>some b
 | _=>none
theorem gT(h:AB d=some b):d=.bl b:=by
 cases d <;> cases h;rfl
def bZ(f:Ev):Bv:=λρ=>(f ρ).bind AB
theorem i4{f:Ev}{σ:L2.St}{H:Hp}{Q:Bool->Hp->Prop}(h:tDT O (bZ f) σ H Q):tD Rep O f σ H λx H'=>∃k,x=.bl k/\Q k H':=by
 obtain⟨H0,A0,A,E,ρ,b,st,e,q⟩:=h;obtain⟨x,ex,e⟩:=bind_some e;rw[gT e]at ex;exact⟨H0,A0,A,E,ρ,_,st,ex,λv H1 F G=>⟨b,RepB.bl_inv (.of G),q H1 F⟩⟩
theorem u3(J:jK X (XY op) g)(G:PB X O a fa)(F:PB X O b fb)(q:zau op b=false):rO X O (.Compare a [op] [b] pos) (bZ (aQ g fa fb)):=
 PT.mono (BA J G F q) λσ H Q h=>vO (i4 h)
theorem BM(h:PD X O e f)(F:∀q,isTrue e X.env q=(do let v <- q;standAt e.pos;holding [v] (truthy v)):=by intro _;rfl):rO X O e (bZ f):=
 PT.mono (OP h F) λσ H Q h=>i4 h
def dG(g:Bv):Bv:=λρ=>(g ρ).map (!·)
def sJ(g h:Bv):Bv:=λρ=>(g ρ).bind λb=>if b=true then h ρ else some false
def EH(g h:Bv):Bv:=λρ=>(g ρ).bind λb=>if b=true then some true else h ρ
theorem BV(h:rO X O a g):rO X O (.UnaryOp .Not a pos) (dG g):=PT.mono (PU h) <| by
 rintro σ H Q ⟨H0,A0,A,E,ρ,b,st,e,q⟩;unfold dG at e;cases z:g ρ with
 | none=>rw[z]at e;cases e
 | some c=>rw[z]at e;cases e;exact⟨H0,A0,A,E,ρ,c,st,z,q⟩
theorem FI(h:rO X O a g):PDW X O (.BoolOp .And [a] pos) g:=KB h
theorem J2(h:rO X O a g):PDW X O (.BoolOp .Or [a] pos) g:=PN h
theorem KU{a b:Expr}{rest:List Expr}{pos:Pos}{g k:Bv}(N:rO X O a g)(J:PDW X O (.BoolOp .And (b::rest) pos) k):PDW X O (.BoolOp .And (a::b::rest) pos) (sJ g k):=
 PW.mono (N2 N J) <| by
  rintro σ H Q ⟨H0,A0,A,E,ρ,b,st,e,q⟩;obtain⟨x,ex,e⟩:=bind_some e;refine⟨H0,A0,A,E,ρ,x,st,ex,λH1 F=>?_⟩;cases x with
  | false=>rw[if_neg XZ]at e ⊢;cases e;exact q H1 F
  | true=>rw[if_pos rfl]at e ⊢;exact⟨H0,A0,A,E,ρ,b,st.mono F,e,λH2 G=>q H2 (F.trans G)⟩
theorem O5{a b:Expr}{rest:List Expr}{pos:Pos}{g k:Bv}(N:rO X O a g)(J:PDW X O (.BoolOp .Or (b::rest) pos) k):PDW X O (.BoolOp .Or (a::b::rest) pos) (EH g k):=
 PW.mono (SR N J) <| by
  rintro σ H Q ⟨H0,A0,A,E,ρ,b,st,e,q⟩;obtain⟨x,ex,e⟩:=bind_some e;refine⟨H0,A0,A,E,ρ,x,st,ex,λH1 F=>?_⟩;cases x with
  | true=>rw[if_pos rfl]at e ⊢;cases e;exact q H1 F
  | false=>rw[if_neg XZ]at e ⊢;exact⟨H0,A0,A,E,ρ,b,st.mono F,e,λH2 G=>q H2 (F.trans G)⟩
def Q7(f g:Ev):Ev:=λρ=>(f ρ).bind λx=>(AB x).bind λb=>if b=true then g ρ else some (.bl false)
def Q5(f:Ev):Ev:=λρ=>(f ρ).bind λx=>(AB x).map λb=>.bl (!b)
theorem OU{op}(h:PD X O a f):PD X O (.BoolOp op [a] pos) f:=HE h
theorem IJ{a b:Expr}{rest:List Expr}{pos:Pos}{f g:Ev}(J:PD X O a f)(G:PD X O (.BoolOp .And (b::rest) pos) g):PD X O (.BoolOp .And (a::b::rest) pos) (Q7 f g):=
 PE.mono (QC J G) <| by
  rintro σ H Q ⟨H0,A0,A,E,ρ,d,st,e,q⟩;obtain⟨x,ex,e⟩:=bind_some e;obtain⟨b,N,e⟩:=bind_some e;rw[gT N]at ex;refine⟨H0,A0,A,E,ρ,_,st,ex,λv H1 F W=>⟨b,RepB.bl_inv (.of W),?_⟩⟩;cases b with
  | false=>rw[if_neg XZ]at e ⊢;cases e;exact q _ H1 F (.bl _)
  | true=>rw[if_pos rfl]at e ⊢;exact⟨H0,A0,A,E,ρ,d,st.mono F,e,λw H2 U=>q w H2 (F.trans U)⟩
theorem HC{a:Expr}{pos:Pos}{f:Ev}(G:PD X O a f):PD X O (.UnaryOp .Not a pos) (Q5 f):=
 PE.mono (IL G) <| by
  rintro σ H Q ⟨H0,A0,A,E,ρ,d,st,e,q⟩;obtain⟨x,ex,e⟩:=bind_some e;cases z:AB x with
  | none=>rw[z]at e;cases e
  | some b=>
   rw[z]at e;cases e;rw[gT z]at ex;exact⟨H0,A0,A,E,ρ,_,st,ex,λv H1 F J=>⟨b,RepB.bl_inv (.of J),q _ H1 F (.bl _)⟩⟩
def bV(g g':D->D->Option D)(F G q:Ev):Ev:=λρ=>(F ρ).bind λx=>(G ρ).bind λy=>(g x y).bind λz=>(AB z).bind λb=>if b=true then(q ρ).bind λw=>g' y w else some (.bl false)
end
section
variable {X:Cx}{O:List Nat}
theorem tY(h:tD Rep O (bV g g' fa fb fc) σ H Q):zS (rD g) (rD g') (tD RepB O fa) (tD RepB O fb) (tD RepB O fc) σ H Q:=by
 obtain⟨H0,A0,A,E,ρ,d,st,e,q⟩:=h;obtain⟨x,ex,e⟩:=bind_some e;obtain⟨y,ey,e⟩:=bind_some e;obtain⟨z,Y,e⟩:=bind_some e;obtain⟨b,eb,e⟩:=bind_some e;rw[gT eb]at Y;refine⟨H0,A0,A,E,ρ,x,st,ex,λv H1 G r1=>⟨H0,A0,A,E,ρ,y,st.mono G,ey,λw H2 J W=>⟨A,x,y,_,(st.mono (G.trans J)).live,r1.ext J,W,Y,λz H3 U r3=>⟨b,RepB.bl_inv (.of r3),?_⟩⟩⟩⟩;have F:=(G.trans J).trans U;cases b with
 | false=>rw[if_neg XZ]at e ⊢;cases e;exact q _ H3 F (.bl _)
 | true=>
  rw[if_pos rfl]at e ⊢;obtain⟨u,eu,e⟩:=bind_some e;exact⟨H0,A0,A,E,ρ,u,st.mono F,eu,λz' H4 N r4=>⟨A,y,u,d,(st.mono (F.trans N)).live,W.ext (U.trans N),r4,e,λz2 H5 x5 r5=>q z2 H5 ((F.trans N).trans x5) r5⟩⟩
theorem ER(N:jK X (XY op) g)(q:jK X (XY op') g')(G:PB X O a fa)(F:PB X O b fb)(U:PB X O c fc)
  (J:za6 [op,op'] [b,c]=false:=by with_unfolding_all rfl):PD X O (.Compare a [op,op'] [b,c] pos) (bV g g' fa fb fc):=PE.mono (FY N q G F U J) λσ H Q h=>tY h
theorem CO(N:jK X (XY op) g)(q:jK X (XY op') g')(G:PB X O a fa)(F:PB X O b fb)(U:PB X O c fc)
  (J:za6 [op,op'] [b,c]=false:=by with_unfolding_all rfl):rO X O (.Compare a [op,op'] [b,c] pos) (bZ (bV g g' fa fb fc)):=PT.mono (E6 N q G F U J) λσ H Q h=>tY (i4 h)
def aJ:Lv:=λ_=>some []
def aB(f:Ev)(g:Lv):Lv:=λρ=>(f ρ).bind λx=>(g ρ).bind λxs=>some (x::xs)
theorem jR:sL X O [] aJ:=PA.mono dX λσ H Q ⟨H0,A0,A,E,ρ,d,st,e,q⟩=>by cases e;exact q [] H (Ext.refl _ _) .nil
theorem JM:oG X O [] aJ:=PA.mono dX λσ H Q ⟨H0,A0,A,E,ρ,d,st,e,q⟩=>by cases e;exact q [] H (Ext.refl _ _) .nil
theorem xG(N:∀A H H' d v,Ext A H H'->R A H d v->R A H' d v)(h:tDA R O (aB f g) σ H Q):yD (tD R O f) (tDA R O g) σ H Q:=by
 obtain⟨H0,A0,A,E,ρ,d,st,e,q⟩:=h;obtain⟨x,ex,e⟩:=bind_some e;obtain⟨xs,F,e⟩:=bind_some e;cases e;exact⟨H0,A0,A,E,ρ,x,st,ex,λv H1 G W=>⟨H0,A0,A,E,ρ,xs,st.mono G,F,λvs H2 J U=>q (v::vs) H2 (G.trans J) (.cons (N _ _ _ _ _ J W) U)⟩⟩
theorem FW(F:PD X O e f)(q:sL X O es g)(hs:XI (e::es) X.env=(false,eval e X.env)::XI es X.env:=by rfl):sL X O (e::es) (aB f g):=
 PA.mono (bB F q hs) λσ H Q h=>xG (λ_ _ _ _ _ x r=>r.ext x) h
theorem ET(F:PB X O e f)(q:oG X O es g)(hs:XI (e::es) X.env=(false,eval e X.env)::XI es X.env:=by rfl):oG X O (e::es) (aB f g):=
 PA.mono (bB F q hs) λσ H Q h=>xG (λ_ _ _ _ _ x r=>r.ext x) h
inductive tF(O:List Nat)(f:Ev)(σ:L2.St)(H:Hp)(Q:VK):Prop
 | mk (H0:Hp) (A0 A:Av) (E:List Fact) (ρ:cL) (d:D) (st:ST H0 A0 A E O σ H ρ) (e:f ρ=some d) (q:∀a H',Ext A H H'->H a=none->¬ A a->Own (λb=>A b\/b=a) H' d a->Q (.ref a) H'):tF O f σ H Q
def PF(X:Cx)(O:List Nat)(e:Expr)(f:Ev):Prop:=PE X e (tF O f)
theorem PF.d(h:PF X O e f):PD X O e f:=PE.mono h λσ H Q ⟨H0,A0,A,E,ρ,d,st,e,q⟩=>
 ⟨H0,A0,A,E,ρ,d,st,e,λa H' x n G o=>q _ H' x ((o.av (A':=A) λb F=>.inl (.inl F)).rep G)⟩
theorem RepL.fresh(n:H p=none)(r:RepL A H ds vs):RepL (λb=>A b\/b=p) (upd H p o) ds vs:=by
 have F:RepL (λb=>A b\/b=p) H ds vs:=r.av λb q=>by
  rcases q with q|q
  ·exact .inl q
  ·exact .inr (q ▸ n)
 exact F.ext (Ext.new n)
theorem Ext.free(x:Ext A H H')(n:H' p=none):H p=none:=by
 cases e:H p with
 | none=>rfl
 | some u=>rcases x.rd p u (.inl e)with h|⟨o,h⟩ <;> (rw[n]at h;cases h)
def c8(g:Lv):Ev:=λρ=>(g ρ).map .tup
def mU(g:Lv):Ev:=λρ=>(g ρ).map .lst
theorem RL.length:∀ {ds:List D} {vs:List V},RL R A H ds vs->vs.length=ds.length
 | _,_,.nil=>rfl
 | _,_,.cons _ t=>by rw[Y4,Y4,RL.length t]
noncomputable def aW(n:Nat):Bool:=decide (n<=1000000)
theorem fM(h:aW n=true):n<=XQ:=Y0 (of_decide_eq_true h) (by decide)
theorem nW(h:aW n=true):n<XQ:=zcr (of_decide_eq_true h) (by decide)
theorem map_some{q F:Type}{o:Option q}{f:q->F}{b:F}(h:o.map f=some b):∃a,o=some a/\f a=b:=by
 cases o with
 | none=>cases h
 | some a=>exact⟨a,rfl,YJ h⟩
def Len(g:Lv)(n:Nat):Prop:=∀ρ ds,g ρ=some ds->ds.length=n
theorem K9:Len aJ 0:=λρ ds h=>by cases h;rfl
theorem F7(h:Len g n):Len (aB f g) (n+1):=λρ ds e=>by
 obtain⟨x,ex,e⟩:=bind_some e;obtain⟨xs,q,e⟩:=bind_some e;cases e;rw[Y4,h ρ xs q]
theorem qP{es:List Expr}{F}{pos:Pos}{g:Lv}(h:sL X O es g)(U:∀ρ ds,g ρ=some ds->ds.length<=100):PD X O (.Tuple es F pos) (c8 g):=PE.mono (HP h) <| by
 rintro σ H Q ⟨H0,A0,A,E,ρ,d,st,e,q⟩;obtain⟨ds,G,rfl⟩:=map_some e;refine⟨H0,A0,A,E,ρ,ds,st,G,λvs H1 F N=>⟨by rw[N.length];exact Y0 (U ρ ds G) (by decide),λp J=>?_⟩⟩;exact q _ _ (F.trans (Ext.new J)) (.tup aN (N.toL.ext (Ext.new J)))
theorem QP{es:List Expr}{pos:Pos}{g:Lv}(h:sL X O es g)(U:∀ρ ds,g ρ=some ds->ds.length<=100):PF X O (.List es pos) (mU g):=PE.mono (HX h) <| by
 rintro σ H Q ⟨H0,A0,A,E,ρ,d,st,e,q⟩;obtain⟨ds,J,rfl⟩:=map_some e;refine⟨H0,A0,A,E,ρ,ds,st,J,λvs H1 G N=>⟨by rw[N.length];exact Y0 (U ρ ds J) (by decide),λp F=>?_⟩⟩;exact q p _ (G.trans (Ext.new F)) (G.free F) (λz=>(st.mono G).live p z F) (.lst aN (N.toL.fresh F))
theorem i6:PF X O (.Dict [] [] pos) (eC (.dT [])):=PE.mono GM <| by
 rintro σ H Q ⟨H0,A0,A,E,ρ,d,st,e,q⟩ p F;cases e;exact q p _ (Ext.new F) F (λz=>st.live p z F) (.dT aN rfl .nil)
inductive rC(g:List D->Option D)(xs:List V)(H:Hp)(Q:VK):Prop
 | mk (A:Av) (ds:List D) (d:D) (lv:Live A H) (r:RL RepB A H ds xs) (e:g ds=some d) (q:∀v H',Ext A H H'->Rep A H' d v->Q v H'):rC g xs H Q
inductive rCF(g:List D->Option D)(xs:List V)(H:Hp)(Q:VK):Prop
 | mk (A:Av) (ds:List D) (d:D) (lv:Live A H) (r:RL RepB A H ds xs) (e:g ds=some d) (q:∀a H',Ext A H H'->H a=none->¬ A a->Own (λb=>A b\/b=a) H' d a->Q (.ref a) H'):rCF g xs H Q
def jG(X:Cx)(f:Value)(g:List D->Option D):Prop:=CallR X f (rC g)
def uF(X:Cx)(f:Value)(g:List D->Option D):Prop:=CallR X f (rCF g)
theorem CallR.mono(h:CallR X f r)(x:∀a H Q,r' a H Q->r a H Q):CallR X f r':=λpins s σ H a v Q I q w=>h pins s σ H a v Q I q (x a H Q w)
def aI(g:List D->Option D)(f:Lv):Ev:=λρ=>(f ρ).bind g
theorem tL(h:tD Rep O (aI g f) σ H Q):UR (rC g) (tDA RepB O f) σ H Q:=by
 obtain⟨H0,A0,A,E,ρ,d,st,e,q⟩:=h;obtain⟨ds,G,e⟩:=bind_some e;exact⟨H0,A0,A,E,ρ,ds,st,G,λvs H1 F U=>⟨A,ds,d,(st.mono F).live,U,e,λv H2 J N=>q v H2 (F.trans J) N⟩⟩
theorem tM(h:tF O (aI g f) σ H Q):UR (rCF g) (tDA RepB O f) σ H Q:=by
 obtain⟨H0,A0,A,E,ρ,d,st,e,q⟩:=h;obtain⟨ds,G,e⟩:=bind_some e;exact⟨H0,A0,A,E,ρ,ds,st,G,λvs H1 F U=>⟨A,ds,d,(st.mono F).live,U,e,λa H2 J n N o=>q a H2 (F.trans J) (F.free n) N o⟩⟩
section
variable {x:Str}{id T:String}{g:List D->Option D}{e:Expr}{es:List Expr}{f:Lv}{p pos:Pos}
theorem FG(W:jG X (.builtin id) g)(U:Gl X x)(N:X.mg x=none)(G:YC x=some (.builtin id))(J:oG X O (e::es) f)(hn:x ≠ "__name__" := by decide)(q:(x == ("__debug__" : Str))=false:=by decide)
  (Y:XI (e::es) X.env=(false,eval e X.env)::XI es X.env:=by rfl) (F:(X0 pos (XI es X.env)).any (·.1)=false:=by rfl) :
  PD X O (.Call (.Name x p) (e::es) [] pos) (aI g f):=PE.mono (gU W U N G J hn q Y F) λσ H Q h=>tL h
theorem GP(W:uF X (.builtin id) g)(U:Gl X x)(N:X.mg x=none)(G:YC x=some (.builtin id))(J:oG X O (e::es) f)(hn:x ≠ "__name__" := by decide)(q:(x == ("__debug__" : Str))=false:=by decide)
  (Y:XI (e::es) X.env=(false,eval e X.env)::XI es X.env:=by rfl) (F:(X0 pos (XI es X.env)).any (·.1)=false:=by rfl) :
  PF X O (.Call (.Name x p) (e::es) [] pos) (aI g f):=PE.mono (gU W U N G J hn q Y F) λσ H Q h=>tM h
theorem DG(W:jG X (.type T) g)(U:Gl X x)(N:X.mg x=none)(G:YC x=some (.type T))(J:oG X O (e::es) f)(hn:x ≠ "__name__" := by decide)(q:(x == ("__debug__" : Str))=false:=by decide)
  (Y:XI (e::es) X.env=(false,eval e X.env)::XI es X.env:=by rfl) (F:(X0 pos (XI es X.env)).any (·.1)=false:=by rfl) :
  PD X O (.Call (.Name x p) (e::es) [] pos) (aI g f):=PE.mono (tV W U N G J hn q Y F) λσ H Q h=>tL h
theorem DZ(W:uF X (.type T) g)(U:Gl X x)(N:X.mg x=none)(G:YC x=some (.type T))(J:oG X O (e::es) f)(hn:x ≠ "__name__" := by decide)(q:(x == ("__debug__" : Str))=false:=by decide)
  (Y:XI (e::es) X.env=(false,eval e X.env)::XI es X.env:=by rfl) (F:(X0 pos (XI es X.env)).any (·.1)=false:=by rfl) :
  PF X O (.Call (.Name x p) (e::es) [] pos) (aI g f):=PE.mono (tV W U N G J hn q Y F) λσ H Q h=>tM h
end
def XC(n:Nat)(F:List D->Option D):Sp:=λvs H Q _=>∃A ds d,Live A H/\RepL A H ds vs/\vs.length=n/\F ds=some d/\∀v H',Ext A H H'->Rep A H' d v->Q v H'
def Fn(P:XM)(w:World)(K:XF)(mg:Str->Option Value)(base:Heap)(x:Str)(k:Nat)(ps:List Str)(F:List D->Option D):Prop:=My.Ok P w K mg base x k ps (XC ps.length F)
theorem Fn.mono{P:XM}{w:World}{K:XF}{mg:Str->Option Value}{base:Heap}{x:Str}{j k:Nat}{ps:List Str}{F:List D->Option D}(h:Fn P w K mg base x j ps F)(l:j<=k):Fn P w K mg base x k ps F:=My.Ok.mono h l
theorem MJ(O':Fn X.prog X.w X.K X.mg X.base x k ps F)(hr:Room k X.A)(hg:Gl X x)(ha:sL X O (e::es) f)(Y:∀ρ ds,f ρ=some ds->ds.length=ps.length)(G:(x == ("__debug__" : Str))=false:=by decide)
  (he:XI (e::es) X.env=(false,eval e X.env)::XI es X.env:=by rfl) (J:(X0 pos (XI es X.env)).any (·.1)=false:=by rfl) :
  PD X O (.Call (.Name x p) (e::es) [] pos) (aI F f):=PE.mono (My.lF O' hr hg ha G he J) λσ H Q ⟨H0,A0,A,E,ρ,d,st,e,q⟩=>by
 obtain⟨ds,U,e⟩:=bind_some e;exact⟨H0,A0,A,E,ρ,ds,st,U,λvs H1 N W=>⟨A,ds,d,(st.mono N).live,W.toL,by rw[W.length];exact Y ρ ds U,e,λv H2 x2 r2=>q v H2 (N.trans x2) r2⟩⟩
theorem IxR.mono(h:IxR X r)(x:∀a b H Q,r' a b H Q->r a b H Q):IxR X r':=λF G pins s σ H a b v u Q I J q w=>h F G pins s σ H a b v u Q I J q (x a b H Q w)
def UW:D->D->Option D
 | .lst l,.int i=>fS l i
 | .tup l,.int i=>fS l i
 | .str z,.int i=>if aW z.length then(fS z.cps.toList i).map λc=>.str ⟨#[c]⟩else none
 | _,_=>none
theorem RepL.at(r:RepL A H ds vs)(h:fS ds i=some d):∃v,fS vs i=some v/\Rep A H d v:=by
 obtain⟨j,F,q⟩:=bind_some h;obtain⟨v,J,G⟩:=r.get' q;refine⟨v,?_,G⟩;unfold fS;rw[r.length,F];exact J
theorem VN:IxR X (rD UW):=IxR.mono PK <| by
 rintro x y H Q ⟨A,dx,U,d,W,J,N,e,q⟩;cases U with
 | int i=>
  have:=N.int_inv;subst this;cases dx with
  | lst l=>
   obtain⟨a,xs,rfl,h,r⟩:=J.lst_inv;obtain⟨v,F,G⟩:=r.at e;exact .inl ⟨a,xs,i,v,rfl,rfl,.inl h,F,q v H (Ext.refl _ _) G⟩
  | tup l=>
   obtain⟨a,xs,rfl,h,r⟩:=J.tup_inv;obtain⟨v,F,G⟩:=r.at e;exact .inr (.inl ⟨a,xs,i,v,rfl,rfl,.inl (.inl h),F,q v H (Ext.refl _ _) G⟩)
  | str z=>
   have:=J.str_inv;subst this;simp only[UW]at e;by_cases hz:aW z.length=true
   ·rw[if_pos hz]at e
    obtain⟨c,F,rfl⟩:=map_some e;exact .inr (.inr ⟨z,i,c,rfl,rfl,fM hz,F,q _ H (Ext.refl _ _) (.str _)⟩)
   ·rw[if_neg hz]at e;cases e
  | _=>cases e
 | _=>cases dx <;> cases e
abbrev Ov:=cL->Option (Option Int)
inductive tDO(O:List Nat)(g:Ov)(σ:L2.St)(H:Hp)(Q:Option Int->Hp->Prop):Prop
 | mk (H0:Hp) (A0 A:Av) (E:List Fact) (ρ:cL) (o:Option Int) (st:ST H0 A0 A E O σ H ρ) (e:g ρ=some o) (q:∀H',Ext A H H'->Q o H'):tDO O g σ H Q
def JC(X:Cx)(O:List Nat)(e:Option Expr)(g:Ov):Prop:=PO X e (tDO O g)
theorem PO.mono(h:PO X e t)(x:∀σ H Q,t' σ H Q->t σ H Q):PO X e t':=λpins s σ H Q I w=>h pins s σ H Q I (x σ H Q w)
def fP:Ov:=λ_=>some none
noncomputable def RB:D->Option Int
 | .int i=>some i
 | _=>none
theorem p9(h:RB d=some i):d=.int i:=by cases d <;> cases h;rfl
def eN(f:Ev):Ov:=λρ=>(f ρ).bind λd=>(RB d).map some
theorem lO:JC X O none fP:=PO.mono LA λσ H Q ⟨H0,A0,A,E,ρ,d,st,e,q⟩=>by cases e;exact q H (Ext.refl _ _)
theorem lI{e:Expr}{f:Ev}(h:PD X O e f):JC X O (some e) (eN f):=PO.mono (LW h) <| by
 rintro σ H Q ⟨H0,A0,A,E,ρ,d,st,e,q⟩;obtain⟨x,ex,e⟩:=bind_some e;obtain⟨i,G,rfl⟩:=map_some e;rw[p9 G]at ex;exact⟨H0,A0,A,E,ρ,_,st,ex,λv H1 F J=>⟨i,RepB.int_inv (.of J),q H1 F⟩⟩
def cutD(xs:List D)(lo hi:Option Int):List D:=(xs.drop (HT.sIx xs.length 0 lo)).take (HT.sIx xs.length xs.length hi-HT.sIx xs.length 0 lo)
theorem RepL.cut{ds:List D}{vs:List V}{lo hi:Option Int}(r:RepL A H ds vs):RepL A H (cutD ds lo hi) (sI vs lo hi):=by
 unfold cutD sI;rw[r.length];exact(r.drop _).take _
def wB(g:D->Option Int->Option Int->Option D)(f:Ev)(a b:Ov):Ev:=λρ=>(f ρ).bind λx=>(a ρ).bind λlo=>(b ρ).bind λhi=>g x lo hi
inductive rS(g:D->Option Int->Option Int->Option D)(x:V)(lo hi:Option Int)(H:Hp)(Q:VK):Prop
 | mk (A:Av) (dx d:D) (lv:Live A H) (r:RepB A H dx x) (e:g dx lo hi=some d) (q:∀v H',Ext A H H'->Rep A H' d v->Q v H'):rS g x lo hi H Q
inductive rSF(g:D->Option Int->Option Int->Option D)(x:V)(lo hi:Option Int)(H:Hp)(Q:VK):Prop
 | mk (A:Av) (dx d:D) (lv:Live A H) (r:RepB A H dx x) (e:g dx lo hi=some d) (q:∀a H',Ext A H H'->H a=none->¬ A a->Own (λb=>A b\/b=a) H' d a->Q (.ref a) H'):rSF g x lo hi H Q
theorem SlR.mono(h:SlR X r)(x:∀a b c H Q,r' a b c H Q->r a b c H Q):SlR X r':=λpins s σ H a v F J lo hi N Q I q hs U G w=>h pins s σ H a v F J lo hi N Q I q hs U G (x a lo hi H Q w)
def VP:D->Option Int->Option Int->Option D
 | .tup l,lo,hi=>some (.tup (cutD l lo hi))
 | _,_,_=>none
def EA:D->Option Int->Option Int->Option D
 | .lst l,lo,hi=>some (.lst (cutD l lo hi))
 | _,_,_=>none
theorem xW{lo hi:Option Expr}{g:D->Option Int->Option Int->Option D}{a b:Ov}(Y:SlR X (rS g))(he:PB X O e f)(N:JC X O lo a)(hu:JC X O hi b):PD X O (.Subscript e (.Slice lo hi none p2) pos) (wB g f a b):=
 PE.mono (xI Y he N hu) <| by
  rintro σ H Q ⟨H0,A0,A,E,ρ,d,st,e,q⟩;obtain⟨x,ex,e⟩:=bind_some e;obtain⟨l,el,e⟩:=bind_some e;obtain⟨h,W,e⟩:=bind_some e;exact⟨H0,A0,A,E,ρ,x,st,ex,λv H1 F r1=>⟨H0,A0,A,E,ρ,l,st.mono F,el,λH2 G=>⟨H0,A0,A,E,ρ,h,st.mono (F.trans G),W,λH3 J=>⟨A,x,d,(st.mono ((F.trans G).trans J)).live,r1.ext (G.trans J),e,λv U x4 r4=>q v U (((F.trans G).trans J).trans x4) r4⟩⟩⟩⟩
theorem wY{lo hi:Option Expr}{g:D->Option Int->Option Int->Option D}{a b:Ov}(hr:SlR X (rSF g))(he:PB X O e f)(N:JC X O lo a)(hu:JC X O hi b):PF X O (.Subscript e (.Slice lo hi none p2) pos) (wB g f a b):=
 PE.mono (xI hr he N hu) <| by
  rintro σ H Q ⟨H0,A0,A,E,ρ,d,st,e,q⟩;obtain⟨x,ex,e⟩:=bind_some e;obtain⟨l,el,e⟩:=bind_some e;obtain⟨h,Y,e⟩:=bind_some e;exact⟨H0,A0,A,E,ρ,x,st,ex,λv H1 F r1=>⟨H0,A0,A,E,ρ,l,st.mono F,el,λH2 G=>⟨H0,A0,A,E,ρ,h,st.mono (F.trans G),Y,λH3 J=>⟨A,x,d,(st.mono ((F.trans G).trans J)).live,r1.ext (G.trans J),e,λa W x4 n U o=>q a W (((F.trans G).trans J).trans x4) (((F.trans G).trans J).free n) U o⟩⟩⟩⟩
theorem V5:SlR X (rS VP):=SlR.mono My.MD <| by
 rintro x lo hi H Q ⟨A,dx,d,N,J,e,q⟩;cases dx with
 | tup l=>
  obtain⟨a,xs,rfl,h,r⟩:=J.tup_inv;cases e;by_cases w:HT.sIx xs.length 0 lo=0/\HT.sIx xs.length xs.length hi=xs.length
  ·refine .inr ⟨a,xs,rfl,.inl (.inl h),w,q _ H (Ext.refl _ _) (.tup h ?_)⟩
   have G:sI xs lo hi=xs:=by unfold sI;rw[w.1,w.2];simp
   rw[<- G];exact r.cut
  ·exact .inl ⟨a,xs,rfl,.inl (.inl h),w,λp F=>q _ _ (Ext.new F) (.tup aN (r.cut.ext (Ext.new F)))⟩
 | _=>cases e
theorem Q4:SlR X (rSF EA):=SlR.mono K3 <| by
 rintro x lo hi H Q ⟨A,dx,d,J,G,e,q⟩;cases dx with
 | lst l=>
  obtain⟨a,xs,rfl,h,r⟩:=G.lst_inv;cases e;exact⟨a,xs,rfl,.inl h,λp F=>q p _ (Ext.new F) F (λz=>J p z F) (.lst aN (r.cut.fresh F))⟩
 | _=>cases e
end
inductive Out where
 | nx (ρ:cL)|rt (d:D)|bk (ρ:cL)|ct (ρ:cL)
abbrev Sv:=cL->Option Out
structure Lp where
 ob:List Nat
 oc:List Nat
def V2(L:Lp)(H0:Hp)(A0:Av)(E:List Fact)(O':List Nat)(T:Ends):Out->Prop
 | .nx ρ=>∀A σ H,ST H0 A0 A E O' σ H ρ->T.nx σ H
 | .rt d=>∀v H,Ext A0 H0 H->Rep A0 H d v->T.rt v H
 | .bk ρ=>∀A σ H,ST H0 A0 A E L.ob σ H ρ->T.bk σ H
 | .ct ρ=>∀A σ H,ST H0 A0 A E L.oc σ H ρ->T.ct σ H
inductive tS(L:Lp)(O:List Nat)(f:Sv)(O':List Nat)(T:Ends)(σ:L2.St)(H:Hp):Prop
 | mk (H0:Hp) (A0 A:Av) (E:List Fact) (ρ:cL) (out:Out) (st:ST H0 A0 A E O σ H ρ) (e:f ρ=some out) (p:V2 L H0 A0 E O' T out):tS L O f O' T σ H
def PSD(X:Cx)(L:Lp)(O:List Nat)(st:Stmt)(f:Sv)(O':List Nat):Prop:=PS X st (tS L O f O')
def PSDs(X:Cx)(L:Lp)(O:List Nat)(st:List Stmt)(f:Sv)(O':List Nat):Prop:=PSs X st (tS L O f O')
section
variable {X:Cx}{L:Lp}{O O' O2:List Nat}
theorem PS.mono{st:Stmt}{t t':TS}(h:PS X st t)(x:∀T σ H,t' T σ H->t T σ H):PS X st t':=λpins s σ H T I w=>h pins s σ H T I (x T σ H w)
theorem PSs.mono{st:List Stmt}{t t':TS}(h:PSs X st t)(x:∀T σ H,t' T σ H->t T σ H):PSs X st t':=λpins s σ H T I w=>h pins s σ H T I (x T σ H w)
noncomputable def Sub(a b:List Nat):Bool:=a.all λi=>b.contains i
theorem Sub.mem(h:Sub a b=true)(i:Nat)(hi:i∈a):i∈b:=by
 have:=(List.all_eq_true.mp h) i hi;simpa using this
theorem tS.pre(h:Sub O1 O=true)(t:tS L O f O' T σ H):tS L O1 f O' T σ H:=by
 obtain⟨H0,A0,A,E,ρ,q,st,e,p⟩:=t;obtain⟨A',F⟩:=st.shut (Sub.mem h);exact⟨H0,A0,A',E,ρ,q,F,e,p⟩
theorem PSDs.pre{st:List Stmt}{O1:List Nat}(t:PSDs X L O1 st f O')(h:Sub O1 O=true):PSDs X L O st f O':=PSs.mono t λT σ H z=>tS.pre h z
theorem PSD.pre{st:Stmt}{f:Sv}{O1:List Nat}(t:PSD X L O1 st f O')(h:Sub O1 O=true):PSD X L O st f O':=PS.mono t λT σ H z=>tS.pre h z
def gF:Sv:=λρ=>some (.nx ρ)
def bE(f g:Sv):Sv:=λρ=>(f ρ).bind λo=>match o with
 | .nx ρ'=>g ρ'
 | o=>some o
theorem AH(h:Sub O' O=true:=by rfl):PSDs X L O [] gF O':=PSs.mono BL <| by
 rintro T σ H ⟨H0,A0,A,E,ρ,F,st,e,p⟩;cases e;obtain⟨A',q⟩:=st.shut (Sub.mem h);exact p A' σ H q
theorem KJ(h:tS L O (bE f g) O' T σ H):T7 (tS L O f O2) (tS L O2 g O') T σ H:=by
 obtain⟨H0,A0,A,E,ρ,q,st,e,p⟩:=h;obtain⟨o,G,e⟩:=bind_some e;refine⟨H0,A0,A,E,ρ,o,st,G,?_⟩;cases o with
 | nx ρ'=>exact λA' J H' F=>⟨H0,A0,A',E,ρ',q,F,e,p⟩
 | rt d=>cases e;exact p
 | bk d=>cases e;exact p
 | ct d=>cases e;exact p
theorem GL{st:Stmt}{rest:List Stmt}{f g:Sv}(h1:PSD X L O st f O2)(h2:PSDs X L O2 rest g O'):PSDs X L O (st::rest) (bE f g) O':=PSs.mono (lL h1 h2) λT σ H h=>KJ h
theorem aK{st:Stmt}{f:Sv}(h1:PSD X L O st f O'):PSDs X L O [st] f O':=BZ h1
def CA(f:Ev):Sv:=λρ=>(f ρ).map .rt
theorem JR{e:Expr}{pos:Pos}{f:Ev}(q:PD X O e f):PSD X L O (.Return (some e) pos) (CA f) O':=PS.mono (HD q) <| by
 rintro T σ H ⟨H0,A0,A,E,ρ,F,st,e,p⟩;obtain⟨d,G,rfl⟩:=map_some e;exact⟨H0,A0,A,E,ρ,d,st,G,λv H' x r=>p v H' (st.mono x).ex (r.av λa J=>.inl (st.sub a J))⟩
def l6(f:Ev):Sv:=λρ=>(f ρ).map λ_=>.nx ρ
theorem FC{e:Expr}{pos:Pos}{f:Ev}(F:PB X O e f)(hs:YL e none pos.line X.env=pure false:=by rfl)(h:Sub O' O=true:=by rfl):PSD X L O (.Expr e pos) (l6 f) O':=PS.mono (n9 F hs) <| by
 rintro T σ H ⟨H0,A0,A,E,ρ,G,st,e,p⟩;obtain⟨d,J,rfl⟩:=map_some e;refine⟨H0,A0,A,E,ρ,d,st,J,λv H' x r=>?_⟩;obtain⟨A',q⟩:=(st.mono x).shut (Sub.mem h);exact p A' σ H' q
def eR(c:Bv)(f g:Sv):Sv:=λρ=>(c ρ).bind λb=>if b=true then f ρ else g ρ
theorem zM{c:Expr}{a b:List Stmt}{pos:Pos}{g:Bv}{f k:Sv}(U:rO X O c g)(J:PSDs X L O a f O')(G:PSDs X L O b k O'):PSD X L O (.If c a b pos) (eR g f k) O':=PS.mono (TB U J G) <| by
 rintro T σ H ⟨H0,A0,A,E,ρ,q,st,e,p⟩;obtain⟨b,N,e⟩:=bind_some e;refine⟨H0,A0,A,E,ρ,b,st,N,λH1 F=>?_⟩;cases b with
 | true=>rw[if_pos rfl]at e ⊢;exact⟨H0,A0,A,E,ρ,q,st.mono F,e,p⟩
 | false=>rw[if_neg XZ]at e ⊢;exact⟨H0,A0,A,E,ρ,q,st.mono F,e,p⟩
def cF(i:Nat)(f:Ev):Sv:=λρ=>(f ρ).map λd=>.nx (ρ.set i (some d))
theorem Sub.er{a b:List Nat}{i j:Nat}(h:Sub a (b.filter (· != i))=true)(q:j∈a):j∈b/\j≠i:=by
 have:=Sub.mem h j q;rw[List.mem_filter]at this;exact⟨this.1,by simpa using this.2⟩
theorem AL{i:Nat}{x:Str}{e:Expr}{pos pos':Pos}{f:Ev}(Y:X.N.Nodup)(hi:X.N[i]?=some x)(hx:Loc X.env.scope x)(he:PD X O e f)(h:Sub O' (O.filter (· != i))=true:=by rfl)
  (hs:YL e (some (.Name x pos')) pos.line X.env=pure false:=by rfl) (W:X.fn x=true\/X.env.scope.names.lookup x=some .local:=by first|exact .inl rfl|exact .inr rfl):PSD X L O (.Assign [.Name x pos'] e pos) (cF i f) O':=
 PS.mono (qQ Y hi hx he hs W) <| by
  rintro T σ H ⟨H0,A0,A,E,ρ,J,st,e,p⟩;obtain⟨d,U,rfl⟩:=map_some e;refine⟨H0,A0,A,E,ρ,d,st,U,λv H' x r=>?_⟩
  -- i leaves what may be written ahead of the store: the value is borne by fewer too
  have G:=(st.mono x).more r;obtain⟨A',F⟩:=G.shut (O':=O') λj hj=>(Sub.er h hj).1
  exact p A' _ H' ((F.put (F.ext _ (X8 ..)) λz=>(Sub.er h z).2 rfl).less λq hq=>YH _ hq)
theorem Own.there:Own A H d a->H a≠none
 | .lst h _=>by rw[h];exact λz=>nomatch z
 | .dK h _ _=>by rw[h];exact λz=>nomatch z
 | .dT h _ _=>by rw[h];exact λz=>nomatch z
theorem ST.own_put(s:ST H0 A0 A E O σ H ρ)(x:Ext A H H')(n:H a=none)(na:¬ A a)(o:Own (λb=>A b\/b=a) H' d a)(ni:i∉O) :
  ST H0 A0 (λb=>A b\/b=a) E (i::O) (σ.set i (some (.ref a))) H' (ρ.set i (some d)):=by
 have s':=s.mono x;have n0:H0 a=none:=s.ex.free n
 -- whatever was borne ahead avoids a
 have N:Ext (λb=>A b\/b=a) H H':=⟨x.rd,x.kp,λb u q e=>q.elim (λq=>x.ow b u q e) λq=>(by subst q;rw[n]at e;exact nomatch e),x.fz⟩;have ad:∀ {p:Fact},p.Holds A H->p.Holds (λb=>A b\/b=a) H':=λr=>Fact.ext N (Fact.av (A':=λb=>A b\/b=a) (λb q=>by
   rcases q with q|q
   ·exact .inl q
   ·exact .inr (q ▸ n)) r)
 have up:∀ {d:D} {v:V},Rep A H d v->Rep (λb=>A b\/b=a) H' d v:=λr=>by
  have r1:Rep (λb=>A b\/b=a) H _ _:=r.av λb q=>by
   rcases q with q|q
   ·exact .inl q
   ·exact .inr (q ▸ n)
  exact r1.ext N
 have ae:∀ {d:D} {b:Addr},A b->Own A H d b->Own (λc=>A c\/c=a) H' d b:=λq r=>by
  have r1:Own (λc=>A c\/c=a) H _ _:=r.av λb q=>by
   rcases q with q|q
   ·exact .inl q
   ·exact .inr (q ▸ n)
  exact r1.ext N (.inl q)
 have ha:H' a≠none:=o.there;refine⟨s'.ex,λb q=>.inl (s.sub b q),s.l0,λb q=>?_,by simp[s.len],λj d' h' n'=>?_,λj d' h' n'=>?_,λj k U d2 b hj hk h1 h2 G h4=>?_,λp hp=>ad (s.ext p hp)⟩
 ·rcases q with q|q
  ·exact s'.live b q
  ·subst q;exact ha
 ·rcases cN h' with⟨e,F,l⟩|⟨e,F⟩
  ·exact absurd (List.mem_cons.mpr (.inl e)) n'
  ·obtain⟨w,h1,h2⟩:=s.val j d' F λz=>n' (YH _ z)
   exact⟨w,by rw[iG e];exact h1,up h2⟩
 ·rcases cN h' with⟨e,F,l⟩|⟨e,F⟩
  ·subst e;cases F
   exact⟨a,sig_set (by rw[s.len];exact l),.inr rfl,n0,o⟩
  ·rcases List.mem_cons.mp n' with z|z
   ·exact absurd z e
   ·obtain⟨w,h1,h2,G,h4⟩:=s.own j d' F z
    exact⟨w,by rw[iG e];exact h1,.inl h2,G,ae h2 h4⟩
 ·have J:∀ {j:Nat} {U:D},j∈i::O->(ρ.set i (some d))[j]?=some (some U)->(σ.set i (some (.ref a)))[j]?=some (some (.ref b))->(j=i/\b=a)\/(j≠i/\j∈O/\ρ[j]?=some (some U)/\σ[j]?=some (some (.ref b))/\b≠a):=by
   intro j U hj h1 G;rcases cN h1 with⟨e,F,l⟩|⟨e,F⟩
   ·subst e
    rw[sig_set (by rw[s.len];exact l)]at G;cases G;exact .inl ⟨rfl,rfl⟩
   ·rcases List.mem_cons.mp hj with z|z
    ·exact absurd z e
    ·rw[iG e]at G
     obtain⟨w,q1,q2,_⟩:=s.own j U F z;rw[G]at q1;cases q1;exact .inr ⟨e,z,F,G,λz=>na (z ▸ q2)⟩
  rcases J hj h1 G with⟨e1,F⟩|⟨e1,F,e3,e4,e5⟩
  ·rcases J hk h2 h4 with⟨Y,W⟩|⟨Y,W,f3,f4,f5⟩
   ·rw[e1,Y]
   ·exact absurd F f5
  ·rcases J hk h2 h4 with⟨Y,W⟩|⟨Y,W,f3,f4,f5⟩
   ·exact absurd W e5
   ·exact s.inj j k U d2 b F W e3 f3 e4 f4
theorem ES{i:Nat}{x:Str}{e:Expr}{pos pos':Pos}{f:Ev}(U:X.N.Nodup)(hi:X.N[i]?=some x)(W:Loc X.env.scope x)(he:PF X O e f)(h:Sub O' (i::O)=true:=by rfl)(hn:O.contains i=false:=by rfl)
  (hs:YL e (some (.Name x pos')) pos.line X.env=pure false:=by rfl) (J:X.fn x=true\/X.env.scope.names.lookup x=some .local:=by first|exact .inl rfl|exact .inr rfl):PSD X L O (.Assign [.Name x pos'] e pos) (cF i f) O':=
 PS.mono (qQ U hi W he hs J) <| by
  rintro T σ H ⟨H0,A0,A,E,ρ,F,st,e,p⟩;obtain⟨d,G,rfl⟩:=map_some e;refine⟨H0,A0,A,E,ρ,d,st,G,λa H' x n na o=>?_⟩;have Y:i∉O:=λz=>by
   have:O.contains i=true:=by simpa using z
   rw[hn]at this;cases this
  obtain⟨A1,q⟩:=(st.own_put x n na o Y).shut (Sub.mem h);exact p A1 _ H' q
theorem ST.write(s:ST H0 A0 A E O σ H ρ)(hi:ρ[i]?=some (some d))(hO:i∈O)(hs:σ[i]?=some (some (.ref a)))(U:A a)(h0:H0 a=none)(hu:H a=some u)(ob:RK u)(hn:Own A (upd H a o) d' a) :
  ST H0 A0 A E O σ (upd H a o) (ρ.set i (some d')):=by
 have F:∀b,H0 b≠none->b≠a:=λb hb z=>hb (z ▸ h0)
 refine⟨⟨λb w r=>?_,λb xs k r=>?_,λb w n r=>?_,λb q w r=>?_⟩,s.sub,s.l0,λb hb=>?_,by simp[s.len],λj d2 h' J=>?_,λj d2 h' J=>?_,λj k W d2 b hj hk h1 h2 Y h4=>?_,λp hp=>Fact.put U hu ob (s.ext p hp)⟩
 ·refine jA (F b ?_) (s.ex.rd b w r)
  rcases r with r|⟨_,r⟩ <;> (rw[r];exact λz=>nomatch z)
 ·rw[aL (F b (by rw[r];exact λz=>nomatch z))];exact s.ex.kp b xs k r
 ·rw[aL (F b (by rw[r];exact λz=>nomatch z))];exact s.ex.ow b w n r
 ·rw[aL (F b (by rw[r];exact λz=>nomatch z))];exact s.ex.fz b q w r
 ·by_cases e:b=a
  ·subst e;rw[aN];exact λz=>nomatch z
  ·rw[aL e];exact s.live b hb
 ·rcases cN h' with⟨e,G,l⟩|⟨e,G⟩
  ·subst e;exact absurd hO J
  ·obtain⟨w,h1,h2⟩:=s.val j d2 G J
   exact⟨w,h1,h2.put U hu ob⟩
 ·rcases cN h' with⟨e,G,l⟩|⟨e,G⟩
  ·subst e;cases G;exact⟨a,hs,U,h0,hn⟩
  ·obtain⟨b,h1,h2,Y,h4⟩:=s.own j d2 G J
   refine⟨b,h1,h2,Y,h4.put U hu ob λz=>?_⟩;subst z;exact e (s.inj j i d2 d b J hO G hi h1 hs)
 ·have N:∀ {j:Nat} {W:D},(ρ.set i (some d'))[j]?=some (some W)->∃d0,ρ[j]?=some (some d0):=by
   intro j W h;rcases cN h with⟨e,_,_⟩|⟨_,e⟩
   ·subst e;exact⟨d,hi⟩
   ·exact⟨W,e⟩
  obtain⟨x,hx⟩:=N h1;obtain⟨y,hy⟩:=N h2;exact s.inj j k x y b hj hk hx hy Y h4
noncomputable def mem(O:List Nat)(i:Nat):Bool:=O.contains i
theorem fZ(h:mem O i=true):i∈O:=by simpa[mem]using h
def mR(i:Nat)(f:Ev):Sv:=λρ=>(aA i ρ).bind λx=>match x with
 | .lst l=>(f ρ).bind λd=>if aW l.length then some (.nx (ρ.set i (some (.lst (l++[d])))))else none
 | _=>none
theorem zL{o e:Expr}{i:Nat}{apos cpos pos:Pos}{f:Ev}(ho:PE X o (iN i))(he:PD X O e f)(J:mem O i=true)(Y:PE X (.Call (.Attribute o "append" apos) [e] [] cpos) (UZ X.K "list" BB (iN i) (yD (tD Rep O f) RA)))
  (hs:YL (.Call (.Attribute o "append" apos) [e] [] cpos) none pos.line X.env=pure false:=by rfl) (h:Sub O' O=true:=by rfl):PSD X L O (.Expr (.Call (.Attribute o "append" apos) [e] [] cpos) pos) (mR i f) O':=
 PS.mono (n9 Y hs) <| by
  rintro T σ H ⟨H0,A0,A,E,ρ,U,st,e,p⟩;obtain⟨x,ex,e⟩:=bind_some e;cases x with
  | lst l=>
   obtain⟨d,ed,e⟩:=bind_some e;by_cases hz:aW l.length=true
   ·rw[if_pos hz]at e
    cases e;obtain⟨a,G,q,e3,W⟩:=st.own i _ (bQ ex) (fZ J);cases W with
    | lst h4 r4=>
     refine⟨_,G,.inl ⟨rfl,_,SqL.of h4⟩,H0,A0,A,E,ρ,d,st,ed,λv H' x r=>⟨a,_,v,rfl,rfl,x.ow _ _ q h4,by rw[r4.length];exact nW hz,?_⟩⟩;have N:=x.ow _ _ q h4;obtain⟨A',F⟩:=((st.mono x).write (o:=.lst _) (bQ ex) (fZ J) G q e3 N trivial (.lst aN (((r4.ext x).append (.cons r .nil)).put q N trivial))).shut (Sub.mem h);exact p A' σ _ F
   ·rw[if_neg hz]at e;cases e
  | _=>cases e
def UX:D->Option Key
 | .int i=>some (.inl i)
 | .str x=>some (.inr x)
 | _=>none
def IZ:List D->Option (List Key)
 | []=>some []
 | d::ds=>(UX d).bind λk=>(IZ ds).bind λks=>some (k::ks)
def EM:D->Option (List Key)
 | .tup l=>IZ l
 | _=>none
noncomputable def gB{κ:Type}[DecidableEq κ](l:List (κ×D))(k:κ):Option D:=(l.find? λp=>decide (p.1=k)).map (·.2)
noncomputable def putD{κ:Type}[DecidableEq κ](l:List (κ×D))(k:κ)(d:D):List (κ×D):=if l.any (λp=>decide (p.1=k))then l.map (λp=>if p.1=k then(p.1,d)else p)else l++[(k,d)]
end
section
variable {A:Av}{H:Hp}
section
variable {κ:Type}[DecidableEq κ]
abbrev PP(A:Av)(H:Hp):List (κ×D)->List (κ×V)->Prop:=YQ λ(p:κ×D) (q:κ×V)=>p.1=q.1/\Rep A H p.2 q.2
theorem rJ:∀ {l:List (κ×D)} {xs:List (κ×V)},xs.map (·.1)=l.map (·.1)->RepL A H (l.map (·.2)) (xs.map (·.2))->PP A H l xs
 | [],[],_,_=>.nil
 | [],_::_,e,_=>by cases e
 | _::_,[],e,_=>by cases e
 | p::l,q::xs,e,r=>by
  rw[XW,XW]at e r;injection e with e1 e2
  cases r with
  | cons h t=>exact .cons ⟨e1.symm,h⟩ (rJ e2 t)
theorem IT:∀ {l:List (κ×D)} {xs:List (κ×V)},PP A H l xs->xs.map (·.1)=l.map (·.1)/\RepL A H (l.map (·.2)) (xs.map (·.2))
 | _,_,.nil=>⟨rfl,.nil⟩
 | _,_,.cons h t=>by
  obtain⟨e,r⟩:=IT t;exact⟨by rw[XW,XW,h.1,e],.cons h.2 r⟩
theorem G7(k:κ)(h:PP A H l xs):(gB l k=none/\mB xs k=none)\/∃d v,gB l k=some d/\mB xs k=some v/\Rep A H d v:=by
 induction h with
 | nil=>exact .inl ⟨rfl,rfl⟩
 | @cons p q l xs h t ih=>
  by_cases e:p.1=k
  ·refine .inr ⟨p.2,q.2,?_,lJ (h.1 ▸ e),h.2⟩
   simp[gB,ZC,e]
  ·have F:¬ q.1=k:=λz=>e (h.1.trans z)
   have a:gB (p::l) k=gB l k:=by simp[gB,ZC,e]
   rw[a,lH F];exact ih
theorem PV(k:κ)(h:PP A H l xs):(l.any λp=>decide (p.1=k))=xs.any λp=>decide (p.1=k):=by
 induction h with
 | nil=>rfl
 | cons h t ih=>rw[Z1,Z1,ih,h.1]
theorem QK(k:κ)(r:Rep A H d v)(h:PP A H l xs):PP A H (l.map λp=>if p.1=k then(p.1,d)else p) (xs.map λp=>if p.1=k then(p.1,v)else p):=by
 induction h with
 | nil=>exact .nil
 | @cons p q l xs h t ih=>
  rw[XW,XW];refine .cons ?_ ih;by_cases e:p.1=k
  ·rw[if_pos e,if_pos (h.1 ▸ e)];exact⟨h.1,r⟩
  ·rw[if_neg e,if_neg (λz=>e (h.1.trans z))];exact h
theorem OG(h:PP A H l xs)(h':PP A H m ys):PP A H (l++m) (xs++ys):=by
 induction h with
 | nil=>exact h'
 | cons h t ih=>exact .cons h ih
theorem GV(k:κ)(r:Rep A H d v)(h:PP A H l xs):PP A H (putD l k d) (putK xs k v):=by
 unfold putD putK;rw[PV k h];by_cases e:(xs.any λp=>decide (p.1=k))=true
 ·rw[if_pos e,if_pos e];exact QK k r h
 ·rw[if_neg e,if_neg e];exact OG h (.cons ⟨rfl,r⟩ .nil)
end
theorem vJ(h:UX d=some k)(r:RepB A H d v):v=kV k:=by
 cases d <;> cases h
 ·exact r.int_inv
 ·exact r.str_inv
theorem xZ:∀ {ds:List D} {ks:List Key} {vs:List V},IZ ds=some ks->RepL A H ds vs->vs=ks.map kV
 | _,_,_,h,.nil=>by cases h;rfl
 | _,_,_,h,.cons r t=>by
  obtain⟨k,F,h⟩:=bind_some h;obtain⟨ks,q,h⟩:=bind_some h;cases h;rw[XW,vJ F (.of r),xZ q t]
theorem AM(h:EM d=some k)(r:RepB A H d v):∃b,v=.ref b/\H b=some (.tup (k.map kV)):=by
 cases d <;> try cases h
 rename_i l;obtain⟨a,xs,rfl,h1,h2⟩:=r.tup_inv;exact⟨a,rfl,by rw[h1,xZ h h2]⟩
def eQ:D->D->Option (Option D)
 | .dK l,k=>(UX k).map λk=>gB l k
 | .dT l,k=>(EM k).map λk=>gB l k
 | _,_=>none
theorem pX{d k:D}{x y:V}{o:Option D}(h:eQ d k=some o)(J:RepB A H d x)(N:RepB A H k y):∃a G,x=.ref a/\RG H a/\DGet H a y G/\((o=none/\G=none)\/∃z v,o=some z/\G=some v/\Rep A H z v):=by
 cases d with
 | dK l=>
  obtain⟨q,F,rfl⟩:=map_some h;obtain⟨a,xs,rfl,h1,e,r⟩:=J.dK_inv;have:=vJ F N;subst this;refine⟨a,_,rfl,.inl ⟨xs,h1⟩,.inl ⟨xs,q,h1,rfl,rfl⟩,G7 q (rJ e r)⟩
 | dT l=>
  obtain⟨q,F,rfl⟩:=map_some h;obtain⟨a,xs,rfl,h1,e,r⟩:=J.dT_inv;obtain⟨b,rfl,U⟩:=AM F N;exact⟨a,_,rfl,.inr ⟨xs,h1⟩,.inr ⟨xs,q,b,h1,rfl,U,rfl⟩,G7 q (rJ e r)⟩
 | _=>cases h
end
section
variable {X:Cx}{O O':List Nat}{L:Lp}
theorem PE.or(h:PE X e t)(k:PE X e u):PE X e (λσ H Q=>t σ H Q\/u σ H Q):=λpins s σ H Q I w=>w.elim (h pins s σ H Q I) (k pins s σ H Q I)
def a6(d k:D):Option D:=match d with
 | .dK _=>(eQ d k).join
 | .dT _=>(eQ d k).join
 | _=>UW d k
theorem pT{q:Type}{o:Option (Option q)}{d:q}(h:o.join=some d):o=some (some d):=by
 cases o with
 | none=>cases h
 | some o=>cases o with
  | none=>cases h
  | some x=>cases h;rfl
theorem wX{N J:Ev}{σ:L2.St}{H:Hp}{Q:VK}(h:tD Rep O (aQ (λd k=>(eQ d k).join) N J) σ H Q):NA (tD RepB O N) (tD RepB O J) σ H Q:=by
 obtain⟨H0,A0,A,E,ρ,d,st,e,q⟩:=h;obtain⟨x,ex,e⟩:=bind_some e;obtain⟨y,ey,e⟩:=bind_some e;refine⟨H0,A0,A,E,ρ,x,st,ex,λv H1 G r1=>⟨H0,A0,A,E,ρ,y,st.mono G,ey,λw H2 U r2=>?_⟩⟩;obtain⟨a,ov,e1,_,g,F⟩:=pX (pT e) (r1.ext U) r2;rcases F with⟨F,_⟩|⟨z,W,F,e3,Y⟩
 ·cases F
 ·cases F;subst e3
  exact⟨a,W,e1,g,q W H2 (G.trans U) Y⟩
theorem BQ(W:X.A.units+1<cLine)(N:PB X O a fa)(J:PB X O b fb)(hs:u6 b):PD X O (.Subscript a b pos) (aQ a6 fa fb):=
 PE.mono (PE.or (SL VN N J hs) (JH W N J hs)) <| by
  rintro σ H Q ⟨H0,A0,A,E,ρ,d,st,e,q⟩;obtain⟨x,ex,G⟩:=bind_some e;obtain⟨y,U,G⟩:=bind_some G;have F:∀g:D->D->Option D,g x y=some d->tD Rep O (aQ g fa fb) σ H Q:=λg h=>⟨H0,A0,A,E,ρ,d,st,by unfold aQ;rw[ex,U];exact h,q⟩
  cases x with
  | dK l=>exact .inr (wX (F _ G))
  | dT l=>exact .inr (wX (F _ G))
  | _=>exact .inl (vO (F UW G))
def l8(fd F q:Ev):Ev:=λρ=>(fd ρ).bind λd=>(F ρ).bind λk=>(q ρ).bind λe=>(eQ d k).map λo=>o.getD e
theorem OK(k:D)(h:eQ d k=some o)(r:RepB A H d v):∃a,v=.ref a/\RG H a:=by
 cases d with
 | dK l=>obtain⟨a,xs,rfl,h1,_⟩:=r.dK_inv;exact⟨a,rfl,.inl ⟨xs,h1⟩⟩
 | dT l=>obtain⟨a,xs,rfl,h1,_⟩:=r.dT_inv;exact⟨a,rfl,.inr ⟨xs,h1⟩⟩
 | _=>cases h
theorem MG(hu:X.A.units+1<cLine)(ho:PB X O o fd)(he:PB X O e fk)(hf:PD X O f fe)(m:M2 X o "get" apos e f cpos):PD X O (.Call (.Attribute o "get" apos) [e,f] [] cpos) (l8 fd fk fe):=
 PE.mono (F5 hu ho he hf m) <| by
  rintro σ H Q ⟨H0,A0,A,E,ρ,d,st,e,q⟩;obtain⟨x,ex,e⟩:=bind_some e;obtain⟨y,ey,e⟩:=bind_some e;obtain⟨z,ez,e⟩:=bind_some e;obtain⟨ov,Y,rfl⟩:=map_some e;refine⟨H0,A0,A,E,ρ,x,st,ex,λv H1 G r1=>?_⟩;obtain⟨a,W,U⟩:=OK y Y r1;refine⟨a,W,U,H0,A0,A,E,ρ,y,st.mono G,ey,λw H2 J r2=>⟨H0,A0,A,E,ρ,z,st.mono (G.trans J),ez,λu H3 F r3=>?_⟩⟩;obtain⟨a',N,e2,_,g,e3⟩:=pX Y (r1.ext (J.trans F)) (r2.ext F);rw[W]at e2;cases e2;refine⟨N,g,?_⟩;rcases e3 with⟨rfl,rfl⟩|⟨z',v',rfl,rfl,r4⟩
  ·exact q u H3 ((G.trans J).trans F) r3
  ·exact q v' H3 ((G.trans J).trans F) r4
def k6(d k e:D):Option D:=match d with
 | .dK l=>(UX k).bind λk=>if aW l.length then some (.dK (putD l k e))else none
 | .dT l=>(EM k).bind λk=>if aW l.length then some (.dT (putD l k e))else none
 | .lst l=>(RB k).bind λk=>(JD l.length k).map λj=>.lst (l.set j e)
 | _=>none
def jH(i:Nat)(F q:Ev):Sv:=λρ=>(q ρ).bind λe=>(aA i ρ).bind λx=>(F ρ).bind λk=>(k6 x k e).map λd=>.nx (ρ.set i (some d))
theorem PS.or{st:Stmt}{t u:TS}(h:PS X st t)(k:PS X st u):PS X st (λT σ H=>t T σ H\/u T σ H):=λpins s σ H T I w=>w.elim (h pins s σ H T I) (k pins s σ H T I)
theorem LU{o k value:Expr}{i:Nat}{pos pos':Pos}{fk fe:Ev}(F:X.A.units+1<cLine)(ho:PE X o (iN i))(hk:PB X O k fk)(hv:PD X O value fe)(hO:mem O i=true)(h:Sub O' O=true:=by rfl)
  (hs:YL value (some (.Subscript o k pos')) pos.line X.env=pure false:=by rfl) (ah:zb7 [.Subscript o k pos'] value pos.line X.env=pure false:=by rfl) (hw:zb8 [.Subscript o k pos'] value X.env=pure none:=by rfl)
  (hg:∀ {to ti:TE} {t:IY},PE X o to->PE X k ti->MN X t->PG X (.Subscript o k pos') (Q0 to ti t):=by intro _ _ _ a b c;exact HQ a b c) :
  PSD X L O (.Assign [.Subscript o k pos'] value pos) (jH i fk fe) O':=
 PS.mono (PS.or (KA F ho hk hv hs) (HL hv (hg ho hk set_list) ah hw)) <| by
  rintro T σ H ⟨H0,A0,A,E,ρ,ax,st,e,p⟩;obtain⟨z,ez,e⟩:=bind_some e;obtain⟨x,ex,e⟩:=bind_some e;obtain⟨y,ey,e⟩:=bind_some e;obtain⟨d,ed,rfl⟩:=map_some e;obtain⟨a,Y,N,e3,e4⟩:=st.own i _ (bQ ex) (fZ hO);cases x with
  | dK l=>
   obtain⟨kk,e5,G⟩:=bind_some ed;by_cases hz:aW l.length=true
   ·rw[if_pos hz]at G;cases G
    refine .inl ⟨H0,A0,A,E,ρ,z,st,ez,λv H1 U r1=>⟨_,Y,H0,A0,A,E,ρ,y,st.mono U,ey,λw H2 W r2=>?_⟩⟩;have q:=U.trans W;cases e4 with
    | @dK _ _ xs h4 ee r4=>
     have F:=q.ow _ _ N h4;have hl:xs.length=l.length:=by have:=congrArg zay ee;simpa using this
     have:=vJ e5 r2;subst this;refine⟨a,_,rfl,DPut.k F (by rw[hl];exact nW hz),?_⟩;obtain⟨e7,r7⟩:=IT (GV kk (r1.ext W) (rJ ee (r4.ext q)));obtain⟨A',J⟩:=((st.mono q).write (o:=.dK _) (bQ ex) (fZ hO) Y N e3 F trivial (.dK aN e7 (r7.put N F trivial))).shut (Sub.mem h);exact p A' σ _ J
   ·rw[if_neg hz]at G;cases G
  | dT l=>
   obtain⟨kk,e5,G⟩:=bind_some ed;by_cases hz:aW l.length=true
   ·rw[if_pos hz]at G;cases G
    refine .inl ⟨H0,A0,A,E,ρ,z,st,ez,λv H1 U r1=>⟨_,Y,H0,A0,A,E,ρ,y,st.mono U,ey,λw H2 W r2=>?_⟩⟩;have q:=U.trans W;cases e4 with
    | @dT _ _ xs h4 ee r4=>
     have F:=q.ow _ _ N h4;have hl:xs.length=l.length:=by have:=congrArg zay ee;simpa using this
     obtain⟨b,rfl,hb⟩:=AM e5 r2;refine⟨a,_,rfl,DPut.t F hb (by rw[hl];exact nW hz),?_⟩;obtain⟨e7,r7⟩:=IT (GV kk (r1.ext W) (rJ ee (r4.ext q)));obtain⟨A',J⟩:=((st.mono q).write (o:=.dT _) (bQ ex) (fZ hO) Y N e3 F trivial (.dT aN e7 (r7.put N F trivial))).shut (Sub.mem h);exact p A' σ _ J
   ·rw[if_neg hz]at G;cases G
  | lst l=>
   obtain⟨kk,e5,G⟩:=bind_some ed;obtain⟨j,e7,rfl⟩:=map_some G;refine .inr ⟨H0,A0,A,E,ρ,z,st,ez,λv H1 U r1=>⟨_,Y,H0,A0,A,E,ρ,y,st.mono U,ey,λw H2 W r2=>?_⟩⟩;have q:=U.trans W;cases e4 with
   | @lst _ _ xs h4 r4=>
    have F:=q.ow _ _ N h4;rw[p9 e5]at r2;have:=r2.int_inv;subst this;refine⟨a,xs,kk,j,rfl,rfl,F,by rw[r4.length];exact e7,?_⟩;obtain⟨A',J⟩:=((st.mono q).write (o:=.lst _) (bQ ex) (fZ hO) Y N e3 F trivial (.lst aN (((r4.ext q).set j (r1.ext W)).put N F trivial))).shut (Sub.mem h);exact p A' σ _ J
  | _=>cases ed
noncomputable def JB(g:Int->Int->Option D):D->D->Option D
 | .int i,.int j=>g i j
 | _,_=>none
theorem qF(h:JB g x y=some d):∃i j,x=.int i/\y=.int j/\g i j=some d:=by
 cases x <;> cases y <;> first|(cases h;done)|exact⟨_,_,rfl,rfl,h⟩
theorem vR{f:Value->Value->Sem Value}{C:Int->Int->Prop}[∀i j,Decidable (C i j)]{g:Int->Int->Int}(h:OpR X f (rI C λi j=>.int (g i j))):jK X f (JB λi j=>if C i j then some (.int (g i j))else none):=
 OpR.mono h <| by
  rintro x y H Q ⟨A,dx,U,d,W,J,N,e,q⟩;obtain⟨i,j,rfl,rfl,F⟩:=qF e;have:=J.int_inv;subst this;have:=N.int_inv;subst this;by_cases G:C i j
  ·rw[if_pos G]at F;cases F
   exact⟨i,j,rfl,rfl,G,q _ H (Ext.refl _ _) (.int _)⟩
  ·rw[if_neg G]at F;cases F
theorem LZ{f:Value->Value->Sem Value}{g:Int->Int->Int}(h:OpR X f (M1 λi j=>.int (g i j))):jK X f (JB λi j=>some (.int (g i j))):=
 OpR.mono h <| by
  rintro x y H Q ⟨A,dx,J,d,N,F,G,e,q⟩;obtain⟨i,j,rfl,rfl,e⟩:=qF e;have:=F.int_inv;subst this;have:=G.int_inv;subst this;cases e;exact⟨i,j,rfl,rfl,q _ H (Ext.refl _ _) (.int _)⟩
theorem FV{f:Value->Value->Sem Value}{g:Int->Int->Bool}(h:OpR X f (M1 λi j=>.bl (g i j))):jK X f (JB λi j=>some (.bl (g i j))):=
 OpR.mono h <| by
  rintro x y H Q ⟨A,dx,J,d,N,F,G,e,q⟩;obtain⟨i,j,rfl,rfl,e⟩:=qF e;have:=F.int_inv;subst this;have:=G.int_inv;subst this;cases e;exact⟨i,j,rfl,rfl,q _ H (Ext.refl _ _) (.bl _)⟩
instance:∀i j,Decidable (My.T1 i j):=λi j=>by unfold My.T1;infer_instance
instance:∀i j,Decidable (MW i j):=λi j=>by unfold MW;infer_instance
instance:∀i j,Decidable (MQ i j):=λi j=>by unfold MQ;infer_instance
def EF:D->D->Option D:=JB λi j=>some (.int (i-j))
def cJ:D->D->Option D:=JB λi j=>if 0<j then some (.int (i%j))else none
def eY:D->D->Option D:=JB λi j=>if MW i j then some (.int (i/j))else none
def iL:D->D->Option D:=JB λi j=>if MQ i j then some (.int (i^j.toNat))else none
def jW:D->D->Option D:=JB λi j=>some (.bl (decide (j<i)))
theorem qV:jK X (YT .Sub) EF:=LZ OO
theorem dC:jK X (YT .Mod) cJ:=vR N6
theorem kX:jK X (YT .FloorDiv) eY:=vR JN
theorem HS:jK X (YT .Pow) iL:=vR QB
theorem SS:jK X (XY .Gt) jW:=FV S4
def D6(f:Ev):Ev:=λρ=>(f ρ).bind λd=>(RB d).map λi=>.int (-i)
theorem OQ(G:PB X O a f):PD X O (.UnaryOp .USub a pos) (D6 f):=PE.mono (SD ON G) <| by
 rintro σ H Q ⟨H0,A0,A,E,ρ,d,st,e,q⟩;obtain⟨x,ex,e⟩:=bind_some e;obtain⟨i,J,rfl⟩:=map_some e;rw[p9 J]at ex;exact⟨H0,A0,A,E,ρ,_,st,ex,λv H1 F N=>⟨i,N.int_inv,q _ H1 F (.int _)⟩⟩
end
section
variable {X:Cx}{L:Lp}{O O':List Nat}
def eI:Sv:=λ_=>none
theorem DT{st:Stmt}:PSD X L O st eI O':=λ_ _ _ _ _ _ ⟨_,_,_,_,_,_,_,e,_⟩=>nomatch e
abbrev Gv:=D->cL->Option cL
inductive tDG(O:List Nat)(g:Gv)(v:V)(σ:L2.St)(H:Hp)(Q:L2.St->Hp->Prop):Prop
 | mk (H0:Hp) (A0 A:Av) (E:List Fact) (ρ:cL) (d:D) (ρ':cL) (st:ST H0 A0 A E O σ H ρ) (r:Rep A H d v) (e:g d ρ=some ρ') (q:∀σ',ST H0 A0 A E O σ' H ρ'->Q σ' H):tDG O g v σ H Q
def yL(X:Cx)(O:List Nat)(tg:Expr)(g:Gv):Prop:=PG X tg (tDG O g)
abbrev NP:=List D->cL->Option cL
inductive tDGs(O:List Nat)(g:NP)(vs:List V)(σ:L2.St)(H:Hp)(Q:L2.St->Hp->Prop):Prop
 | mk (H0:Hp) (A0 A:Av) (E:List Fact) (ρ:cL) (ds:List D) (ρ':cL) (st:ST H0 A0 A E O σ H ρ) (r:RepL A H ds vs) (e:g ds ρ=some ρ') (q:∀σ',ST H0 A0 A E O σ' H ρ'->Q σ' H):tDGs O g vs σ H Q
def z9(X:Cx)(O:List Nat)(ts:List Expr)(g:NP):Prop:=PGs X ts (tDGs O g)
theorem PG.mono(h:PG X tg t)(x:∀v σ H Q,t' v σ H Q->t v σ H Q):PG X tg t':=λpins s σ H v u Q I r w=>h pins s σ H v u Q I r (x v σ H Q w)
theorem PGs.mono(h:PGs X ts t)(x:∀v σ H Q,t' v σ H Q->t v σ H Q):PGs X ts t':=λpins s σ H v u Q I r w=>h pins s σ H v u Q I r (x v σ H Q w)
def aH(i:Nat):Gv:=λd ρ=>some (ρ.set i (some d))
theorem w9(h:PG X tg (rH i))(n:O.contains i=false:=by rfl):yL X O tg (aH i):=PG.mono h <| by
 rintro v σ H Q ⟨H0,A0,A,E,ρ,d,ρ',st,r,e,q⟩;cases e;exact q _ (st.put r λz=>by
  have:O.contains i=true:=by simpa using z
  rw[n]at this;cases this)
def eP:NP:=λds ρ=>match ds with
 | []=>some ρ
 | _=>none
def aR(g:Gv)(k:NP):NP:=λds ρ=>match ds with
 | d::ds=>(g d ρ).bind λρ'=>k ds ρ'
 | _=>none
theorem EX:z9 X O [] eP:=PGs.mono L4 <| by
 rintro v σ H Q ⟨H0,A0,A,E,ρ,ds,ρ',st,r,e,q⟩;cases r with
 | nil=>cases e;exact⟨rfl,q _ st⟩
 | cons _ _=>cases e
theorem C9(G:∀ {t:TG} {u:NK},PG X e t->PGs X es u->PGs X (e::es) (M7 t u))(h1:yL X O e g)(h2:z9 X O es k):z9 X O (e::es) (aR g k):=
 PGs.mono (G h1 h2) <| by
  rintro v σ H Q ⟨H0,A0,A,E,ρ,ds,ρ',st,r,e,q⟩;cases r with
  | nil=>cases e
  | cons h t=>
   obtain⟨ρ1,N,e⟩:=bind_some e;exact⟨_,_,rfl,H0,A0,A,E,ρ,_,ρ1,st,h,N,λJ F=>⟨H0,A0,A,E,ρ1,_,ρ',F,t,e,q⟩⟩
def dF(n:Nat)(k:NP):Gv:=λd ρ=>match d with
 | .tup l=>if l.length=n then k l ρ else none
 | _=>none
theorem LF(J:PG X tg (TX X.K n (tDGs O k))):yL X O tg (dF n k):=PG.mono J <| by
 rintro v σ H Q ⟨H0,A0,A,E,ρ,d,ρ',st,r,e,q⟩;cases d with
 | tup l=>
  obtain⟨a,xs,rfl,h,G⟩:=RepB.tup_inv (.of r);by_cases F:l.length=n
  ·simp only[dF,if_pos F]at e
   exact⟨a,xs,rfl,.inl (.inl h),by rw[G.length];exact F,H0,A0,A,E,ρ,l,ρ',st,G,e,q⟩
  ·simp only[dF,if_neg F]at e;cases e
 | _=>cases e
def MY(f:Ev)(g:Gv):Sv:=λρ=>(f ρ).bind λd=>(g d ρ).map .nx
theorem JU(Y:PD X O e f)(W:yL X O tg g)(hs:zb7 [tg] e pos.line X.env=pure false:=by rfl)(hw:zb8 [tg] e X.env=pure none:=by rfl)(h:Sub O' O=true:=by rfl)(h1:(ZA [tg] X.env).map (·.2)=[ZO tg X.env]:=by rfl)(h1:(ZA [tg] X.env).map (·.2)=[ZO tg X.env]:=by rfl)(h1:(ZA [tg] X.env).map (·.2)=[ZO tg X.env]:=by rfl)(h1:(ZA [tg] X.env).map (·.2)=[ZO tg X.env]:=by rfl):PSD X L O (.Assign [tg] e pos) (MY f g) O':=
 PS.mono (HL Y W hs hw h1) <| by
  rintro T σ H ⟨H0,A0,A,E,ρ,J,st,e,p⟩;obtain⟨d,N,e⟩:=bind_some e;obtain⟨ρ',U,rfl⟩:=map_some e;refine⟨H0,A0,A,E,ρ,d,st,N,λv H' x r=>⟨H0,A0,A,E,ρ,d,ρ',st.mono x,r,U,λF G=>?_⟩⟩;obtain⟨A',q⟩:=G.shut (Sub.mem h);exact p A' F H' q
def zZ(J:It)(q:List Fact)(items:List D):Prop:=
 ∀(A:Av) (H:Hp),Live A H->(∀p∈q,p.Holds A H)->∀i,(items.length<=i->J.stop i H)/\∀d,items[i]?=some d->J.go i H/\∀x H',J.yld i H x H'->Ext A H H'/\Rep A H' d x
inductive tDI(O:List Nat)(f:Lv)(σ:L2.St)(H:Hp)(R:It->Hp->Prop):Prop
 | mk (H0:Hp) (A0 A:Av) (E:List Fact) (ρ:cL) (items:List D) (st:ST H0 A0 A E O σ H ρ) (e:f ρ=some items) (q:∀J H' E1,Ext A H H'->(∀p∈E1,p.Holds A H')->zZ J E1 items->R J H'):tDI O f σ H R
def PDI(X:Cx)(O:List Nat)(tg e:Expr)(f:Lv):Prop:=PI X tg e (tDI O f)
theorem PI.mono(h:PI X tg e t)(x:∀σ H Q,t' σ H Q->t σ H Q):PI X tg e t':=λpins s σ H Q I w=>h pins s σ H Q I (x σ H Q w)
theorem PI.or(h:PI X tg e t)(k:PI X tg e u):PI X tg e (λσ H Q=>t σ H Q\/u σ H Q):=λpins s σ H Q I w=>w.elim (h pins s σ H Q I) (k pins s σ H Q I)
theorem K0{a:Addr}{l:List D}{K:XF}:zZ (WF K a) [.rep (.lst l) (.ref a)] l:=by
 intro A H U h i;have r:Rep A H (.lst l) (.ref a):=h _ (List.mem_singleton.mpr rfl);obtain⟨N,xs,e,h1,F⟩:=RepB.lst_inv (.of r);cases e;refine⟨λhi=>⟨xs,.inl h1,by rw[F.length];exact hi⟩,λd G=>?_⟩;obtain⟨v,q,J⟩:=F.get' G;refine⟨⟨xs,v,.inl h1,q⟩,λx H' y=>?_⟩;obtain⟨rfl,y⟩:=y;have:=y xs (.inl h1);rw[q]at this;cases this;exact⟨Ext.refl _ _,J⟩
theorem N0{a:Addr}{l:List D}{K:XF}:zZ (WA K a) [.rep (.tup l) (.ref a)] l:=by
 intro A H U h i;have r:Rep A H (.tup l) (.ref a):=h _ (List.mem_singleton.mpr rfl);obtain⟨N,xs,e,h1,F⟩:=RepB.tup_inv (.of r);cases e;refine⟨λhi=>⟨xs,.inl (.inl h1),by rw[F.length];exact hi⟩,λd G=>?_⟩;obtain⟨v,q,J⟩:=F.get' G;refine⟨⟨xs,v,.inl (.inl h1),q⟩,λx H' y=>?_⟩;obtain⟨rfl,y⟩:=y;have:=y xs (.inl (.inl h1));rw[q]at this;cases this;exact⟨Ext.refl _ _,J⟩
noncomputable def bS(lo c:Int)(n:Nat):List D:=(Y9 n).map λ(i:Nat)=>.int (lo+(i:Int)*c)
theorem dQ(lo c:Int)(n:Nat):(bS lo c n).length=n:=by simp[bS]
theorem cR{lo c:Int}{n i:Nat}(h:(bS lo c n)[i]?=some d):i<n/\d=.int (lo+(i:Int)*c):=by
 unfold bS at h;rw[YB]at h;by_cases hi:i<n
 ·rw[zbR hi]at h;cases h;exact⟨hi,rfl⟩
 ·rw[List.getElem?_eq_none (by simpa using hi)]at h;cases h
theorem DF{lo c:Int}{n:Nat}:zZ (My.Q8 lo c n) [] (bS lo c n):=by
 intro A H F h i;refine⟨λhi=>by rw[dQ]at hi;exact hi,λd q=>?_⟩;obtain⟨hi,rfl⟩:=cR q;exact⟨hi,λx H' ⟨e,y⟩=>by subst e y;exact⟨Ext.refl _ _,.int _⟩⟩
theorem F1{lo:Int}{n:Nat}:zZ (UY lo n) [] (bS lo 1 n):=by
 intro A H F h i;refine⟨λhi=>by rw[dQ]at hi;exact hi,λd q=>?_⟩;obtain⟨hi,rfl⟩:=cR q;exact⟨hi,λx H' ⟨e,y⟩=>by subst e y;rw[Int.mul_one];exact⟨Ext.refl _ _,.int _⟩⟩
noncomputable def gX(i:Int):Bool:=decide (-1000000<=i) && decide (i<=1000000)
def cM:List D->Option (List D)
 | [.int j]=>if gX j then some (bS 0 1 j.toNat)else none
 | _=>none
def nY:List D->Option (List D)
 | [.int i,.int j,.int c]=>if c≠0/\c.natAbs<1000/\zbh i j c=true then some (bS i c (My.rsz i j c))else none
 | _=>none
theorem qA(h:gX i=true):-(2^62)<=i/\i<2^62:=by
 simp only[gX,YU,decide_eq_true_eq]at h
 lia
def lR(g:List D->Option (List D))(f:Lv):Lv:=λρ=>(f ρ).bind g
theorem RL.one(r:RL R A H [d] vs):∃v,vs=[v]/\R A H d v:=by
 cases r with|cons h t=>cases t;exact⟨_,rfl,h⟩
theorem RL.two(r:RL R A H [d,e] vs):∃v w,vs=[v,w]/\R A H d v/\R A H e w:=by
 cases r with|cons h t=>obtain⟨w,rfl,h2⟩:=RL.one t;exact⟨_,w,rfl,h,h2⟩
theorem RL.three(r:RL R A H [d,e,f] vs):∃v w u,vs=[v,w,u]/\R A H d v/\R A H e w/\R A H f u:=by
 cases r with|cons h t=>obtain⟨w,u,rfl,h2,q⟩:=RL.two t;exact⟨_,w,u,rfl,h,h2,q⟩
theorem uY(h:cM ds=some l):∃j,ds=[.int j]/\gX j=true/\l=bS 0 1 j.toNat:=by
 unfold cM at h;split at h
 ·split at h
  ·cases h;exact⟨_,rfl,by assumption,rfl⟩
  ·cases h
 ·cases h
theorem uS(h:nY ds=some l):∃i j c,ds=[.int i,.int j,.int c]/\(c≠0/\c.natAbs<1000/\zbh i j c=true)/\l=bS i c (My.rsz i j c):=by
 unfold nY at h;split at h
 ·split at h
  ·cases h;exact⟨_,_,_,rfl,by assumption,rfl⟩
  ·cases h
 ·cases h
section
variable {tg a b c:Expr}{f:Lv}{p pos:Pos}
theorem zA(U:Gl X "range")(N:X.mg "range" = none)(J:oG X O [a] f)(hs:XI [a] X.env=[(false,eval a X.env)]:=by rfl):PDI X O tg (.Call (.Name "range" p) [a] [] pos) (lR cM f):=PI.mono (CV U N J hs) <| by
 rintro σ H R ⟨H0,A0,A,E,ρ,items,st,e,q⟩;obtain⟨ds,G,e⟩:=bind_some e;refine⟨H0,A0,A,E,ρ,ds,st,G,λvs H1 F W=>?_⟩;obtain⟨j,rfl,h,rfl⟩:=uY e;obtain⟨v,rfl,h1⟩:=W.one;have:=h1.int_inv;subst this;exact⟨j,rfl,(qA h).1,(qA h).2,q _ H1 [] F (λ_ h=>nomatch h) F1⟩
theorem pH(hg:Gl X "range")(Y:X.mg "range" = none)(W:oG X O [a,b,c] f)(hs:XI [a,b,c] X.env=[(false,eval a X.env),(false,eval b X.env),(false,eval c X.env)]:=by rfl)(F:XI [b,c] X.env=[(false,eval b X.env),(false,eval c X.env)]:=by rfl):PDI X O tg (.Call (.Name "range" p) [a,b,c] [] pos) (lR nY f):=PI.mono (My.DO hg Y W hs F) <| by
 rintro σ H R ⟨H0,A0,A,E,ρ,items,st,e,q⟩;obtain⟨ds,N,e⟩:=bind_some e;refine⟨H0,A0,A,E,ρ,ds,st,N,λvs H1 J r1=>?_⟩;obtain⟨i,j,U,rfl,h,rfl⟩:=uS e;obtain⟨v,w,u,rfl,h1,h2,G⟩:=r1.three;have:=h1.int_inv;subst this;have:=h2.int_inv;subst this;have:=G.int_inv;subst this;exact⟨i,j,U,rfl,h,q _ H1 [] J (λ_ h=>nomatch h) DF⟩
end
def EC:Key->D
 | .inl i=>.int i
 | .inr x=>.str x
def IX(f:Ev):Lv:=λρ=>(f ρ).bind λd=>match d with
 | .lst l=>some l
 | .tup l=>some l
 | .dT l=>some (l.map λp=>.tup (p.1.map EC))
 | _=>none
theorem qH:∀k:List Key,RepL A H (k.map EC) (k.map kV)
 | []=>.nil
 | .inl i::k=>.cons (.int i) (qH k)
 | .inr x::k=>.cons (.str x) (qH k)
def QT(tl:TE):TI:=λσ H R=>tl σ H λx H1=>∃d kvs,x=.ref d/\((H1 d=some (.dT kvs)/\∀o,R (My.UK d o kvs) (upd H1 d (.frz o (.dT kvs))))\/∃o,H1 d=some (.frz o (.dT kvs))/\R (My.UK d o kvs) H1)
theorem GS(hl:PE X l tl):PI X tg l (QT tl):=by
 intro pins s σ H R I h;refine bX (hl pins s σ H _ I h) λv F ⟨x,H1,Y,G,q1⟩=>?_
 obtain⟨d,kvs,rfl,q⟩:=q1;cases G;have U:∀(o:Obj) (H2:Hp),(d == ZI)=false->Inv X pins σ H2 F->F.heap.get? d=some o->ObjOk X.prog X.w H2 F.heap d (.dT kvs)->R (My.UK d o kvs) H2->wpAny (model X.prog X.w) X.A (pyIter (.ref d)) (PIE X pins σ tg R) X.xe F:=λo H2 lo J ho ok q=>by
  obtain⟨_,_,es,ep,⟨o',G,r2,r3⟩,N,_⟩:=My.qT ok;rw[ho]at G;cases G;refine My.xR lo ⟨o,ho,r2,r3⟩ ?_;refine⟨F.heap.objs.size,[F.heap.objs.size],_,_,_,rfl,J.kept (t':=F.toks) λb o e=>XT _ e,My.DA d _ o kvs es ep r3 N,⟨_,X9 _ rfl,rfl,rfl⟩,λb hb=>?_,q⟩;have e:b=F.heap.objs.size:=by simpa using hb
  subst e;exact J.fpOk (XU _) (J.hok.fresh (XU _))
 rcases q with⟨W,q⟩|⟨o,W,q⟩
 ·have ok:=(show ObjOk X.prog X.w H1 F.heap d (.dT kvs)from Y.hok d _ W)
  obtain⟨lo,_,es,ep,⟨o,G,r2,r3⟩,N,_⟩:=My.qT ok;have J:=My.zH Y W G;have aa:=(show ObjOk X.prog X.w _ F.heap d (.frz o (.dT kvs))from J.hok d _ aN);exact U o _ lo J G aa.2 (q o)
 ·have ok:=(show ObjOk X.prog X.w H1 F.heap d (.frz o (.dT kvs))from Y.hok d _ W)
  obtain⟨lo,_⟩:=My.qT ok.2;exact U o H1 lo Y ok.1 ok.2 q
theorem BX{a:Addr}{o:Obj}{xs:List (List Key×V)}{l:List (List Key×D)}(e:xs.map (·.1)=l.map (·.1)):zZ (My.UK a o xs) [.fz a o (.dT xs)] (l.map λp=>.tup (p.1.map EC)):=by
 intro A H lv h i;have F:H a=some (.frz o (.dT xs)):=h _ (List.mem_singleton.mpr rfl);have Y:xs.length=l.length:=by have:=congrArg zay e;simpa using this
 refine⟨λhi=>⟨F,by rw[XR]at hi;lia⟩,λd G=>?_⟩;rw[YB]at G;obtain⟨p,q,rfl⟩:=map_some G;have hi:i<l.length:=(List.getElem?_eq_some_iff.mp q).1;refine⟨⟨F,by lia⟩,λx H' ⟨N,k,v,b,W,U,J⟩=>?_⟩;subst N U;have:k=p.1:=by
  have h1:(xs.map (·.1))[i]?=some k:=by rw[YB,W];rfl
  rw[e,YB,q]at h1;exact(YJ h1).symm
 subst this;exact⟨Ext.refl _ _,.tup J (qH _)⟩
theorem KH(n:¬ A d)(F:H d=some u)(ob:RK u)(J:¬ Kp u):Ext A H (upd H d (.frz o u)) where
 rd:=λb w r=>by
  by_cases e:b=d
  ·subst e
   rcases r with r|⟨q,r⟩
   ·rw[F]at r;cases r;exact .inr ⟨o,aN⟩
   ·rw[F]at r;cases r;exact ob.elim
  ·exact jA e r
 kp:=λb w k r=>by rw[aL (λz=>by subst z;rw[F]at r;cases r;exact J k)];exact r
 ow:=λb w G r=>by rw[aL (λz=>n (by rw[<- z];exact G))];exact r
 fz:=λb q w r=>by rw[aL (λz=>by subst z;rw[F]at r;cases r;exact ob)];exact r
theorem KG(h:PD X O e f):PDI X O tg e (IX f):=PI.mono (PI.or (PI.or (LB h) (OJ h)) (GS h)) <| by
 rintro σ H R ⟨H0,A0,A,E,ρ,items,st,e,q⟩;obtain⟨d,N,e⟩:=bind_some e;cases d with
 | lst l=>
  cases e;refine .inl (.inl ⟨H0,A0,A,E,ρ,_,st,N,λv H1 J G=>?_⟩);obtain⟨a,xs,rfl,h1,U⟩:=RepB.lst_inv (.of G);exact⟨a,rfl,⟨xs,.inl h1⟩,q _ H1 [.rep (.lst items) (.ref a)] J (λp F=>by rw[List.mem_singleton.mp F];exact G) K0⟩
 | tup l=>
  cases e;refine .inl (.inr ⟨H0,A0,A,E,ρ,_,st,N,λv H1 J G=>?_⟩);obtain⟨a,xs,rfl,h1,U⟩:=RepB.tup_inv (.of G);exact⟨a,rfl,⟨xs,.inl (.inl h1)⟩,q _ H1 [.rep (.tup items) (.ref a)] J (λp F=>by rw[List.mem_singleton.mp F];exact G) N0⟩
 | dT l=>
  cases e;refine .inr ⟨H0,A0,A,E,ρ,_,st,N,λv H1 J G=>?_⟩;cases G with
  | @dT _ a xs n h ee U=>
   refine⟨a,xs,rfl,?_⟩;rcases h with h|⟨o,h⟩
   ·refine .inl ⟨h,λo=>q _ _ [.fz a o (.dT xs)] (J.trans (KH n h trivial λz=>z)) (λp F=>by rw[List.mem_singleton.mp F];exact aN) (BX ee)⟩
   ·exact .inr ⟨o,h,q _ H1 [.fz a o (.dT xs)] J (λp F=>by rw[List.mem_singleton.mp F];exact h) (BX ee)⟩
 | _=>cases e
def gE(g:Gv)(body:Sv):List D->cL->Option Out
 | [],ρ=>some (.nx ρ)
 | x::xs,ρ=>(g x ρ).bind λρ1=>(body ρ1).bind λo=>match o with
  | .nx ρ2=>gE g body xs ρ2
  | .ct ρ2=>gE g body xs ρ2
  | .bk ρ2=>some (.nx ρ2)
  | .rt d=>some (.rt d)
def nU(f:Lv)(g:Gv)(body:Sv):Sv:=λρ=>(f ρ).bind λitems=>gE g body items ρ
theorem ST.both(s:ST H0 A0 A E O σ H ρ)(h:∀p∈E1,p.Holds A H):ST H0 A0 A (E1++E) O σ H ρ:=
 {s with ext:=λp q=>by rcases List.mem_append.mp q with e|e;exact h p e;exact s.ext p e}
theorem L6(hp:PassesOwn (model X.prog X.w) X.A X.env X.xe)(hc:X.calm=true)(hi:PDI X O tg iter f)(hg:yL X O1 tg g)(hb:PSDs X ⟨Ob,O1⟩ O1 body b O1)(h1:Sub O1 O=true)(h2:Sub O' O1=true)(h3:Sub O' Ob=true)
  (hs:∀x,zaf iter X.env x=pure x:=by intro _;rfl):PSD X L O (.For tg iter body [] pos) (nU f g b) O':=PS.mono (GW hp hc hi hg hb hs) λT σ H ⟨H0,A0,A,E,ρ,aa,st,e,p⟩=>by
 obtain⟨items,e1,e⟩:=bind_some e;refine⟨H0,A0,A,E,ρ,items,st,e1,λJ H1 U x1 ag J1=>?_⟩;obtain⟨A1,ah⟩:=((st.mono x1).both ag).shut (Sub.mem h1);refine⟨λi m σ H=>m=items.length-i/\i<=items.length/\∃ρ A,ST H0 A0 A (U++E) O1 σ H ρ/\gE g b (items.drop i) ρ=some aa,⟨items.length,by simp,YY _,ρ,A1,ah,e⟩,?_⟩;rintro i m σ H ⟨rfl,ap,ρ,A,st,e⟩;have hE:∀p∈U,p.Holds A H:=λp hp=>st.ext p (Z4 _ hp)
 obtain⟨Y,go⟩:=J1 A H st.live hE i;have fin:∀ {O2:List Nat} {A:Av} {σ:L2.St} {H:Hp} {ρ:cL},Sub O' O2=true->ST H0 A0 A (U++E) O2 σ H ρ->(∀A σ H,ST H0 A0 A E O' σ H ρ->T.nx σ H)->T.nx σ H:=λhs st k=>by
  obtain⟨F,af⟩:=(st.less (E':=E) λq hq=>ZY _ hq).shut (Sub.mem hs);exact k F _ _ af
 by_cases G:i<items.length
 ·have ed:items[i]?=some items[i]:=by simp[G]
  obtain⟨ac,hy⟩:=go _ ed;rw[zbS G]at e;obtain⟨ρ1,eg,e⟩:=bind_some e;obtain⟨o,eo,e⟩:=bind_some e;refine .inr ⟨ac,λab H'=>∃ρ2 F,ST H0 A0 F (U++E) O1 ab H' ρ2/\gE g b (items.drop (i+1)) ρ2=some aa,λab H' ⟨ρ2,F,N,e2⟩=>⟨items.length-(i+1),by lia,rfl,G,ρ2,F,N,e2⟩,λx H' y=>?_⟩;obtain⟨x2,r2⟩:=hy x H' y;refine⟨H0,A0,A,U++E,ρ,_,ρ1,st.mono x2,r2,eg,λar s1=>⟨H0,A0,A,U++E,ρ1,o,s1,eo,?_⟩⟩;cases o with
  | nx ρ2=>exact λF W H2 N=>⟨ρ2,F,N,e⟩
  | ct ρ2=>exact λF W H2 N=>⟨ρ2,F,N,e⟩
  | bk ρ2=>cases e;exact λF W H2 N=>fin h3 N p
  | rt d=>cases e;exact p
 ·have ad:i=items.length:=by lia
  subst ad;rw[zdk]at e;cases e;exact .inl ⟨Y (XU _),fin h2 st p⟩
end
noncomputable def jJ(cells:List (Str×Addr)):List (Str×zah)->List (Str×Addr)->List (Str×Addr)
 | [],cs=>cs
 | (x,k)::r,cs=>jJ cells r (if k == .free then(x,(cells.lookup x).getD 0)::cs else cs)
theorem sR:∀(names:List (Str×zah)) (cs:List (Str×Addr)),(∀y∈names,y.2=.free->∃c,env.cells.lookup y.1=some c)->
  (forIn names cs (λ(p:Str×zah) (r:List (Str×Addr))=>if(p.2 == .free)=true then(do let c <- cellOf env p.1;pure (zbi ((p.1,c)::r)))else(pure (zbi r):Sem _)))=(pure (jJ env.cells names cs):Sem _)
 | [],cs,_=>by simp[jJ]
 | (x,k)::r,cs,h=>by
  have ih:=λcs=>sR r cs λy J=>h y (YH _ J)
  rw[List.forIn_cons];by_cases e:(k == zaC)=true
  ·have G:k=.free:=by simpa using e
   obtain⟨c,F⟩:=h (x,k) (X8 ..) G;have q:env.cells.lookup x=some c:=F;simp only[e,if_true,jJ];have:cellOf env x=pure c:=by unfold cellOf;rw[q]
   rw[this];simp only[pure_bind,q,Option.getD_some];exact ih _
  ·simp only[e,jJ]
   simp only[zaB,if_false,pure_bind];exact ih _
theorem LH(h:∀y∈scope.names,y.2=.free->∃c,env.cells.lookup y.1=some c):closureFor scope env=pure (jJ env.cells scope.names []):=by
 have:=sR scope.names [] h;unfold closureFor;simp only[bind_pure];exact this
theorem xK:∀ {names:List (Str×zah)} {cs:List (Str×Addr)} {c:Addr},(jJ cells names cs).lookup x=some c->(∃q,cs.lookup x=some q/\c=q)\/((x,zaC)∈names/\c=(cells.lookup x).getD 0)
 | [],cs,c,h=>.inl ⟨c,h,rfl⟩
 | (y,k)::r,cs,c,h=>by
  rw[jJ]at h;rcases xK h with⟨q,h1,h2⟩|⟨h1,h2⟩
  ·by_cases e:(k == zaC)=true
   ·rw[if_pos e,za0]at h1
    by_cases ex:(x == y)=true
    ·rw[ex]at h1
     have F:x=y:=by simpa using ex
     have G:k=.free:=by simpa using e
     subst F G;cases h1;exact .inr ⟨X8 ..,h2⟩
    ·rw[ZV]at ex
     rw[ex]at h1;exact .inl ⟨q,h1,h2⟩
   ·rw[if_neg e]at h1
    exact .inl ⟨q,h1,h2⟩
  ·exact .inr ⟨YH _ h1,h2⟩
theorem yB:∀ {names:List (Str×zah)} {cs:List (Str×Addr)},((x,zaC)∈names\/∃c,cs.lookup x=some c)->∃c,(jJ cells names cs).lookup x=some c
 | [],cs,h=>h.elim (λh=>nomatch h) id
 | (y,k)::r,cs,h=>by
  rw[jJ];apply yB;rcases h with h|⟨c,h⟩
  ·rcases List.mem_cons.mp h with e|e
   ·cases e
    refine .inr ⟨(cells.lookup x).getD 0,?_⟩;simp[za0]
   ·exact .inl e
  ·right
   by_cases e:(k == zaC)=true
   ·rw[if_pos e,za0]
    by_cases ex:(x == y)=true
    ·rw[ex];exact⟨_,rfl⟩
    ·rw[ZV]at ex;rw[ex];exact⟨c,h⟩
   ·rw[if_neg e];exact⟨c,h⟩
theorem e8{q:Type}{v:q}:∀ {l:List (Str×q)},l.lookup x=some v->(x,v)∈l
 | (y,w)::r,h=>by
  rw[za0]at h;by_cases ex:(x == y)=true
  ·rw[ex]at h;cases h;rw[show x=y by simpa using ex];exact X8 ..
  ·rw[ZV]at ex;rw[ex]at h;exact YH _ (e8 h)
noncomputable def IU(names outer:List (Str×zah)):Bool:=
 names.all λy=>y.2 != .cell && (y.2 != .local || names.lookup y.1 == some .local) && (y.2 != .free || outer.lookup y.1 == some .cell)
theorem G8{X:Cx}{N:List Str}{scope:Scope}{n:Nat}(hk:scope.kind=.function)(h:IU scope.names X.env.scope.names=true)(hc:X.env.cells=za9 n X.env.scope.names []):My.Clo X N scope (jJ X.env.cells scope.names []):=by
 have h':=List.all_eq_true.mp h;have c1:∀y∈scope.names,y.2≠.cell:=λy G=>by
  have:=h' y G;simp only[YU]at this;simpa using this.1.1
 have c2:∀y∈scope.names,y.2=.local->scope.names.lookup y.1=some .local:=λy G e=>by
  have:=h' y G;simp only[YU,zde]at this;rcases this.1.2 with z|z
  ·rw[e]at z;exact absurd z (by decide)
  ·simpa using z
 have c3:∀y∈scope.names,y.2=.free->∃c,X.env.cells.lookup y.1=some c:=λy G e=>by
  have:=h' y G;simp only[YU,zde]at this;rcases this.2 with z|z
  ·rw[e]at z;exact absurd z (by decide)
  ·rw[hc];exact p8 (sc:=X.env.scope) (by simpa using z)
 have F:∀x,((Z2 scope X.env).names.lookup x=some .cell\/(Z2 scope X.env).names.lookup x=some .free)->(x,zaC)∈scope.names:=λx U=>by
  have W:∀Y,(Y=NameKind.cell\/Y=zaC)->(x,Y)∈(Z2 scope X.env).names->(x,zaC)∈scope.names:=λY aa hm=>by
   obtain⟨⟨y,k⟩,G,e⟩:=List.mem_map.mp hm;dsimp only at e;by_cases q:(k == zaC && X.env.scope.kind == .function && X.env.kindOf y == some .cell)=true
   ·rw[if_pos q]at e
    have:k=.free:=by simp only[YU]at q;simpa using q.1.1
    cases e;subst this;exact G
   ·rw[if_neg q]at e
    cases e;rcases aa with z|z
    ·exact absurd z (c1 _ G)
    ·subst z;exact G
  rcases U with U|U
  ·exact W _ (.inl rfl) (e8 U)
  ·exact W _ (.inr rfl) (e8 U)
 refine⟨LH c3,hk,c1,c2,λx c e=>?_,λx U=>yB (.inl (F x U))⟩;rcases xK e with⟨c',z,_⟩|⟨z1,z2⟩
 ·cases z
 ·obtain⟨c0,J⟩:=c3 _ z1 rfl
  have J:X.env.cells.lookup x=some c0:=J;rw[z2,J];rfl
noncomputable def eW(X:Cx)(scope:Scope):List Str->List (Option Nat)->Prop
 | [],[]=>True
 | _::N,none::ms=>eW X scope N ms
 | x::N,some i::ms=>(X.N[i]?=some x/\((Z2 scope X.env).names.lookup x == some NameKind.local)=false/\(X.env.kindOf x=some .cell\/X.env.kindOf x=some .free))/\eW X scope N ms
 | _,_=>False
noncomputable def oJ{q:Type}(ms:List (Option Nat))(σ:List (Option q)):List (Option q):=ms.map λo=>o.bind λi=>(σ[i]?).join
theorem iZ:∀ {N:List Str} {ms:List (Option Nat)},eW X scope N ms->ms.length=N.length/\∀(j:Nat) (x:Str) (i:Nat),N[j]?=some x->ms[j]?=some (some i)->X.N[i]?=some x/\(Z2 scope X.env).names.lookup x≠some .local/\(X.env.kindOf x=some .cell\/X.env.kindOf x=some .free)
 | [],[],_=>⟨rfl,λj x i h _=>by simp at h⟩
 | y::N,none::ms,h=>by
  obtain⟨l,g⟩:=iZ (N:=N) (ms:=ms) h;refine⟨by simp[l],λj x i h1 h2=>?_⟩;cases j with
  | zero=>simp at h2
  | succ j=>exact g j x i (by simpa using h1) (by simpa using h2)
 | y::N,some k::ms,h=>by
  obtain⟨l,g⟩:=iZ (N:=N) (ms:=ms) h.2;refine⟨by simp[l],λj x i h1 h2=>?_⟩;cases j with
  | zero=>simp at h1 h2;subst h1 h2;exact⟨h.1.1,λz=>by have:=h.1.2.1;rw[z]at this;exact absurd this (by decide),h.1.2.2⟩
  | succ j=>exact g j x i (by simpa using h1) (by simpa using h2)
 | [],_::_,h=>h.elim
 | _::_,[],h=>h.elim
theorem AN{F:Type}{ms:List (Option Nat)}{σ:List (Option F)}{j:Nat}{v:F}(h:(oJ ms σ)[j]?=some (some v)):∃i:Nat,ms[j]?=some (some i)/\σ[i]?=some (some v):=by
 unfold oJ at h;rw[YB]at h;obtain⟨o,G,q⟩:=map_some h;cases o with
 | none=>cases q
 | some i=>exact⟨i,G,pT q⟩
theorem FA{N:List Str}{ms:List (Option Nat)}(h:eW X scope N ms)(σ:L2.St):My.Start X N scope σ (oJ ms σ):=by
 obtain⟨l,g⟩:=iZ h;refine⟨by unfold oJ;rw[XR];exact l,λj x v h1 h2 _=>?_⟩;obtain⟨i,F,q⟩:=AN h2;obtain⟨a,b,c⟩:=g j x i h1 F;exact⟨b,i,a,q,c⟩
theorem ST.inner{E:List Fact}{O:List Nat}(s:ST H0 A0 A E O σ H ρ)(ms:List (Option Nat))(n:∀i,some i∈ms->i∉O):ST H0 A0 A E [] (oJ ms σ) H (oJ ms ρ) where
 ex:=s.ex
 sub:=s.sub
 l0:=s.l0
 live:=s.live
 len:=by simp[oJ]
 val:=λj d h _=>by
  obtain⟨i,q,F⟩:=AN h;obtain⟨v,G,r⟩:=s.val i d F (n i (YO q));refine⟨v,?_,r⟩;unfold oJ;rw[YB,q];show some ((σ[i]?).join)=_;rw[G];rfl
 own:=λj d _ h=>nomatch h
 inj:=λi j d d' a hi=>nomatch hi
 ext:=s.ext
def cE(g:Gv)(c:Bv)(f:Ev):List D->cL->Option (List D)
 | [],_=>some []
 | x::xs,ρ=>(g x ρ).bind λρ1=>(c ρ1).bind λb=>if b=true then(f ρ1).bind λd=>(cE g c f xs ρ1).bind λds=>some (d::ds)else cE g c f xs ρ1
def gY(ms:List (Option Nat))(it:Lv)(g:Gv)(c:Bv)(f:Ev):Ev:=λρ=>(it ρ).bind λitems=>if aW items.length then(cE g c f items (oJ ms ρ)).map .lst else none
def z5:Bv:=λ_=>some true
theorem EU:My.EI X [] (tDT O z5):=λpins s σ H Q I ⟨H0,A0,A,E,ρ,b,st,e,q⟩=>My.MI pins s σ H Q I (by cases e;exact q H (Ext.refl _ _))
theorem F4(h:rO X O c g):My.EI X [c] (tDT O g):=My.L8 h
section
variable {X:Cx}{O:List Nat}
theorem w8(a4:eW X scope N ms)(hn:(ms.all λo=>match o with|some i=>!O.contains i|none=>true)=true)(σ:L2.St)(H:Hp)(Q:VK) :
  tF O (gY ms it g c f) σ H Q->My.IS (tDI O it) (tDG [] g) (tDT [] c) (tD Rep [] f) (My.Start X N scope) σ H Q:=λ⟨H0,A0,A,E,ρ,d,st,e,q⟩=>by
 obtain⟨items,e1,e⟩:=bind_some e;by_cases hz:aW items.length=true
 case neg=>rw[if_neg hz]at e;cases e
 rw[if_pos hz]at e;obtain⟨ds,e2,rfl⟩:=map_some e;have bc:∀i,some i∈ms->i∉O:=λi hi z=>by
  have:=List.all_eq_true.mp hn _ hi;simp only[Bool.not_eq_true']at this;have z':O.contains i=true:=by simpa using z
  rw[z']at this;cases this
 refine⟨oJ ms σ,FA a4 σ,H0,A0,A,E,ρ,items,st,e1,λJ H1 E1 x1 bd J1 D hD=>?_⟩;have a5:=(st.mono x1).live;have nA:¬ A D:=λz=>a5 D z hD
 have n0:H D=none:=x1.free hD
 -- the state of the block: the list that grows stands outside all that is borne
 refine⟨λi m al us H2=>m=items.length-i/\i<=items.length/\∃ρ2 F rest,ST H0 A0 (λb=>A b\/b=D) (E1++E) [] al H2 ρ2/\H2 D=some (.lst us)/\Ext A H H2/\RepL (λb=>A b\/b=D) H2 F us/\cE g c f (items.drop i) ρ2=some rest/\F++rest=ds/\F.length<=i,⟨items.length,by simp,YY _,oJ ms ρ,[],ds,?_,aN,x1.trans (Ext.new hD),.nil,e2,rfl,XU _⟩,?_⟩
 ·have s1:=((st.mono x1).both bd).inner ms bc
  have up:∀a,(A a\/a=D)->A a\/H1 a=none:=λa U=>U.imp id λz=>by rw[z];exact hD
  refine⟨s1.ex.trans (Ext.new hD),λa U=>.inl (s1.sub a U),s1.l0,λa U=>?_,s1.len,λi d h n=>?_,(λi d _ h=>nomatch h),(λi j d d' a hi=>nomatch hi),λp hp=>Fact.ext (Ext.new hD) (Fact.av up (s1.ext p hp))⟩
  ·rcases U with U|U
   ·rw[aL (λz=>by subst z;exact nA U)];exact s1.live a U
   ·subst U;rw[aN];exact λz=>nomatch z
  ·obtain⟨v,h1,h2⟩:=s1.val i d h n
   exact⟨v,h1,(h2.av up).ext (Ext.new hD)⟩
 ·rintro i m al us H2 ⟨rfl,bq,ρ2,F,rest,s2,ai,x2,ac,W,ed,az⟩
  obtain⟨ar,go⟩:=J1 _ H2 s2.live (λp hp=>s2.ext p (Z4 _ hp)) i;by_cases Y:i<items.length
  ·have eg:items[i]?=some items[i]:=by simp[Y]
   obtain⟨a2,hy⟩:=go _ eg;rw[zbS Y]at W;obtain⟨aa,e3,W⟩:=bind_some W;obtain⟨b,e4,W⟩:=bind_some W;have ao:us.length<XQ:=by
    rw[ac.length];exact zcr az (YZ Y (fM hz))
   refine .inr ⟨a2,ao,λx H3 y=>?_⟩;obtain⟨x3,r3⟩:=hy x H3 y;refine⟨H0,A0,_,E1++E,ρ2,_,aa,s2.mono x3,r3,e3,λb1 s3=>⟨H0,A0,_,E1++E,aa,b,s3,e4,λH5 x5=>?_⟩⟩;have ad:=x3.trans x5;have aq:H5 D=some (.lst us):=ad.ow D _ (.inr rfl) ai;have am:Ext A H H5:=x2.trans (ad.mono λa U=>.inl U);cases b with
   | false=>
    rw[if_neg XZ]at W;exact V8 ⟨aq,items.length-(i+1),by lia,rfl,Y,aa,F,rest,s3.mono x5,aq,am,ac.ext ad,W,ed,by lia⟩
   | true=>
    rw[if_pos rfl]at W;refine VA ?_;obtain⟨d,e6,W⟩:=bind_some W;obtain⟨aj,e7,W⟩:=bind_some W;cases W;refine⟨H0,A0,_,E1++E,aa,d,s3.mono x5,e6,λv H6 x6 r6=>?_⟩;have ap:=ad.trans x6;have af:H6 D=some (.lst us):=ap.ow D _ (.inr rfl) ai;refine⟨af,items.length-(i+1),by lia,rfl,Y,aa,F++[d],aj,?_,aN,?_,((ac.ext ap).append (.cons r6 .nil)).put (.inr rfl) af trivial,e7,by rw[<- ed];simp,by rw[Y3];show F.length+1<=i+1;lia⟩
    ·have s6:=s3.mono (x5.trans x6)
     have bf:H0 D=none:=st.ex.free n0;have G:∀b,H0 b≠none->b≠D:=λb hb z=>hb (by rw[z];exact bf)
     refine⟨⟨λb w r=>jA (G b (by rcases r with r|⟨_,r⟩ <;> (rw[r];exact λz=>nomatch z))) (s6.ex.rd b w r),λb xs k r=>?_,λb w n r=>?_,λb q w r=>?_⟩,s6.sub,s6.l0,λa U=>?_,s6.len,λi d h n=>?_,(λi d _ h=>nomatch h),(λi j d d' a hi=>nomatch hi),λp hp=>Fact.put (.inr rfl) af trivial (s6.ext p hp)⟩
     ·rw[aL (G b (by rw[r];exact λz=>nomatch z))];exact s6.ex.kp b xs k r
     ·rw[aL (G b (by rw[r];exact λz=>nomatch z))];exact s6.ex.ow b w n r
     ·rw[aL (G b (by rw[r];exact λz=>nomatch z))];exact s6.ex.fz b q w r
     ·by_cases z:a=D
      ·subst z;rw[aN];exact λz=>nomatch z
      ·rw[aL z];exact s6.live a U
     ·obtain⟨v,h1,h2⟩:=s6.val i d h n
      exact⟨v,h1,h2.put (.inr rfl) af trivial⟩
    ·have ae:Ext A H H6:=am.trans (x6.mono λa U=>.inl U)
     have G:∀b,H b≠none->b≠D:=λb hb z=>hb (by rw[z];exact n0)
     exact⟨λb w r=>jA (G b (by rcases r with r|⟨_,r⟩ <;> (rw[r];exact λz=>nomatch z))) (ae.rd b w r),
      λb xs k r=>by rw[aL (G b (by rw[r];exact λz=>nomatch z))];exact ae.kp b xs k r,
      λb w n r=>by rw[aL (G b (by rw[r];exact λz=>nomatch z))];exact ae.ow b w n r,
      λb q w r=>by rw[aL (G b (by rw[r];exact λz=>nomatch z))];exact ae.fz b q w r⟩
  ·have ba:i=items.length:=by lia
   subst ba;rw[zdk]at W;cases W;rw[ZZ]at ed;subst ed;exact .inl ⟨ar (XU _),q D H2 x2 n0 nA (.lst ai ac)⟩
theorem LJ
  (G:X.calm=true) (cc:My.Clo X N scope cl) (q:eW X scope N ms) (W:(ms.all λo=>match o with|some i=>!O.contains i|none=>true)=true) (hi:PDI X O tg iter it) (J:∀C s H fp,yL (My.bA X N scope cl C s H fp) [] tg g)
  (F:∀C s H fp,My.EI (My.bA X N scope cl C s H fp) ifs (tDT [] c)) (U:∀C s H fp,PD (My.bA X N scope cl C s H fp) [] elt f) (hs:∀x,zaf iter X.env x=pure x:=by intro _;rfl) :
  PF X O (.ListComp elt [⟨tg,iter,ifs,0⟩] scope pos) (gY ms it g c f):=PE.mono (My.LK G cc hi J F U hs) (w8 q W)
def aD(n:Nat)(ds:List D):cL:=ds.map some++YE (n-ds.length) none
def bT(n:Nat)(f:Sv)(ds:List D):Option D:=(f (aD n ds)).bind λo=>match o with
 | .rt d=>some d
 | .nx _=>some .non
 | _=>none
theorem ST.begun(q:Live A H)(r:RepL A H ds vs):ST H A A [] [] (L2.start N vs) H (aD N.length ds) where
 ex:=Ext.refl _ _
 sub:=λ_ h=>h
 l0:=q
 live:=q
 len:=by unfold L2.start aD;simp[r.length]
 val:=λi d h _=>by
  unfold aD at h;by_cases hi:i<ds.length
  ·rw[zcf (by simpa using hi),YB]at h
   obtain⟨d',F,J⟩:=map_some h;cases J;obtain⟨v,W,G⟩:=r.get' F;refine⟨v,?_,G⟩;unfold L2.start;rw[zcf (by rw[XR,r.length];exact hi),YB,W];rfl
  ·rw[zce (by simpa using hi),zcZ]at h
   split at h <;> cases h
 own:=λi d _ h=>nomatch h
 inj:=λi j d d' a hi=>nomatch hi
 ext:=λp U=>nomatch U
theorem jC{P:XM}{w:World}{K:XF}{mg:Str->Option Value}{base:Heap}{x:Str}{st:Stmt}{N ps:List Str}{k:Nat}{f:Sv}{O':List Nat}(Df:My.DefAt K mg x st ps)(S:FnScope N ps (aF st))
  (h:∀(U:Addr) (F:Value) (A:XS) (outer:List Env) (s:XE) (H:Hp) (E:XK),Room k (A.deeper (YW x (aF st) s.heap.objs.size U F))->∃g,PSDs (c6 AA P w K mg base N x (aF st) U F A outer s H E).nox ⟨[],[]⟩ [] (bO st) g O'/\g=f) :
  Fn P w K mg base x (k+1) ps (bT N.length f):=by
 refine My.BodyOk.ok (λU F A outer s H vs Q E hr G=>?_) Df S (λvs H Q E G=>by obtain⟨A,ds,d,_,_,e,_⟩:=G;exact e);obtain⟨W,ds,d,lv,r,e,eF,q⟩:=G;obtain⟨o,eo,J⟩:=bind_some eF;obtain⟨g,hg,rfl⟩:=h U F A outer s H E hr;refine⟨_,hg,H,W,W,[],_,o,ST.begun lv r,eo,?_⟩;cases o with
 | nx ρ=>cases J;exact λA2 ai H2 Y=>q .non H2 Y.ex .non
 | rt d'=>cases J;exact λv H2 x2 r2=>q v H2 x2 r2
 | bk _=>cases J
 | ct _=>cases J
noncomputable def GY(K:XF):Bool:=K.all λp=>match p.2.cls with
 | .type "list" => false
 | _=>true
theorem DN{K:XF}(h:GY K=true){a:Addr}{o:Obj}(e:K.lookup a=some o):o.cls≠.type "list" := λz=>by
 have m:∀ {K:XF},K.lookup a=some o->(a,o)∈K:=by
  intro K;induction K with
  | nil=>intro e;cases e
  | cons p r ih=>
   intro e;rw[za0]at e;by_cases q:(a == p.1)=true
   ·rw[q]at e;cases e;rw[show a=p.1 by simpa using q];exact X8 ..
   ·rw[ZV]at q;rw[q]at e;exact YH _ (ih e)
 have:=List.all_eq_true.mp h _ (m e);dsimp only at this;rw[z]at this;exact absurd this (by decide)
theorem P1{P:XM}{w:World}{K:XF}{mg:Str->Option Value}{base:Heap}{st:Stmt}{N:List Str}{k:Nat}{f:Sv}{O':List Nat}(hK:GY K=true)
  (h:∀(U:Addr) (F:Value) (A:XS) (outer:List Env) (s:XE) (H:Hp) (E:XK),Room k (A.deeper (YW "law" (aF st) s.heap.objs.size U F))->∃g,PSDs (c6 AA P w K mg base N "law" (aF st) U F A outer s H E).nox ⟨[],[]⟩ [] (bO st) g O'/\g=f)
  (hv:∀ns:List Int,ns.length<=63->bT N.length f [.lst (ns.map .int)]=some (.bl true)):My.BodyOk P w K mg base "law" st N k (My.yE K):=by
 refine λU F A outer s H vs Q E hr Y=>?_
 obtain⟨a,ns,rfl,W,hl,q⟩:=Y;have hR:Rd H a (.lst (ns.map V.int)):=by
  rcases W with W|⟨o,_,_,e,c,_⟩
  ·exact W
  ·exact absurd c (DN hK e)
 have lv:Live (λ_=>False) H:=λa h=>h.elim
 have G:∀ns:List Int,RepL (λ_=>False) H (ns.map .int) (ns.map V.int):=λns=>by
  induction ns with
  | nil=>exact .nil
  | cons n ns ih=>exact .cons (.int n) ih
 obtain⟨o,eo,J⟩:=bind_some (hv ns hl);obtain⟨g,hg,rfl⟩:=h U F A outer s H E hr;refine⟨_,hg,H,λ_=>False,λ_=>False,[],_,o,ST.begun lv (.cons (.lst (λz=>z) hR (G ns)) .nil),eo,?_⟩;cases o with
 | nx ρ=>cases J
 | rt d'=>cases J;exact λv H2 x2 r2=>by cases r2;exact q _
 | bk _=>cases J
 | ct _=>cases J
end
mutual
def jL:D->Option My.Dx
 | .non=>some .non
 | .bl b=>some (.bl b)
 | .int i=>some (.int i)
 | .str x=>some (.str x)
 | .tup l=>(k4 l).map .tup
 | .lst l=>(k4 l).map .lst
 | .dK _=>none
 | .dT _=>none
def k4:List D->Option (List My.Dx)
 | []=>some []
 | d::ds=>(jL d).bind λx=>(k4 ds).bind λxs=>some (x::xs)
end
mutual
theorem oA:∀ {d e:D} {x:My.Dx},jL d=some x->jL e=some x->d=e
 | .non,e,x,h,k=>by cases h;cases e <;> simp[jL]at k <;> first|rfl|(obtain⟨_,_,z⟩:=k;cases z)
 | .bl b,e,x,h,k=>by cases h;cases e <;> simp[jL]at k <;> first|(rw[k])|(obtain⟨_,_,z⟩:=k;cases z)
 | .int b,e,x,h,k=>by cases h;cases e <;> simp[jL]at k <;> first|(rw[k])|(obtain⟨_,_,z⟩:=k;cases z)
 | .str b,e,x,h,k=>by cases h;cases e <;> simp[jL]at k <;> first|(rw[k])|(obtain⟨_,_,z⟩:=k;cases z)
 | .tup l,e,x,h,k=>by
  rw[jL]at h;obtain⟨xs,h1,rfl⟩:=map_some h;cases e with
  | tup m=>
   rw[jL]at k;obtain⟨ys,k1,k2⟩:=map_some k;cases k2;rw[qL h1 k1]
  | lst m=>rw[jL]at k;obtain⟨ys,k1,k2⟩:=map_some k;cases k2
  | _=>simp[jL]at k
 | .lst l,e,x,h,k=>by
  rw[jL]at h;obtain⟨xs,h1,rfl⟩:=map_some h;cases e with
  | lst m=>
   rw[jL]at k;obtain⟨ys,k1,k2⟩:=map_some k;cases k2;rw[qL h1 k1]
  | tup m=>rw[jL]at k;obtain⟨ys,k1,k2⟩:=map_some k;cases k2
  | _=>simp[jL]at k
 | .dK _,e,x,h,k=>by rw[jL]at h;cases h
 | .dT _,e,x,h,k=>by rw[jL]at h;cases h
theorem qL:∀ {d e:List D} {x:List My.Dx},k4 d=some x->k4 e=some x->d=e
 | [],e,x,h,k=>by
  rw[k4]at h;cases h;cases e with
  | nil=>rfl
  | cons e es=>
   rw[k4]at k;obtain⟨_,_,k⟩:=bind_some k;obtain⟨_,_,k⟩:=bind_some k;cases k
 | d::ds,e,x,h,k=>by
  rw[k4]at h;obtain⟨y,h1,h⟩:=bind_some h;obtain⟨ys,h2,h⟩:=bind_some h;cases h;cases e with
  | nil=>rw[k4]at k;cases k
  | cons e es=>
   rw[k4]at k;obtain⟨z,k1,k⟩:=bind_some k;obtain⟨zs,k2,k⟩:=bind_some k;cases k;rw[oA h1 k1,qL h2 k2]
end
mutual
theorem vG{K:XF}{A:Av}{H:Hp}:∀ {d:D} {x:My.Dx} {v:V},jL d=some x->Rep A H d v->My.Rep K H x v
 | .non,x,v,h,r=>by cases h;cases r;rw[My.Rep]
 | .bl b,x,v,h,r=>by cases h;cases r;rw[My.Rep]
 | .int b,x,v,h,r=>by cases h;cases r;rw[My.Rep]
 | .str b,x,v,h,r=>by cases h;cases r;rw[My.Rep]
 | .tup l,x,v,h,r=>by
  rw[jL]at h;obtain⟨xs,h1,rfl⟩:=map_some h;cases r with
  | tup hh rl=>rw[My.Rep];exact⟨_,_,rfl,.inl (.inl hh),lK h1 rl⟩
 | .lst l,x,v,h,r=>by
  rw[jL]at h;obtain⟨xs,h1,rfl⟩:=map_some h;cases r with
  | lst n hh rl=>rw[My.Rep];exact⟨_,_,rfl,.inl hh,lK h1 rl⟩
 | .dK _,x,v,h,r=>by rw[jL]at h;cases h
 | .dT _,x,v,h,r=>by rw[jL]at h;cases h
theorem lK{K:XF}{A:Av}{H:Hp}:∀ {d:List D} {x:List My.Dx} {v:List V},k4 d=some x->RepL A H d v->My.RepL K H x v
 | [],x,v,h,r=>by rw[k4]at h;cases h;cases r;rw[My.RepL]
 | d::ds,x,v,h,r=>by
  rw[k4]at h;obtain⟨y,h1,h⟩:=bind_some h;obtain⟨ys,h2,h⟩:=bind_some h;cases h;cases r with
  | cons r rs=>rw[My.RepL];exact⟨_,_,rfl,vG h1 r,lK h2 rs⟩
end
theorem i7{K:XF}{A:Av}{H:Hp}{d:D}{x:My.Dx}{v:V}(h:jL d=some x)(r:RepB A H d v):My.Rep K H x v:=by
 cases r with
 | of r=>exact vG h r
 | lst hh rl=>
  rw[jL]at h;obtain⟨xs,h1,rfl⟩:=map_some h;rw[My.Rep];exact⟨_,_,rfl,.inl hh,lK h1 rl⟩
 | dK=>rw[jL]at h;cases h
 | dT=>rw[jL]at h;cases h
def jT(d:D):Bool:=match jL d with
 | some x=>x.nb && decide (x.dep<=60)
 | none=>false
noncomputable def EE:D->Bool
 | .tup _=>true | .lst _=>true|_=>false
noncomputable def NE:D->D->Bool
 | .non,.non=>true | .non,.int _=>true | .int _,.non=>true | .non,.bl _=>true | .bl _,.non=>true | .non,.str _=>true | .str _,.non=>true
 | .int _,.int _=>true | .bl _,.bl _=>true | .str _,.str _=>true
 | .int _,.str _=>true | .str _,.int _=>true | .bl _,.str _=>true | .str _,.bl _=>true
 | _,_=>false
open Classical in
def EN(d e:D):Option Bool:=if NE d e=true\/(EE d=true/\EE e=true/\jT d=true/\jT e=true)then some (decide (d=e))else none
def mV(d e:D):Option D:=(EN d e).map .bl
def yK(d e:D):Option D:=(EN d e).map λb=>.bl (!b)
theorem G4(h:NE d e=true)(r:RepB A H d v)(s:RepB A H e w):Q6 v w=true/\(v=w↔d=e):=by
 cases d <;> cases e <;> first
  | (cases h;done)
  | (have:=r.non_inv;subst this;have:=s.non_inv;subst this;exact⟨rfl,by simp⟩)
  | (have:=r.non_inv;subst this;have:=s.int_inv;subst this;exact⟨rfl,by simp⟩)
  | (have:=r.non_inv;subst this;have:=s.bl_inv;subst this;exact⟨rfl,by simp⟩)
  | (have:=r.non_inv;subst this;have:=s.str_inv;subst this;exact⟨rfl,by simp⟩)
  | (have:=r.int_inv;subst this;have:=s.non_inv;subst this;exact⟨rfl,by simp⟩)
  | (have:=r.int_inv;subst this;have:=s.int_inv;subst this;exact⟨rfl,by simp⟩)
  | (have:=r.int_inv;subst this;have:=s.str_inv;subst this;exact⟨rfl,by simp⟩)
  | (have:=r.bl_inv;subst this;have:=s.non_inv;subst this;exact⟨rfl,by simp⟩)
  | (have:=r.bl_inv;subst this;have:=s.bl_inv;subst this;exact⟨rfl,by simp⟩)
  | (have:=r.bl_inv;subst this;have:=s.str_inv;subst this;exact⟨rfl,by simp⟩)
  | (have:=r.str_inv;subst this;have:=s.non_inv;subst this;exact⟨rfl,by simp⟩)
  | (have:=r.str_inv;subst this;have:=s.int_inv;subst this;exact⟨rfl,by simp⟩)
  | (have:=r.str_inv;subst this;have:=s.bl_inv;subst this;exact⟨rfl,by simp⟩)
  | (have:=r.str_inv;subst this;have:=s.str_inv;subst this;exact⟨rfl,by simp⟩)
section
variable {X:Cx}{O:List Nat}
theorem OpR.orM(h:OpR X f r)(h':OpR X f r')(x:∀a b H Q,r2 a b H Q->r a b H Q\/r' a b H Q):OpR X f r2:=OpR.mono (OpR.or h h') x
theorem mP(h:jT d=true):∃x,jL d=some x/\x.nb=true/\x.dep<=60:=by
 unfold jT at h;cases e:jL d with
 | none=>rw[e]at h;cases h
 | some x=>rw[e]at h;simp only[YU,decide_eq_true_eq]at h;exact⟨x,rfl,h.1,h.2⟩
theorem B3(h:EE d=true)(e:jL d=some x):x.seq=true:=by
 cases d with
 | tup l=>rw[jL]at e;obtain⟨xs,_,rfl⟩:=map_some e;rfl
 | lst l=>rw[jL]at e;obtain⟨xs,_,rfl⟩:=map_some e;rfl
 | _=>cases h
theorem R0(hu:X.A.units+64<cLine):jK X (XY .Eq) mV:=OpR.orM S8 (My.NS hu) <| by
 rintro x y H Q ⟨A,dx,Y,d,lv,U,W,e,q⟩;obtain⟨b,G,rfl⟩:=map_some e;unfold EN at G;split at G
 case isFalse=>cases G
 rename_i hc;cases G;rcases hc with hs|⟨s1,s2,k1,k2⟩
 ·left
  obtain⟨h1,h2⟩:=G4 hs U W;refine⟨h1,?_⟩;have:decide (x=y)=@decide (dx=Y) (zaM _):=decide_eq_decide.mpr h2;rw[this];exact q _ H (Ext.refl _ _) (.bl _)
 ·right
  obtain⟨J,F,a2,a3⟩:=mP k1;obtain⟨N,b1,b2,b3⟩:=mP k2;refine⟨J,N,i7 F U,i7 b1 W,B3 s1 F,B3 s2 b1,a2,b2,a3,?_⟩;have:@decide (J=N) (zaM _)=@decide (dx=Y) (zaM _):=decide_eq_decide.mpr ⟨λz=>oA F (z ▸ b1),λz=>by subst z;rw[F]at b1;exact YJ b1⟩;show Q (.bl (@decide (J=N) (zaM _))) H;rw[this];exact q _ H (Ext.refl _ _) (.bl _)
theorem SI(hu:X.A.units+64<cLine):jK X (XY .NotEq) yK:=OpR.orM SJ (My.P7 hu) <| by
 rintro x y H Q ⟨A,dx,Y,d,lv,U,W,e,q⟩;obtain⟨b,G,rfl⟩:=map_some e;unfold EN at G;split at G
 case isFalse=>cases G
 rename_i hc;cases G;rcases hc with hs|⟨s1,s2,k1,k2⟩
 ·left
  obtain⟨h1,h2⟩:=G4 hs U W;refine⟨h1,?_⟩;have:decide (x=y)=@decide (dx=Y) (zaM _):=decide_eq_decide.mpr h2;rw[this];exact q _ H (Ext.refl _ _) (.bl _)
 ·right
  obtain⟨J,F,a2,a3⟩:=mP k1;obtain⟨N,b1,b2,b3⟩:=mP k2;refine⟨J,N,i7 F U,i7 b1 W,B3 s1 F,B3 s2 b1,a2,b2,a3,?_⟩;have:@decide (J=N) (zaM _)=@decide (dx=Y) (zaM _):=decide_eq_decide.mpr ⟨λz=>oA F (z ▸ b1),λz=>by subst z;rw[F]at b1;exact YJ b1⟩;show Q (.bl (!@decide (J=N) (zaM _))) H;rw[this];exact q _ H (Ext.refl _ _) (.bl _)
theorem Inv.lstR(I:Inv X pins σ H s)(F:Rd H l (.lst xs)):xs.length<=XQ/\∃(q:List Value) (n:Nat),Vals xs q/\xs.length=q.length/\s.heap.get? l=some {cls:=.type "list",data:=.seq q.toArray n}:=by
 obtain⟨hz,q,n,r,e⟩:=(show ObjOk X.prog X.w H s.heap l (.lst xs)from F.ok I.hok);exact⟨hz,q,n,r,r.length,e⟩
def TH:R2:=λx y H Q=>∃l b xs zs,x=.ref l/\y=.ref b/\Rd H l (.lst xs)/\Rd H b (.lst zs)/\xs.length+zs.length<=XQ/\∀p,H p=none->Q (.ref p) (upd H p (.lst (xs++zs)))
theorem KP:OpR X (YT .Add) TH:=by
 intro pins s σ H x y v u Q I rx ry h;obtain⟨l,b,xs,zs,rfl,rfl,U,J,hz,q⟩:=h;cases rx;cases ry;obtain⟨z,G,n,r,hl,e⟩:=Inv.lstR I U;obtain⟨z2,F,n2,Y,W,N⟩:=Inv.lstR I J;refine PySem.P.add_list e N ?_ (by rw[XX,XX];lia);have ea:G.toArray++F.toArray=(G++F).toArray:=by simp
 rw[ea];exact⟨.ref _,_,I.lnew (t':=s.toks) (r.append Y) (by rw[Y3];lia),rfl,q _ I.fresh⟩
end
section
variable {X:Cx}{O:List Nat}
theorem RepL.nil_iff(r:RepL A H ds vs):vs=[]↔ds=[]:=by cases r <;> simp
def uH:D->D->Option D
 | .int i,.int j=>some (.int (i+j))
 | .str i,.str j=>if aW (i.length+j.length)then some (.str (i++j))else none
 | .lst l,.lst m=>if aW (l.length+m.length)then some (.lst (l++m))else none
 | .tup (a::l),.tup m=>if aW (l.length+1+m.length)then some (.tup (a::l++m))else none
 | _,_=>none
theorem OM:jK X (YT .Add) uH:=OpR.mono (OpR.or (OpR.or OT yP) (OpR.or KP JW)) <| by
 rintro x y H Q ⟨A,dx,N,d,Y,U,W,e,q⟩;cases dx with
 | int i=>
  cases N with
  | int j=>cases e;have:=U.int_inv;subst this;have:=W.int_inv;subst this;exact .inl (.inl ⟨i,j,rfl,rfl,q _ H (Ext.refl _ _) (.int _)⟩)
  | _=>cases e
 | str i=>
  cases N with
  | str j=>
   simp only[uH]at e;by_cases hz:aW (i.length+j.length)=true
   ·rw[if_pos hz]at e;cases e;have:=U.str_inv;subst this;have:=W.str_inv;subst this
    exact .inl (.inr ⟨i,j,rfl,rfl,fM hz,q _ H (Ext.refl _ _) (.str _)⟩)
   ·rw[if_neg hz]at e;cases e
  | _=>cases e
 | lst l=>
  cases N with
  | lst m=>
   simp only[uH]at e;by_cases hz:aW (l.length+m.length)=true
   ·rw[if_pos hz]at e;cases e
    obtain⟨a,xs,rfl,h1,F⟩:=U.lst_inv;obtain⟨b,ys,rfl,h2,J⟩:=W.lst_inv;exact .inr (.inl ⟨a,b,xs,ys,rfl,rfl,h1,h2,by rw[F.length,J.length];exact fM hz,λp G=>q _ _ (Ext.new G) (.lst (λz=>Y p z G) (.inl aN) ((F.append J).ext (Ext.new G)))⟩)
   ·rw[if_neg hz]at e;cases e
  | _=>cases e
 | tup l=>
  cases l with
  | nil=>cases N <;> cases e
  | cons a0 l=>
   cases N with
   | tup m=>
    simp only[uH]at e;by_cases hz:aW (l.length+1+m.length)=true
    ·rw[if_pos hz]at e;cases e
     obtain⟨a,xs,rfl,h1,F⟩:=U.tup_inv;obtain⟨b,ys,rfl,h2,J⟩:=W.tup_inv;refine .inr (.inr ⟨a,b,xs,ys,rfl,rfl,.inl (.inl h1),.inl (.inl h2),λz=>(by have:=F.nil_iff.mp z;cases this),by rw[F.length,J.length];exact fM hz,λz=>?_,λ_ p G=>q _ _ (Ext.new G) (.tup aN ((F.append J).ext (Ext.new G)))⟩);refine q _ H (Ext.refl _ _) (.tup h1 ?_);have:=J.nil_iff.mp z;subst this;rw[ZZ];exact F
    ·rw[if_neg hz]at e;cases e
   | _=>cases e
 | _=>cases N <;> cases e
noncomputable def iE:List D->Option (List Int)
 | []=>some []
 | .int i::ds=>(iE ds).map (i::·)
 | _=>none
theorem hZ:∀ {ds:List D} {ns:List Int} {vs:List V},iE ds=some ns->RepL A H ds vs->vs=ns.map V.int
 | [],ns,vs,h,r=>by cases h;cases r;rfl
 | .int i::ds,ns,vs,h,r=>by
  obtain⟨ms,h1,rfl⟩:=map_some h;cases r with
  | cons r rs=>cases r;rw[hZ h1 rs];rfl
def k7:D->D->Option D
 | .int i,.int j=>some (.bl (decide (i<j)))
 | .tup l,.tup m=>(iE l).bind λns=>(iE m).map λms=>.bl (HT.lexLt ns ms)
 | _,_=>none
theorem G2(hu:X.A.units<cLine):jK X (XY .Lt) k7:=OpR.mono (OpR.or R4 (QH hu)) <| by
 rintro x y H Q ⟨A,dx,F,d,lv,G,J,e,q⟩;cases dx with
 | int i=>
  cases F with
  | int j=>cases e;have:=G.int_inv;subst this;have:=J.int_inv;subst this;exact .inl ⟨i,j,rfl,rfl,q _ H (Ext.refl _ _) (.bl _)⟩
  | _=>cases e
 | tup l=>
  cases F with
  | tup m=>
   obtain⟨ns,N,e⟩:=bind_some e;obtain⟨ms,U,rfl⟩:=map_some e;obtain⟨a,xs,rfl,h1,Y⟩:=G.tup_inv;obtain⟨b,ys,rfl,h2,W⟩:=J.tup_inv;have:=hZ N Y;subst this;have:=hZ U W;subst this;exact .inr ⟨a,b,ns,ms,rfl,rfl,.inl (.inl h1),.inl (.inl h2),q _ H (Ext.refl _ _) (.bl _)⟩
  | _=>cases e
 | _=>cases F <;> cases e
open Classical in
def IW(x y:D):Option Bool:=match y with
 | .dK _=>(eQ y x).map (·.isSome)
 | .dT _=>(eQ y x).map (·.isSome)
 | .lst l=>if jT x=true/\l.all jT=true then some (l.any λd=>decide (d=x))else none
 | .tup l=>if jT x=true/\l.all jT=true then some (l.any λd=>decide (d=x))else none
 | _=>none
def RF(x y:D):Option D:=(IW x y).map .bl
open Classical in
theorem xU(I:Inv X pins σ H s)(hu:Ar.units+60<cLine)(kx:jT x=true)(rx:RepB A H x v)(ru:RelV v u)(kl:l.all jT=true)(rl:RepL A H l xs)(U:Vals xs F) :
  ∃f:Value->Bool,(∀y∈F,zbD Ar s y u (f y))/\F.any f=l.any λd=>decide (d=x):=by
 obtain⟨G,J,a2,a3⟩:=mP kx;have N:My.Rep X.K H G v:=i7 J rx;let g:Value->Bool:=λy=>decide (∃w z,RelV w y/\My.Rep X.K H z w/\z=G)
 have one:∀ {d:D} {w:V} {y:Value},jT d=true->Rep A H d w->RelV w y->g y=decide (d=x)/\zbD Ar s y u (g y):=by
  intro d w y kd rd W;obtain⟨z,b1,b2,b3⟩:=mP kd;have Y:My.Rep X.K H z w:=vG b1 rd;have e:g y=decide (z=G):=by
   refine decide_eq_decide.mpr ⟨λ⟨w',z',q1,q2,q3⟩=>?_,λe=>⟨w,z,W,Y,e⟩⟩;have:=RelV.inj W q1;subst this;rw[My.Rep.inj I _ _ _ Y q2,q3]
  have e2:decide (z=G)=decide (d=x):=decide_eq_decide.mpr ⟨λq=>oA b1 (q ▸ J),λq=>by subst q;rw[b1]at J;exact YJ J⟩;refine⟨e.trans e2,?_⟩;rw[e];exact My.vH I 60 Ar z G w v y u b3 hu b2 a2 Y N W ru
 refine⟨g,?_,?_⟩
 ·intro y hy
  obtain⟨j,hj⟩:=List.mem_iff_getElem?.mp hy;have ac:=U.length;have ar:j<F.length:=(List.getElem?_eq_some_iff.mp hj).1;have hx:xs[j]?=some (xs[j]'(by lia)):=Y6 (by lia);obtain⟨u',e1,r1⟩:=U.get hx;rw[hj]at e1;cases e1;obtain⟨d,e2,r2⟩:=rl.get hx;exact(one (List.all_eq_true.mp kl _ (YO e2)) r2 r1).2
 ·have all:∀(l:List D) (xs:List V) (F:List Value),l.all jT=true->RepL A H l xs->Vals xs F->F.any g=l.any λd=>decide (d=x):=by
   intro l;induction l with
   | nil=>intro xs F _ r v;cases r;cases v;rfl
   | cons d l ih=>
    intro xs F k r v;cases r with
    | cons h t=>
     cases v with
     | cons r rs=>
      rw[zbd,YU]at k;rw[Z1,Z1,(one k.1 h r).1,ih _ _ k.2 t rs]
  exact all l xs F kl rl U
theorem R3(hu:X.A.units+64<cLine):jK X (XY .In) RF:=by
 intro pins s σ H x y v u Q I J Y h;obtain⟨A,dx,dy,d,lv,rx,U,e,q⟩:=h;obtain⟨b,F,rfl⟩:=map_some e;have fin:∀k,k=b->EP X pins σ Q (.bool k) s:=λk hk=>⟨.bl b,H,I,by rw[hk];rfl,q _ H (Ext.refl _ _) (.bl _)⟩
 have N:X.A.units+1<cLine:=by lia
 have dict:∀o,eQ dy dx=some o->o.isSome=b->wpAny (model X.prog X.w) X.A (XY .In v u) (EP X pins σ Q) X.xe s:=λo G ob=>by
  obtain⟨a,ov,rfl,_,g,e3⟩:=pX G U rx;cases Y;refine VE N I g J λs' I'=>⟨.bl b,H,I',?_,q _ H (Ext.refl _ _) (.bl _)⟩
  have:ov.isSome=b:=by rw[<- ob];rcases e3 with⟨rfl,rfl⟩|⟨_,_,rfl,rfl,_⟩ <;> rfl
  rw[this];rfl
 cases dy with
 | dK l=>obtain⟨o,G,ob⟩:=map_some F;exact dict o G ob
 | dT l=>obtain⟨o,G,ob⟩:=map_some F;exact dict o G ob
 | lst l=>
  simp only[IW]at F;split at F
  case isFalse=>cases F
  rename_i hc;cases F;obtain⟨a,xs,rfl,h1,r1⟩:=U.lst_inv;cases Y;obtain⟨W,r,pl,hz⟩:=I.list (.inl h1);obtain⟨f,f1,f2⟩:=xU (Ar:=X.A.in1) I (by show X.A.units+1+60<cLine;lia) hc.1 rx J hc.2 r1 r;refine SeqAt.in_listAt f (My.PlainL.isList pl) (λw hw=>f1 w (by simpa using hw)) (fin _ ?_);rw[<- f2];simp
 | tup l=>
  simp only[IW]at F;split at F
  case isFalse=>cases F
  rename_i hc;cases F;obtain⟨a,xs,rfl,h1,r1⟩:=U.tup_inv;cases Y;obtain⟨W,r,pl,hz⟩:=I.tuple (.inl (.inl h1));obtain⟨f,f1,f2⟩:=xU (Ar:=X.A.in1) I (by show X.A.units+1+60<cLine;lia) hc.1 rx J hc.2 r1 r;refine SeqAt.in_tupleAt f pl (λw hw=>f1 w (by simpa using hw)) (fin _ ?_);rw[<- f2];simp
 | _=>cases F
def dY:List D->Option D
 | [.lst l]=>some (.int l.length)
 | [.tup l]=>some (.int l.length)
 | [.str z]=>if aW z.length then some (.int z.length)else none
 | [.dK l]=>some (.int l.length)
 | _=>none
theorem IF:jG X (.builtin "len") dY:=by
 intro pins s σ H xs J Q I r h;obtain⟨A,ds,d,lv,F,e,q⟩:=h
 match ds,F,e with
 | [.lst l],F,e=>
  cases e;obtain⟨v,rfl,h1⟩:=F.one;obtain⟨a,xs,rfl,h2,G⟩:=h1.lst_inv;exact p5 pins s σ H _ J Q I r ⟨_,_,rfl,.inl ⟨xs,.inl h2,rfl⟩,by rw[G.length];exact q _ H (Ext.refl _ _) (.int _)⟩
 | [.tup l],F,e=>
  cases e;obtain⟨v,rfl,h1⟩:=F.one;obtain⟨a,xs,rfl,h2,G⟩:=h1.tup_inv;exact p5 pins s σ H _ J Q I r ⟨_,_,rfl,.inr ⟨xs,.inl (.inl h2),rfl⟩,by rw[G.length];exact q _ H (Ext.refl _ _) (.int _)⟩
 | [.str z],F,e=>
  simp only[dY]at e;by_cases hz:aW z.length=true
  ·rw[if_pos hz]at e;cases e
   obtain⟨v,rfl,h1⟩:=F.one;have:=h1.str_inv;subst this;exact p5 pins s σ H _ J Q I r ⟨_,_,rfl,⟨fM hz,rfl⟩,q _ H (Ext.refl _ _) (.int _)⟩
  ·rw[if_neg hz]at e;cases e
 | [.dK l],F,e=>
  cases e;obtain⟨v,rfl,h1⟩:=F.one;obtain⟨a,xs,rfl,h2,U,G⟩:=h1.dK_inv;obtain⟨u,rfl,Y⟩:=vals1 r;cases Y;have N:xs.length=l.length:=by have:=congrArg zay U;simpa using this
  exact TF I h2 λt s' W=>⟨.int xs.length,H,W,⟨t,rfl⟩,by rw[N];exact q _ H (Ext.refl _ _) (.int _)⟩
 | [],_,e=>cases e
 | [.non],_,e=>cases e
 | [.bl _],_,e=>cases e
 | [.int _],_,e=>cases e
 | [.dT _],_,e=>cases e
 | _::_::_,_,e=>simp[dY]at e
noncomputable def IP:List D->Option D
 | [.int i,.int j]=>some (.int (if j<i then j else i))
 | _=>none
noncomputable def B9:List D->Option D
 | [.int i,.int j]=>some (.int (if j>i then j else i))
 | _=>none
theorem xJ{ds:List D}{g:Int->Int->D}(h:(match ds with|[.int i,.int j]=>some (g i j)|_=>none)=some d):∃i j,ds=[.int i,.int j]/\d=g i j:=by
 split at h
 ·cases h;exact⟨_,_,rfl,rfl⟩
 ·cases h
theorem LO(F:X.calm=true):jG X (.builtin "min") IP:=CallR.mono (D4 F) <| by
 rintro xs H Q ⟨A,ds,d,G,r,e,q⟩;obtain⟨i,j,rfl,rfl⟩:=xJ (g:=λi j=>.int (if j<i then j else i)) e;obtain⟨v,w,rfl,h1,h2⟩:=r.two;have:=h1.int_inv;subst this;have:=h2.int_inv;subst this;exact⟨i,j,rfl,q _ H (Ext.refl _ _) (.int _)⟩
theorem JI(F:X.calm=true):jG X (.builtin "max") B9:=CallR.mono (DB F) <| by
 rintro xs H Q ⟨A,ds,d,G,r,e,q⟩;obtain⟨i,j,rfl,rfl⟩:=xJ (g:=λi j=>.int (if j>i then j else i)) e;obtain⟨v,w,rfl,h1,h2⟩:=r.two;have:=h1.int_inv;subst this;have:=h2.int_inv;subst this;exact⟨i,j,rfl,q _ H (Ext.refl _ _) (.int _)⟩
noncomputable def cT:List D->Option D
 | [.lst l]=>some (.tup l)
 | [.tup l]=>some (.tup l)
 | _=>none
noncomputable def fO:List D->Option D
 | [.lst l]=>some (.lst l)
 | [.tup l]=>some (.lst l)
 | _=>none
theorem BS{ds:List D}{g:List D->D}(h:(match ds with|[.lst l]=>some (g l)|[.tup l]=>some (g l)|_=>none)=some d):∃l,(ds=[.lst l]\/ds=[.tup l])/\d=g l:=by
 split at h
 ·cases h;exact⟨_,.inl rfl,rfl⟩
 ·cases h;exact⟨_,.inr rfl,rfl⟩
 ·cases h
theorem lN:jG X (.type "tuple") cT:=CallR.mono rV <| by
 rintro xs H Q ⟨A,ds,d,N,r,e,q⟩;obtain⟨l,J,rfl⟩:=BS (g:=.tup) e;rcases J with rfl|rfl
 ·obtain⟨v,rfl,h1⟩:=r.one
  obtain⟨a,xs,rfl,h2,F⟩:=h1.lst_inv;exact⟨a,xs,rfl,.inl ⟨.inl h2,λp G=>q _ _ (Ext.new G) (.tup aN (F.ext (Ext.new G)))⟩⟩
 ·obtain⟨v,rfl,h1⟩:=r.one
  obtain⟨a,xs,rfl,h2,F⟩:=h1.tup_inv;exact⟨a,xs,rfl,.inr ⟨.inl (.inl h2),q _ H (Ext.refl _ _) (.tup h2 F)⟩⟩
theorem ML:uF X (.type "list") fO:=CallR.mono uT <| by
 rintro xs H Q ⟨A,ds,d,J,r,e,q⟩;obtain⟨l,N,rfl⟩:=BS (g:=.lst) e;rcases N with rfl|rfl
 ·obtain⟨v,rfl,h1⟩:=r.one
  obtain⟨a,xs,rfl,h2,G⟩:=h1.lst_inv;exact⟨a,xs,rfl,.inl (.inl h2),λp F=>q p _ (Ext.new F) F (λz=>J p z F) (.lst aN (G.fresh F))⟩
 ·obtain⟨v,rfl,h1⟩:=r.one
  obtain⟨a,xs,rfl,h2,G⟩:=h1.tup_inv;exact⟨a,xs,rfl,.inr (.inl (.inl h2)),λp F=>q p _ (Ext.new F) F (λz=>J p z F) (.lst aN (G.fresh F))⟩
end
section
variable {X:Cx}{O:List Nat}
noncomputable def V9:D->String
 | .non => "NoneType" | .bl _ => "bool" | .int _ => "int" | .str _ => "str" | .tup _ => "tuple" | .lst _ => "list" | .dK _ => "dict" | .dT _ => "dict"
def VL(K:XF):List V->Hp->VK->Prop:=λxs H Q=>∃A d x n b,xs=[x,.ty n]/\RepB A H d x/\ZU K (.type (V9 d)) (.type n)=some b/\Q (.bl b) H
theorem FN:CallR X (.builtin "isinstance") (VL X.K):=by
 intro pins s σ H xs U Q I r h;obtain⟨A,d,x,n,b,rfl,F,e,q⟩:=h;have G:∀t,TyOf X.K H x t->t=.type (V9 d)->wpAny (model X.prog X.w) X.A (call (.builtin "isinstance") U) (EP X pins σ Q) X.xe s:=λt Y W=>by
  subst W;exact My.FM pins s σ H _ U Q I r ⟨x,n,_,b,rfl,Y,e,q⟩
 cases d with
 | non=>have:=F.non_inv;subst this;exact G _ .non rfl
 | bl c=>have:=F.bl_inv;subst this;exact G _ (.bl c) rfl
 | int c=>have:=F.int_inv;subst this;exact G _ (.int c) rfl
 | str c=>have:=F.str_inv;subst this;exact G _ (.str c) rfl
 | tup l=>obtain⟨a,xs,rfl,h1,_⟩:=F.tup_inv;exact G _ (.tup h1) rfl
 | lst l=>
  obtain⟨a,xs,rfl,h1,_⟩:=F.lst_inv;rcases h1 with h1|⟨o,h1⟩
  ·exact G _ (.lst h1) rfl
  ·exact G _ (.frz h1) rfl
 | dK l=>
  obtain⟨a,xs,rfl,h1,_⟩:=F.dK_inv;obtain⟨u,u',rfl,N,J⟩:=vals2 r;cases N;cases J;obtain⟨_,_,vs,_,p⟩:=(show ObjOk X.prog X.w H s.heap a (.dK xs)from h1.ok I.hok);obtain⟨o,es,ep,h1,h2,_⟩:=p;exact ZP zcc I.kIn ⟨o,h1,h2.1⟩ e (λz=>nomatch z) λtk=>⟨.bl b,H,I.tok tk,rfl,q⟩
 | dT l=>
  obtain⟨a,xs,rfl,h1,_⟩:=F.dT_inv;obtain⟨u,u',rfl,N,J⟩:=vals2 r;cases N;cases J;obtain⟨_,_,xs,_,o,es,ep,h1,h2,_⟩:=(show ObjOk X.prog X.w H s.heap a (.dT xs)from h1.ok I.hok);exact ZP zcc I.kIn ⟨o,h1,h2.1⟩ e (λz=>nomatch z) λtk=>⟨.bl b,H,I.tok tk,rfl,q⟩
noncomputable def mT(n:String)(d:D):Bool:=match d with
 | .non=>false
 | .bl _=>n == "bool" || n == "int"
 | .int _=>n == "int"
 | .str _=>n == "str"
 | .tup _=>n == "tuple"
 | .lst _=>n == "list"
 | .dK _=>n == "dict"
 | .dT _=>n == "dict"
def UE(n:String):Prop:=∀(K:XF) (d:D),ZU K (.type (V9 d)) (.type n)=some (mT n d)
theorem JK:UE "int" := λK d=>by cases d <;> rfl
theorem GH:UE "bool" := λK d=>by cases d <;> rfl
theorem K2:UE "str" := λK d=>by cases d <;> rfl
theorem kit_tuple:UE "tuple" := λK d=>by cases d <;> rfl
def z8(n:String)(f:Ev):Ev:=λρ=>(f ρ).map λd=>.bl (mT n d)
theorem v5(F:UE n)(hg:Gl X "isinstance")(hm:X.mg "isinstance" = none)(J:Gl X x)(G:X.mg x=none)(Y:YC x=some (.type n))(he:PB X O e f)(hn:x ≠ "__name__" := by decide)(W:(x == ("__debug__" : Str))=false:=by decide)
  (h1:XI [e,.Name x p2] X.env=(false,eval e X.env)::XI [.Name x p2] X.env:=by rfl) (h2:(X0 pos (XI [.Name x p2] X.env)).any (·.1)=false:=by rfl) (N:XI [.Name x p2] X.env=(false,eval (.Name x p2) X.env)::XI [] X.env:=by rfl) :
  PD X O (.Call (.Name "isinstance" p) [e,.Name x p2] [] pos) (z8 n f):=
 PE.mono (gU FN hg hm My.boot_isinstance (bB he (bB (BD (v:=.ty n) J G Y rfl hn W) dX N) h1) (by decide) (by decide) h1 h2) <| by
  rintro σ H Q ⟨H0,A0,A,E,ρ,d,st,e,q⟩;obtain⟨x,ex,rfl⟩:=map_some e;exact⟨H0,A0,A,E,ρ,x,st,ex,λv H1 U r1=>⟨A,x,v,n,_,rfl,r1,F _ _,q _ H1 U (.bl _)⟩⟩
def qZ:List Key->Option (List Int)
 | []=>some []
 | .inl i::ks=>(qZ ks).map (i::·)
 | _=>none
theorem sV:∀ {k:List Key} {ns:List Int},qZ k=some ns->k=ns.map X7
 | [],ns,h=>by cases h;rfl
 | .inl i::ks,ns,h=>by obtain⟨ms,h1,rfl⟩:=map_some h;rw[sV h1];rfl
theorem nB:∀ns:List Int,qZ (ns.map X7)=some ns
 | []=>rfl
 | n::ns=>by rw[XW,qZ,nB ns];rfl
def intKeys{α:Type}:List (List Key×α)->Option (List (List Int×α))
 | []=>some []
 | p::l=>(qZ p.1).bind λns=>(intKeys l).map λr=>(ns,p.2)::r
def NL{α:Type}(p:List Int×α):List Key×α:=(p.1.map X7,p.2)
theorem kS{q:Type}:∀ {l:List (List Key×q)} {m:List (List Int×q)},intKeys l=some m->l=m.map NL
 | [],m,h=>by cases h;rfl
 | p::l,m,h=>by
  obtain⟨ns,h1,h⟩:=bind_some h;obtain⟨r,h2,rfl⟩:=map_some h;rw[XW,kS h2];congr 1;show p=(ns.map X7,p.2);rw[<- sV h1]
theorem m8{q:Type}:∀m:List (List Int×q),intKeys (m.map NL)=some m
 | []=>rfl
 | p::m=>by rw[XW,intKeys,show(NL p).1=p.1.map X7 from rfl,nB,m8 m];rfl
theorem pS{xs:List (List Key×V)}{m:List (List Int×D)}(e:xs.map (·.1)=(m.map NL).map (·.1)):∃ps:List (List Int×V),xs=ps.map My.kI/\ps.map (·.1)=m.map (·.1):=by
 induction m generalizing xs with
 | nil=>cases xs with
  | nil=>exact⟨[],rfl,rfl⟩
  | cons _ _=>cases e
 | cons p m ih=>cases xs with
  | nil=>cases e
  | cons x xs=>
   rw[XW,XW,XW]at e;injection e with e1 e2
   obtain⟨ps,h1,h2⟩:=ih e2;refine⟨(p.1,x.2)::ps,?_,by rw[XW,XW,h2]⟩;rw[XW,<- h1];congr 1;show x=(p.1.map X7,x.2);rw[<- show x.1=p.1.map X7 from e1]
def ins{α:Type}(p:List Int×α):List (List Int×α)->List (List Int×α)
 | []=>[p]
 | q::r=>if HT.lexLt p.1 q.1=true then p::q::r else q::ins p r
def bN{α:Type}:List (List Int×α)->List (List Int×α)
 | []=>[]
 | p::r=>ins p (bN r)
theorem ins_map{F G:Type}(f:F->G)(p:List Int×F):∀l:List (List Int×F),(ins p l).map (λx=>(x.1,f x.2))=ins (p.1,f p.2) (l.map λx=>(x.1,f x.2))
 | []=>rfl
 | q::r=>by
  rw[ins,XW,ins];by_cases h:HT.lexLt p.1 q.1=true
  ·rw[if_pos h,if_pos h];rfl
  ·rw[if_neg h,if_neg h,XW,ins_map f p r]
theorem eZ{q F:Type}(f:q->F):∀l:List (List Int×q),(bN l).map (λx=>(x.1,f x.2))=bN (l.map λx=>(x.1,f x.2))
 | []=>rfl
 | p::r=>by rw[bN,ins_map,eZ f r,XW,bN]
theorem pZ{F:Type}(p:List Int×F):∀l:List (List Int×F),(ins p l).Perm (p::l)
 | []=>.refl _
 | q::r=>by
  rw[ins];by_cases h:HT.lexLt p.1 q.1=true
  ·rw[if_pos h]
  ·rw[if_neg h];exact((pZ p r).cons q).trans (.swap ..)
theorem c4{q:Type}:∀l:List (List Int×q),(bN l).Perm l
 | []=>.refl _
 | p::r=>(pZ p (bN r)).trans ((c4 r).cons p)
def jQ{q:Type}(l:List (List Int×q)):Prop:=l.Pairwise λa b=>HT.lexLt a.1 b.1=true
theorem pC{J:Type}(p:List Int×J):∀l:List (List Int×J),(∀q∈l,q.1≠p.1)->jQ l->jQ (ins p l)
 | [],_,_=>by rw[ins];exact List.pairwise_singleton _ _
 | q::r,hn,h=>by
  rw[ins];have F:=List.pairwise_cons.mp h;by_cases c:HT.lexLt p.1 q.1=true
  ·rw[if_pos c]
   refine List.pairwise_cons.mpr ⟨λx G=>?_,h⟩;rcases List.mem_cons.mp G with e|e
   ·rw[e];exact c
   ·exact My.vX _ _ _ c (F.1 x e)
  ·rw[if_neg c]
   refine List.pairwise_cons.mpr ⟨λx G=>?_,pC p r (λy N=>hn y (YH _ N)) F.2⟩;rcases List.mem_cons.mp ((pZ p r).subset G)with e|e
   ·rw[e]
    rcases My.vL p.1 q.1 (λz=>hn q (X8 ..) z.symm)with z|z
    ·exact absurd z c
    ·exact z
   ·exact F.1 x e
theorem lD{G:Type}:∀l:List (List Int×G),(l.map (·.1)).Nodup->jQ (bN l)
 | [],_=>List.Pairwise.nil
 | p::r,h=>by
  rw[XW,List.nodup_cons]at h;refine pC p _ (λq F z=>h.1 ?_) (lD r h.2);exact List.mem_map.mpr ⟨q,(c4 r).subset F,z⟩
theorem rY{q:Type}{l m:List (List Int×q)}(h1:jQ l)(h2:jQ m)(F:l.Perm m):l=m:=by
 refine List.Perm.eq_of_pairwise (le:=λ(a b:List Int×q)=>HT.lexLt a.1 b.1=true) (λa b _ _ x y=>?_) h1 h2 F;have:=My.vX _ _ _ x y;rw[My.u9]at this;cases this
theorem nD{m:List (List Int×D)}{ps F:List (List Int×V)}(J:(ps.map (·.1)).Nodup)(h:PP A H (m.map NL) (ps.map My.kI))(hs:My.vV F)(hp:F.Perm ps):YQ (λ(p:List Int×D) (q:List Int×V)=>p.1=q.1/\Rep A H p.2 q.2) (bN m) F:=by
 -- both by one list of triples
 have Y:∀ {m:List (List Int×D)} {ps:List (List Int×V)},PP A H (m.map NL) (ps.map My.kI)->∃ts:List (List Int×(D×V)),m=ts.map (λt=>(t.1,t.2.1))/\ps=ts.map (λt=>(t.1,t.2.2))/\∀t∈ts,Rep A H t.2.1 t.2.2:=by
  intro m;induction m with
  | nil=>intro ps h;cases ps with
   | nil=>exact⟨[],rfl,rfl,λ_ h=>nomatch h⟩
   | cons _ _=>cases h
  | cons p m ih=>intro ps h;cases ps with
   | nil=>cases h
   | cons q ps=>
    cases h with
    | cons h t=>
     obtain⟨ts,G,N,W⟩:=ih t;have ek:p.1=q.1:=My.lZ.mp h.1;refine⟨(p.1,(p.2,q.2))::ts,by rw[XW,<- G],by rw[XW,<- N];congr 1;rw[ek],λt U=>?_⟩;rcases List.mem_cons.mp U with e|e
     ·rw[e];exact h.2
     ·exact W t e
 obtain⟨ts,G,N,W⟩:=Y h;have d1:bN m=(bN ts).map λt=>(t.1,t.2.1):=by rw[G,eZ]
 have d2:F=(bN ts).map λt=>(t.1,t.2.2):=by
  have s1:jQ (bN ps):=lD ps J;have:=rY (l:=F) (m:=bN ps) hs s1 (hp.trans (c4 ps).symm);rw[this,N,eZ]
 rw[d1,d2];refine My.hW _ λt U=>⟨rfl,W t ((c4 ts).subset U)⟩
def vF:List D->Option D
 | [.dT l]=>(intKeys l).bind λm=>if m.length<64/\(m.all λp=>!p.1.isEmpty)=true then some (.lst ((bN m).map λp=>.tup (p.1.map .int)))else none
 | _=>none
theorem qJ:∀ns:List Int,RepL A H (ns.map .int) (ns.map V.int)
 | []=>.nil
 | n::ns=>.cons (.int n) (qJ ns)
theorem yN(hc:X.calm=true):uF X (.builtin "sorted") vF:=by
 intro pins s σ H xs F Q I r h;obtain⟨A,ds,d,lv,rl,e,q⟩:=h;unfold vF at e;split at e
 case h_2=>cases e
 rename_i l;obtain⟨m,e1,e⟩:=bind_some e;split at e
 case isFalse=>cases e
 rename_i hcnd;cases e;obtain⟨v,rfl,h1⟩:=rl.one;obtain⟨a,ys,rfl,h2,e3,r3⟩:=h1.dT_inv;have el:=kS e1;subst el;obtain⟨ps,rfl,Y⟩:=pS e3;obtain⟨_,_,N,_⟩:=My.vP I h2;have W:ps.length=m.length:=by have:=congrArg zay Y;simpa using this
 refine My.uU hc pins s σ H _ F Q I r ⟨a,ps,rfl,h2,by lia,λp hp z=>?_,λla F G H2 sm n0 h3 pr pm so=>?_⟩
 ·have:p.1∈m.map (·.1):=by rw[<- Y];exact List.mem_map.mpr ⟨p,hp,rfl⟩
  obtain⟨p',J,ep⟩:=List.mem_map.mp this;have:=List.all_eq_true.mp hcnd.2 p' J;rw[ep,z]at this;cases this
 ·have sb:=nD (A:=A) (H:=H) N (rJ e3 r3) so pm
  have U:∀ {ts:List (List Int×D)} {G:List (List Int×V)} {F:List V},YQ (λ(p:List Int×D) (q:List Int×V)=>p.1=q.1/\Rep A H p.2 q.2) ts G->YQ (My.WG H2) F G->RepL (λb=>A b\/b=la) H2 (ts.map λp=>.tup (p.1.map .int)) F:=by
   intro ts G F h;induction h generalizing F with
   | nil=>intro h;cases h;exact .nil
   | cons h t ih=>
    intro h';cases h' with
    | cons h' t'=>
     obtain⟨b,rfl,hb⟩:=h';exact .cons (.tup hb (by rw[h.1];exact qJ _)) (ih t')
  exact q la H2 (Ext.same sm) n0 (λz=>lv la z n0) (.lst h3 (U sb pr))
theorem NU{o:Expr}{name:Str}{id:String}{r:V->List V->Hp->VK->Prop}{to:TE}{apos cpos:Pos}(J:Slot "dict" name id)(N:zao (.builtin id)=pure (.type "method_descriptor"))(hm:MtR X id r)(ho:PE X o to)
  (G:zbe o name X.env (eval o X.env)=eval o X.env:=by rfl) (q:(apos.endLine == cpos.line)=true:=by rfl):PE X (.Call (.Attribute o name apos) [] [] cpos) (λσ H Q=>to σ H λx H1=>∃a,x=.ref a/\RG H1 a/\r x [] H1 Q):=by
 intro pins s σ H Q I h;refine wpAny_Call_method0_late G q (bX (ho pins s σ H _ I h) λv Y ⟨x,H1,W,r1,a,ex,U,q1⟩=>?_);subst ex;cases r1;obtain⟨h1,h2,_⟩:=IG W U;exact⟨"dict",id,PySem.F.plainAttrs_dict,J,N,h1,h2,zc7 rfl (PySem.evalArgs_none (hm pins Y σ H1 (.ref a) [] (.ref a) [] Q W rfl .nil q1))⟩
def uJ(g:D->Option D)(f:Ev):Ev:=λρ=>(f ρ).bind g
def pY:D->Option D
 | .dT l=>(intKeys l).bind λm=>if m.length<64 then some (.lst ((bN m).map λp=>.tup [.tup (p.1.map .int),p.2]))else none
 | _=>none
theorem zB(hc:X.calm=true)(hu:X.A.units+64<cLine)(hg:Gl X "sorted")(hm:X.mg "sorted" = none)(ho:PB X O o f)
  (hp:∀ {to:TE},PE X o to->PE X (.Call (.Attribute o "items" apos) [] [] cpos) (λσ H Q=>to σ H λx H1=>∃a,x=.ref a/\RG H1 a/\My.HJ x [] H1 Q))
  (he:XI [.Call (.Attribute o "items" apos) [] [] cpos] X.env=(false,eval (.Call (.Attribute o "items" apos) [] [] cpos) X.env)::XI [] X.env:=by rfl) (Y:(X0 pos (XI [] X.env)).any (·.1)=false:=by rfl) :
  PF X O (.Call (.Name "sorted" p) [.Call (.Attribute o "items" apos) [] [] cpos] [] pos) (uJ pY f):=by
 have N:CallR X (.builtin "sorted") (λxs H Q=>∃A r a ys m,xs=[.ref r]/\Live A H/\H r=some (.ext λh=>h.IsItemsView r a)/\Rd H a (.dT ys)/\ys.map (·.1)=(m.map NL).map (·.1)/\RepL A H ((m.map NL).map (·.2)) (ys.map (·.2))/\m.length<64/\∀a H',Ext A H H'->H a=none->¬ A a->Own (λb=>A b\/b=a) H' (.lst ((bN m).map λp=>.tup [.tup (p.1.map .int),p.2])) a->Q (.ref a) H'):=by
  intro pins s σ H xs F Q I r h;obtain⟨A,r',a,ys,m,rfl,lv,G,h2,W,r3,J,q⟩:=h;obtain⟨ps,rfl,e4⟩:=pS W;obtain⟨_,_,ad,_⟩:=My.vP I h2;have ai:ps.length=m.length:=by have:=congrArg zay e4;simpa using this
  refine My.uM hc hu pins s σ H _ F Q I r ⟨r',a,ps,rfl,G,h2,by lia,λla F U H2 sm n0 h3 pr pm so=>?_⟩;have sb:=nD (A:=A) (H:=H) ad (rJ W r3) so pm;have up:∀ {d:D} {v:V},Rep A H d v->Rep (λb=>A b\/b=la) H2 d v:=λr=>by
   have r1:Rep (λb=>A b\/b=la) H _ _:=r.av λb hb=>hb.imp id λz=>by rw[z];exact n0
   exact r1.ext (Ext.same sm)
  have ae:∀ {ts:List (List Int×D)} {U:List (List Int×V)} {F:List V},YQ (λ(p:List Int×D) (q:List Int×V)=>p.1=q.1/\Rep A H p.2 q.2) ts U->YQ (My.WD H2) F U->RepL (λb=>A b\/b=la) H2 (ts.map λp=>.tup [.tup (p.1.map .int),p.2]) F:=by
   intro ts U F h;induction h generalizing F with
   | nil=>intro h;cases h;exact .nil
   | cons h t ih=>
    intro h';cases h' with
    | cons h' t'=>
     obtain⟨a,b,rfl,ha,hb⟩:=h';exact .cons (.tup ha (.cons (.tup hb (by rw[h.1];exact qJ _)) (.cons (up h.2) .nil))) (ih t')
  exact q la H2 (Ext.same sm) n0 (λz=>lv la z n0) (.lst h3 (ae sb pr))
 refine PE.mono (gU N hg hm My.boot_sorted (bB (hp ho) dX he) (by decide) (by decide) he Y) λσ H Q ⟨H0,A0,A,E,ρ,d,st,e,q⟩=>?_
 obtain⟨x,ex,e⟩:=bind_some e;cases x with
 | dT l=>
  obtain⟨m,e1,e⟩:=bind_some e;split at e
  case isFalse=>cases e
  rename_i J;cases e;have el:=kS e1;subst el;refine⟨H0,A0,A,E,ρ,_,st,ex,λv H1 x1 r1=>?_⟩;obtain⟨a,ys,rfl,h2,W,r3⟩:=r1.dT_inv;refine⟨a,rfl,.inr ⟨ys,h2⟩,a,ys,rfl,rfl,h2,λr G=>⟨A,r,a,ys,m,rfl,Live.ext (st.mono x1).live (Ext.new G),aN,jA (λz=>?_) h2,W,r3.ext (Ext.new G),J,λa' H' x' n na o=>?_⟩⟩
  ·subst z;rcases h2 with h2|⟨_,h2⟩ <;> (rw[G]at h2;cases h2)
  ·have x2:=(x1.trans (Ext.new G)).trans x'
   exact q a' H' x2 ((x1.trans (Ext.new G)).free n) na o
 | _=>cases e
end
def iM:D->Option Int->Option Int->Option D
 | .tup l,lo,hi=>some (.tup (cutD l lo hi))
 | .lst l,lo,hi=>some (.lst (cutD l lo hi))
 | _,_,_=>none
theorem TR:SlR X (rS iM):=SlR.mono (SlR.or V5 (SlR.mono Q4 λx lo hi H Q (h:rS EA x lo hi H Q)=>by
  obtain⟨A,dx,d,G,F,e,q⟩:=h;exact⟨A,dx,d,G,F,e,λa H' x n N o=>q _ H' x ((o.av (A':=A) λb J=>.inl (.inl J)).rep N)⟩)) λx lo hi H Q ⟨A,dx,d,G,F,e,q⟩=>by
 cases dx with
 | tup l=>exact .inl ⟨A,_,d,G,F,e,q⟩
 | lst l=>exact .inr ⟨A,_,d,G,F,e,q⟩
 | _=>cases e
section
variable {ρ:cL}{f g:Ev}{d x y:D}{i j:Int}{k:Nat}
@[simp] theorem q_seq{f g:Sv}:bE f g ρ=(f ρ).bind λo=>match o with | .nx ρ'=>g ρ'|o=>some o:=rfl
@[simp] theorem q_set:cF k f ρ=(f ρ).map λd=>.nx (ρ.set k (some d)):=rfl
@[simp] theorem q_if{c:Bv}{f g:Sv}:eR c f g ρ=(c ρ).bind λb=>if b=true then f ρ else g ρ:=rfl
@[simp] theorem q_rt:CA f ρ=(f ρ).map .rt:=rfl
@[simp] theorem q_nx:gF ρ=some (.nx ρ):=rfl
@[simp] theorem q_bad:eI ρ=none:=rfl
@[simp] theorem q_asg{g:Gv}:MY f g ρ=(f ρ).bind λd=>(g d ρ).map .nx:=rfl
@[simp] theorem q_for{f:Lv}{g:Gv}{b:Sv}:nU f g b ρ=(f ρ).bind λitems=>gE g b items ρ:=rfl
@[simp] theorem q_drop:l6 f ρ=(f ρ).map λ_=>.nx ρ:=rfl
@[simp] theorem q_app:mR k f ρ=(aA k ρ).bind λx=>match x with
 | .lst l=>(f ρ).bind λd=>if aW l.length then some (.nx (ρ.set k (some (.lst (l++[d])))))else none
 | _=>none:=rfl
@[simp] theorem q_put:jH k f g ρ=(g ρ).bind λe=>(aA k ρ).bind λx=>(f ρ).bind λq=>(k6 x q e).map λd=>.nx (ρ.set k (some d)):=rfl
@[simp] theorem q_var:aA k ρ=(ρ[k]?).join:=rfl
@[simp] theorem q_c:eC d ρ=some d:=rfl
@[simp] theorem q_op:aQ o f g ρ=(f ρ).bind λx=>(g ρ).bind λy=>o x y:=rfl
@[simp] theorem q_call:aI F l ρ=(l ρ).bind F:=rfl
@[simp] theorem q_lnil:aJ ρ=some []:=rfl
@[simp] theorem q_lcons:aB f l ρ=(f ρ).bind λx=>(l ρ).bind λxs=>some (x::xs):=rfl
@[simp] theorem q_tup:c8 l ρ=(l ρ).map .tup:=rfl
@[simp] theorem q_lst:mU l ρ=(l ρ).map .lst:=rfl
@[simp] theorem q_bind:uJ o f ρ=(f ρ).bind o:=rfl
@[simp] theorem q_bof:bZ f ρ=(f ρ).bind AB:=rfl
@[simp] theorem q_asB:AB (.bl b)=some b:=rfl
@[simp] theorem q_asI:RB (.int i)=some i:=rfl
@[simp] theorem q_bnot:dG c ρ=(c ρ).map (!·):=rfl
@[simp] theorem q_band:sJ a b ρ=(a ρ).bind λx=>if x=true then b ρ else some false:=rfl
@[simp] theorem q_bor:EH a b ρ=(a ρ).bind λx=>if x=true then some true else b ρ:=rfl
@[simp] theorem q_and:Q7 f g ρ=(f ρ).bind λx=>(AB x).bind λb=>if b=true then g ρ else some (.bl false):=rfl
@[simp] theorem q_not:Q5 f ρ=(f ρ).bind λx=>(AB x).map λb=>.bl (!b):=rfl
@[simp] theorem q_neg:D6 f ρ=(f ρ).bind λd=>(RB d).map λi=>.int (-i):=rfl
@[simp] theorem q_isi:z8 n f ρ=(f ρ).map λd=>.bl (mT n d):=rfl
@[simp] theorem q_get2:l8 a b c ρ=(a ρ).bind λd=>(b ρ).bind λk=>(c ρ).bind λe=>(eQ d k).map λo=>o.getD e:=rfl
@[simp] theorem q_sl:wB o f a b ρ=(f ρ).bind λx=>(a ρ).bind λlo=>(b ρ).bind λhi=>o x lo hi:=rfl
@[simp] theorem q_oN:fP ρ=some none:=rfl
@[simp] theorem q_oS:eN f ρ=(f ρ).bind λd=>(RB d).map some:=rfl
@[simp] theorem q_lR:lR o l ρ=(l ρ).bind o:=rfl
@[simp] theorem q_lSeq:IX f ρ=(f ρ).bind λd=>match d with
 | .lst l=>some l
 | .tup l=>some l
 | .dT l=>some (l.map λp=>.tup (p.1.map EC))
 | _=>none:=rfl
@[simp] theorem q_comp{ms:List (Option Nat)}{it:Lv}{g:Gv}{c:Bv}:gY ms it g c f ρ=(it ρ).bind λitems=>if aW items.length then(cE g c f items (oJ ms ρ)).map .lst else none:=rfl
@[simp] theorem q_yes:z5 ρ=some true:=rfl
@[simp] theorem q_name:aH k d ρ=some (ρ.set k (some d)):=rfl
@[simp] theorem q_gnil:eP [] ρ=some ρ:=rfl
@[simp] theorem q_gcons{g:Gv}{h:NP}{ds:List D}:aR g h (d::ds) ρ=(g d ρ).bind λρ'=>h ds ρ':=rfl
@[simp] theorem q_gtup:dF n h (.tup l) ρ=if l.length=n then h l ρ else none:=rfl
@[simp] theorem q_sub:EF (.int i) (.int j)=some (.int (i-j)):=rfl
@[simp] theorem q_addI:uH (.int i) (.int j)=some (.int (i+j)):=rfl
@[simp] theorem q_ltI:k7 (.int i) (.int j)=some (.bl (decide (i<j))):=rfl
@[simp] theorem q_gtI:jW (.int i) (.int j)=some (.bl (decide (j<i))):=rfl
@[simp] theorem q_eqI:mV (.int i) (.int j)=some (.bl (decide (i=j))):=by
 unfold mV EN;rw[if_pos (.inl rfl)];simp
@[simp] theorem q_neI:yK (.int i) (.int j)=some (.bl (!decide (i=j))):=by
 unfold yK EN;rw[if_pos (.inl rfl)];simp
@[simp] theorem q_eqB:mV (.bl a) (.bl b)=some (.bl (decide (a=b))):=by
 unfold mV EN;rw[if_pos (.inl rfl)];simp
@[simp] theorem q_neB:yK (.bl a) (.bl b)=some (.bl (!decide (a=b))):=by
 unfold yK EN;rw[if_pos (.inl rfl)];simp
theorem aO(h:0<j):cJ (.int i) (.int j)=some (.int (i%j)):=if_pos h
theorem a7(h:0<j)(h2:j<1073741824):eY (.int i) (.int j)=some (.int (i/j)):=if_pos ⟨h,h2⟩
theorem fR(h:0<=j)(h2:j<=1000000)(q:i.natAbs<2^64):iL (.int i) (.int j)=some (.int (i^j.toNat)):=if_pos ⟨h,h2,q⟩
@[simp] theorem q_lenL:dY [.lst l]=some (.int l.length):=rfl
@[simp] theorem q_lenT:dY [.tup l]=some (.int l.length):=rfl
@[simp] theorem q_min:IP [.int i,.int j]=some (.int (if j<i then j else i)):=rfl
@[simp] theorem q_max:B9 [.int i,.int j]=some (.int (if j>i then j else i)):=rfl
@[simp] theorem q_tuL:cT [.lst l]=some (.tup l):=rfl
@[simp] theorem q_tuT:cT [.tup l]=some (.tup l):=rfl
@[simp] theorem q_liL:fO [.lst l]=some (.lst l):=rfl
@[simp] theorem q_liT:fO [.tup l]=some (.lst l):=rfl
@[simp] theorem q_slT{l:List D}{lo hi:Option Int}:iM (.tup l) lo hi=some (.tup (cutD l lo hi)):=rfl
@[simp] theorem q_slL{l:List D}{lo hi:Option Int}:iM (.lst l) lo hi=some (.lst (cutD l lo hi)):=rfl
@[simp] theorem q_itL:a6 (.lst l) (.int i)=fS l i:=rfl
@[simp] theorem q_itT:a6 (.tup l) (.int i)=fS l i:=rfl
@[simp] theorem q_itD:a6 (.dT l) d=(eQ (.dT l) d).join:=rfl
@[simp] theorem isi_int_int:mT "int" (.int i)=true:=rfl
@[simp] theorem isi_bool_int:mT "bool" (.int i)=false:=rfl
@[simp] theorem isi_tuple_tup:mT "tuple" (.tup l)=true:=rfl
@[simp] theorem isi_list_lst:mT "list" (.lst l)=true:=rfl
end
def turn(g:Gv)(b:Sv)(x:D):Sv:=λρ=>(g x ρ).bind b
theorem jB(I:Nat->cL->Prop)(h0:I 0 ρ)(hs:∀i x ρ,items[i]?=some x->I i ρ->∃ρ',turn g b x ρ=some (.nx ρ')/\I (i+1) ρ'):∃ρ',gE g b items ρ=some (.nx ρ')/\I items.length ρ':=by
 have F:∀(m:List D) (k:Nat) (ρ:cL),items.drop k=m->k<=items.length->I k ρ->∃ρ',gE g b m ρ=some (.nx ρ')/\I items.length ρ':=by
  intro m;induction m with
  | nil=>
   intro k ρ e W h;have:items.length<=k:=by rw[List.drop_eq_nil_iff]at e;exact e
   have:k=items.length:=by lia
   subst this;exact⟨ρ,rfl,h⟩
  | cons x m ih=>
   intro k ρ e W h;have q:k<items.length:=by
    rcases Nat.lt_or_ge k items.length with z|z
    ·exact z
    ·rw[List.drop_eq_nil_iff.mpr z]at e;cases e
   rw[zbS q]at e;injection e with e1 e2
   obtain⟨ρ',h1,h2⟩:=hs k x ρ (by rw[<- e1];simp[q]) h;obtain⟨ρ2,G,J⟩:=ih (k+1) ρ' e2 q h2;refine⟨ρ2,?_,J⟩;unfold turn at h1;obtain⟨ρ1,U,N⟩:=bind_some h1;unfold gE;rw[U];show(b ρ1).bind _=_;rw[N];exact G
 exact F items 0 ρ rfl (YY _) h0
theorem aM(h:f (aD n ds)=some (.rt d)):bT n f ds=some d:=by
 unfold bT;rw[h];rfl
theorem P0(h:f (aD n ds)=some (.nx ρ)):bT n f ds=some .non:=by
 unfold bT;rw[h];rfl
theorem aG(h:f ρ=some (.nx ρ')):bE f g ρ=g ρ':=by
 unfold bE;rw[h];rfl
theorem zV(h:f ρ=some (.rt d)):bE f g ρ=some (.rt d):=by
 unfold bE;rw[h];rfl
theorem aP(h:f ρ=some d):cF k f ρ=some (.nx (ρ.set k (some d))):=by
 unfold cF;rw[h];rfl
theorem VZ(h:f ρ=some d):CA f ρ=some (.rt d):=by
 unfold CA;rw[h];rfl
theorem iD{f:Lv}{g:Gv}{b rest:Sv}{ρ:cL}{items:List D}{q:Option Out}(F:f ρ=some items)(I:Nat->cL->Prop)(h0:I 0 ρ)(hs:∀i x ρ,items[i]?=some x->I i ρ->∃ρ',turn g b x ρ=some (.nx ρ')/\I (i+1) ρ')(k:∀ρ',I items.length ρ'->rest ρ'=q):bE (nU f g b) rest ρ=q:=by
 obtain⟨ρ',e,h⟩:=jB (g:=g) (b:=b) I h0 hs;rw[aG (by rw[q_for,F];exact e)];exact k ρ' h
open My (look put aT kZ jF)
def kD(t:My.Tm):List Key×D:=(t.1.map X7,.int t.2)
noncomputable def tupI(k:List Int):D:=.tup (k.map .int)
def b6(t:My.Tm):D:=.tup [tupI t.1,.int t.2]
theorem tW:∀k:List Int,IZ (k.map .int)=some (k.map X7)
 | []=>rfl
 | i::k=>by rw[XW,IZ,tW k];rfl
@[simp] theorem asT_tupI(k:List Int):EM (tupI k)=some (k.map X7):=tW k
theorem OE(cs:List My.Tm)(k:List Int):gB (cs.map kD) (k.map X7:List Key)=(look cs k).map D.int:=by
 induction cs with
 | nil=>rfl
 | cons t cs ih=>
  rw[XW];by_cases e:t.1=k
  ·have:(kD t).1=k.map X7:=by show t.1.map X7=_;rw[e]
   simp[gB,look,ZC,this,e,kD]
  ·have:¬ (kD t).1=k.map X7:=by show ¬ t.1.map X7=_;rw[My.lZ];exact e
   have a:gB (kD t::cs.map kD) (k.map X7)=gB (cs.map kD) (k.map X7):=by simp[gB,ZC,this]
   rw[a,ih];simp[look,ZC,e]
theorem P6(cs:List My.Tm)(k:List Int)(c:Int):putD (cs.map kD) (k.map X7:List Key) (.int c)=(put cs k c).map kD:=by
 unfold putD put;have e:((cs.map kD).any λF=>decide (F.1=(k.map X7:List Key)))=cs.any λt=>decide (t.1=k):=by
  rw[List.any_map];congr 1;funext t;exact decide_eq_decide.mpr (My.lZ (a:=t.1) (b:=k))
 rw[e];by_cases h:(cs.any λt=>decide (t.1=k))=true
 ·rw[if_pos h,if_pos h,ZH,ZH]
  congr 1;funext t;show(if t.1.map X7=(k.map X7:List Key)then((t.1.map X7:List Key),D.int c)else kD t)=kD (if t.1=k then(t.1,c)else t);by_cases z:t.1=k
  ·rw[if_pos z,if_pos (My.lZ.mpr z)];rfl
  ·rw[if_neg z,if_neg (λq=>z (My.lZ.mp q))]
 ·rw[if_neg h,if_neg h,zbr]
  rfl
@[simp] theorem look_kD(cs:List My.Tm)(k:List Int):eQ (.dT (cs.map kD)) (tupI k)=some ((look cs k).map D.int):=by
 show(EM (tupI k)).map _=_;rw[asT_tupI,XH,OE]
theorem vN(k:List Int)(c:Int)(h:cs.length<=1000000):k6 (.dT (cs.map kD)) (tupI k) (.int c)=some (.dT ((put cs k c).map kD)):=by
 show(EM (tupI k)).bind _=_;rw[asT_tupI,XG,if_pos (by rw[aW,XR];exact decide_eq_true h),P6]
theorem oQ(cs:List My.Tm):intKeys (cs.map kD)=some (cs.map λt=>(t.1,D.int t.2)):=by
 have:=m8 (cs.map λt=>(t.1,D.int t.2));rw[ZH]at this;exact this
theorem yT(h:cs.length<64):pY (.dT (cs.map kD))=some (.lst ((bN cs).map b6)):=by
 show(intKeys (cs.map kD)).bind _=_;rw[oQ,XG,if_pos (by rw[XR];exact h)];have:(bN (cs.map λt=>(t.1,D.int t.2)))=(bN cs).map λt=>(t.1,D.int t.2):=(eZ D.int cs).symm
 rw[this,ZH];rfl
theorem zG(h:cs.length<64)(h2:∀t∈cs,t.1≠[]):vF [.dT (cs.map kD)]=some (.lst ((bN cs).map λt=>tupI t.1)):=by
 show(intKeys (cs.map kD)).bind _=_;rw[oQ,XG,if_pos]
 ·have:(bN (cs.map λt=>(t.1,D.int t.2)))=(bN cs).map λt=>(t.1,D.int t.2):=(eZ D.int cs).symm
  rw[this,ZH];rfl
 ·refine⟨by rw[XR];exact h,?_⟩
  rw[List.all_map];refine List.all_eq_true.mpr λt q=>?_
  have:=h2 t q;cases e:t.1 with
  | nil=>exact absurd e this
  | cons _ _=>simp[e]
theorem QX(F:0<c)(h:i<My.rsz a b c):a+(i:Int)*c<b:=by
 unfold My.rsz zat at h;rw[if_pos (by lia)]at h;split at h
 ·have h1:(i:Int)<=(b-a-1)/c:=by lia
  have h2:(i:Int)*c<=(b-a-1)/c*c:=Int.mul_le_mul_of_nonneg_right h1 (by lia);have q:=Int.ediv_mul_le (b-a-1) (show c≠0 by lia)
  lia
 ·simp at h
theorem xY{ns:List Int}{k:Int}(h0:0<=k)(h:k<(ns.length:Int)):∃c,fS (ns.map D.int) k=some (.int c)/\ns[k.toNat]?=some c:=by
 obtain⟨j,rfl⟩:∃j:Nat,k=(j:Int):=⟨k.toNat,by lia⟩;have q:j<ns.length:=by lia
 exact⟨ns[j],lV (by simp[q]),by simp[q]⟩
noncomputable def uB:D->Option (List D)
 | .lst l=>some l
 | .tup l=>some l
 | _=>none
theorem J9{A:Av}{H:Hp}{K:XF}{d:D}{l:List D}{v:V}(h:uB d=some l)(r:Rep A H d v):∃t a xs,v=.ref a/\My.M4 K t H a xs/\RepL A H l xs/\∀A' H',Rep A' H' d v->∃ys,My.M4 K t H' a ys/\RepL A' H' l ys:=by
 cases d with
 | lst m=>
  cases h;obtain⟨a,xs,rfl,h1,G⟩:=RepB.lst_inv (.of r);refine⟨false,a,xs,rfl,.inl h1,G,λA' H' q=>?_⟩;obtain⟨J,ys,e,h2,F⟩:=RepB.lst_inv (.of q);cases e;exact⟨ys,.inl h2,F⟩
 | tup m=>
  cases h;obtain⟨a,xs,rfl,h1,G⟩:=RepB.tup_inv (.of r);refine⟨true,a,xs,rfl,.inl (.inl h1),G,λA' H' q=>?_⟩;obtain⟨J,ys,e,h2,F⟩:=RepB.tup_inv (.of q);cases e;exact⟨ys,.inl (.inl h2),F⟩
 | _=>cases h
@[simp] theorem q_seqL:uB (.lst l)=some l:=rfl
@[simp] theorem q_seqT:uB (.tup l)=some l:=rfl
end P
namespace P
end P
namespace P
open PySem PySem.Spec PyProof.Rows L2
@[simp] theorem q_chain:bV g g' fa fb fc ρ=(fa ρ).bind λx=>(fb ρ).bind λy=>(g x y).bind λz=>(AB z).bind λb=>if b=true then(fc ρ).bind λw=>g' y w else some (.bl false):=rfl
noncomputable def pick{α:Type}(l:List α)(lo hi st:Option Int):List α:=(sliceRange (zan lo hi st l.length).1 (zan lo hi st l.length).2.1 (zan lo hi st l.length).2.2).filterMap (l[·]?)
section
variable {X:Cx}{O:List Nat}
end
end P
namespace My
open PySem PySem.Spec PyProof.Rows L2 PySem.SeqAt
section
variable {X:Cx}
theorem Inv.gone(I:Inv X pins σ H s)(f:jU X pins H C)(hs:YN C s.heap h'):Inv X pins σ H {s with heap:=h'}:=by
 obtain⟨f0,Y,f2,J,U,N⟩:=f;refine I.call' (s':={s with heap:=h'}) (ch:=[C]) rfl ⟨λb o e n G F=>?_,λb o e n G F=>?_,λ_ _ _ n _=>n,λb o e F=>?_,λ_ _ q=>q,λ_ _ _ q=>q,λ_ ps q=>⟨#[],by simpa using q⟩⟩ ?_ I.bare λb G=>?_
 ·exact(hs.2 b (λz=>F (z ▸ List.mem_singleton.mpr rfl))).trans e
 ·exact⟨o.slots,(hs.2 b (λz=>F (z ▸ List.mem_singleton.mpr rfl))).trans e⟩
 ·exact⟨o,(hs.2 b (λz=>F (z ▸ List.mem_singleton.mpr rfl))).trans e⟩
 ·intro b ob e
  refine(I.hok b ob e).stay (λc w' W q=>(hs.2 c ?_).trans q) (λ_ q=>q) λ_ _ q=>q
  rintro rfl;rcases W with z|z
  ·subst z;rw[f0]at e;cases e
  ·rw[f0]at z;cases z
 ·rw[List.mem_singleton.mp G]
  exact⟨J,Y,U,N⟩
theorem MH(hN:X.N.Nodup)(W:X.N[i]?=some x)(hx:Loc X.env.scope x)
  (hc:X.calm=true) (cc:Clo X N scope cl) (hi:PI X tg iter wi) (hg:∀C s H fp,PG (bA X N scope cl C s H fp) tg g) (ht:∀C s H fp,EI (bA X N scope cl C s H fp) ifs tt) (he:∀C s H fp,PE (bA X N scope cl C s H fp) elt te)
  (hs:∀x,zaf iter X.env x=pure x:=by intro _;rfl) (ad:YL (.ListComp elt [⟨tg,iter,ifs,0⟩] scope pos) (some (.Name x pos')) spos.line X.env=pure true:=by rfl)
  (hf:X.fn x=true\/X.env.scope.names.lookup x=some .local:=by first|exact .inl rfl|exact .inr rfl) :
  PS X (.Assign [.Name x pos'] (.ListComp elt [⟨tg,iter,ifs,0⟩] scope pos) spos) (I0 (IS wi g tt te (Start X N scope)) (rH i)):=by
 intro pins s σ H D I h;obtain⟨a3,sS,hw⟩:=h;rw[exec_Assign_Name_used _ _ _ _ ad];refine XD (zaG (XD ?_));show wpAny _ X.A (do let _ <- comprehension (.ListComp elt [⟨tg,iter,ifs,0⟩] scope pos) scope X.env _ (newList []) false (eval iter X.env) (some (ZO (.Name x pos') X.env))) _ _ s;refine XD (X3 (wpAny_comprehension_free (use:=some (ZO (.Name x pos') X.env)) (Q:=λ_ s'=>SP X pins D .next s') rfl hs cc.clos cc.kind cc.names
  (bX (hi pins s σ H _ I hw) λv s1 h1=>bX h1 λay s2 h2=>?_)) (λ_ s' hq=>XJ (XJ hq)) λ_ _ e=>e)
 obtain⟨it,fp,tn,J,H2,e,I2,T,Y,f2,q2⟩:=h2;subst e;refine t4 (wi:=wi) (Q:=λv H1=>rH i v σ H1 D.nx) (RR:=λG C=>compPost (model X.prog X.w) X.A X.xe (some (ZO (.Name x pos') X.env)) (λ_ s'=>SP X pins D .next s') G C) hc cc hg ht he I2 T Y f2 sS q2 ?_
 intro s3 s5 H3 H5 ar D1 I3 f3 U q;obtain⟨m,hn,_⟩:=id U.loc;have I6:Inv X pins σ H5 s5:=comp_back I3 f3 U (Heap.SameBut.refl _ _);have fc:jU X pins H5 s3.heap.objs.size:=I3.fpOk (XU _) U.free;show wpAny _ X.A (ZO (.Name x pos') X.env (.ref D1)) _ _ s5;refine wpAny_assign_Name (tG (v:=.ref D1) I6 hN W hx rfl (λs7 I7 ⟨a,ac,F⟩=>?_) hf);have ne:s3.heap.objs.size≠a:=λz=>by
  rcases F with F|F
  ·exact fc.2.1 (z.trans F)
  ·exact fc.2.2.2.2.1 x a F z.symm
 exact⟨m,Heap.Ns.sameBut hn ac ne,λh' aa=>⟨_,H5,Inv.gone I7 fc aa,q⟩⟩
end
end My
namespace P
open PySem PySem.Spec PyProof.Rows L2 PySem.SeqAt
section
variable {X:Cx}{O O':List Nat}{L:Lp}
theorem yO(U:PS X (.Assign [.Name x pos'] e pos) (I0 (tD Rep O f) (rH i)))(h:Sub O' (O.filter (· != i))=true):PSD X L O (.Assign [.Name x pos'] e pos) (cF i f) O':=
 PS.mono U <| by
  rintro T σ H ⟨H0,A0,A,E,ρ,J,st,e,p⟩;obtain⟨d,N,rfl⟩:=map_some e;refine⟨H0,A0,A,E,ρ,d,st,N,λv H' x r=>?_⟩;have G:=(st.mono x).more r;obtain⟨A',F⟩:=G.shut (O':=O') λj W=>(Sub.er h W).1
  exact p A' _ H' ((F.put (F.ext _ (X8 ..)) λz=>(Sub.er h z).2 rfl).less λq Y=>YH _ Y)
theorem SV:tD Rep O f σ H Q->tF O f σ H Q:=λ⟨H0,A0,A,E,ρ,d,st,e,q⟩=>
 ⟨H0,A0,A,E,ρ,d,st,e,λa H' x n G o=>q _ H' x ((o.av (A':=A) λb F=>.inl (.inl F)).rep G)⟩
theorem GI(U:X.N.Nodup)(q:X.N[i]?=some x)(Y:Loc X.env.scope x)
  (hc:X.calm=true) (cc:My.Clo X N scope cl) (F:eW X scope N ms) (hn:(ms.all λo=>match o with|some i=>!O.contains i|none=>true)=true) (hi:PDI X O tg iter it) (hg:∀C s H fp,yL (My.bA X N scope cl C s H fp) [] tg g)
  (W:∀C s H fp,My.EI (My.bA X N scope cl C s H fp) ifs (tDT [] c)) (he:∀C s H fp,PD (My.bA X N scope cl C s H fp) [] elt f) (h:Sub O' (O.filter (· != i))=true:=by rfl) (hs:∀x,zaf iter X.env x=pure x:=by intro _;rfl)
  (G:YL (.ListComp elt [⟨tg,iter,ifs,0⟩] scope pos) (some (.Name x pos')) spos.line X.env=pure true:=by rfl) (J:X.fn x=true\/X.env.scope.names.lookup x=some .local:=by first|exact .inl rfl|exact .inr rfl) :
  PSD X L O (.Assign [.Name x pos'] (.ListComp elt [⟨tg,iter,ifs,0⟩] scope pos) spos) (cF i (gY ms it g c f)) O':=
 yO (PS.mono (My.MH U q Y hc cc hi hg W he hs G J) λT σ H w=>w8 F hn _ _ _ (SV w)) h
end
end P
namespace My
open PySem PySem.Spec PyProof.Rows L2 PySem.SeqAt
def T5(K:XF)(n:Nat)(t:NK):TG:=λv σ H Q=>∃a xs,v=.ref a/\(SqT K H a xs\/SqL K H a xs)/\xs.length=n/\t xs σ H Q
theorem N5(U:X.calm=true)(h:PGs X es t)
  (Y:(ZA es X.env).length=n:=by rfl) (F:(ZA es X.env).findIdx? (·.1)=none:=by rfl):PG X (.Tuple es k pos) (T5 X.K n t):=by
 intro pins s σ H v u Q I r hw;obtain⟨a,xs,e1,q,J,hw⟩:=hw;subst e1;rcases q with q|q
 ·exact IH U h Y F pins s σ H _ u Q I r ⟨a,xs,rfl,q,J,hw⟩
 ·cases r
  obtain⟨G,N,ht,hz⟩:=I.list q;have hsz:(ZA es X.env).length=G.toArray.size:=by simp[Y,<- J,N.length]
  rw[assign_Tuple];refine XD (zaG ?_);unfold unpack;rw[hsz,F];refine XD (Y1 (PySem.W.kun_itemsOf (I.ok.hd U) (My.PlainL.isList ht) λh' hx=>?_));have I1:Inv X pins σ H {s with heap:=h'}:=I.kept (t':=s.toks) λb o e=>hx b o (YA (XO e)) e
  exact h pins _ σ H xs _ Q I1 (by simpa using N) hw
end My
namespace P
open PySem PySem.Spec PyProof.Rows L2 PySem.SeqAt
def rB(n:Nat)(k:NP):Gv:=λd ρ=>match d with
 | .tup l=>if l.length=n then k l ρ else none
 | .lst l=>if l.length=n then k l ρ else none
 | _=>none
theorem MC(J:PG X tg (My.T5 X.K n (tDGs O k))):yL X O tg (rB n k):=PG.mono J <| by
 rintro v σ H Q ⟨H0,A0,A,E,ρ,d,ρ',st,r,e,q⟩;cases d with
 | tup l=>
  obtain⟨a,xs,rfl,h,G⟩:=RepB.tup_inv (.of r);by_cases F:l.length=n
  ·simp only[rB,if_pos F]at e
   exact⟨a,xs,rfl,.inl (.inl (.inl h)),by rw[G.length];exact F,H0,A0,A,E,ρ,l,ρ',st,G,e,q⟩
  ·simp only[rB,if_neg F]at e;cases e
 | lst l=>
  obtain⟨a,xs,rfl,h,G⟩:=RepB.lst_inv (.of r);by_cases F:l.length=n
  ·simp only[rB,if_pos F]at e
   exact⟨a,xs,rfl,.inr (.inl h),by rw[G.length];exact F,H0,A0,A,E,ρ,l,ρ',st,G,e,q⟩
  ·simp only[rB,if_neg F]at e;cases e
 | _=>cases e
@[simp] theorem q_gseqT:rB n h (.tup l) ρ=if l.length=n then h l ρ else none:=rfl
@[simp] theorem q_gseqL:rB n h (.lst l) ρ=if l.length=n then h l ρ else none:=rfl
end P
namespace P
open PySem PySem.Spec PyProof.Rows L2
theorem QV{f:Lv}{g:Gv}{b rest:Sv}{ρ:cL}{items:List D}{R:D->Prop}(q:f ρ=some items)(I:Nat->cL->Prop)(h0:I 0 ρ)(hs:∀i x ρ,items[i]?=some x->I i ρ->∃ρ',turn g b x ρ=some (.nx ρ')/\I (i+1) ρ')(k:∀ρ',I items.length ρ'->∃d,rest ρ'=some (.rt d)/\R d):∃d,bE (nU f g b) rest ρ=some (.rt d)/\R d:=by
 obtain⟨ρ',e,h⟩:=jB (g:=g) (b:=b) I h0 hs;rw[aG (by rw[q_for,q];exact e)];exact k ρ' h
theorem P3{n:Nat}{ds:List D}{R:D->Prop}(h:∃d,f (aD n ds)=some (.rt d)/\R d):∃d,bT n f ds=some d/\R d:=by
 obtain⟨d,e,r⟩:=h;exact⟨d,aM e,r⟩
end P
namespace My
open PySem PySem.Spec PyProof.Rows L2 PySem.SeqAt
end My
namespace P
open PySem PySem.Spec PyProof.Rows L2 PySem.SeqAt
section
variable {X:Cx}
end
end P
namespace My
open PySem PySem.Spec PyProof.Rows L2 PySem.SeqAt
end My
namespace P
open PySem PySem.Spec PyProof.Rows L2 PySem.SeqAt
end P
namespace My
open PySem PySem.Spec PyProof.Rows L2
section
variable {X:Cx}
theorem E3{ns:List Int}{q:List Value}(r:Vals (ns.map V.int) q){i:Nat}(h:q[i]?=some v):∃t,v=.int ((ns[i]?).getD 0) t:=by
 have F:=r.length;rw[XR]at F;have hi:i<ns.length:=by rw[F];exact(List.getElem?_eq_some_iff.mp h).1
 have e:(ns.map V.int)[i]?=some (.int ns[i]):=by simp[hi]
 obtain⟨u,G,J⟩:=r.get e;rw[h]at G;cases G;obtain⟨t,rfl⟩:=J;exact⟨t,by simp[hi]⟩
theorem MF:OpR X (YT .Add) (λx y H Q=>∃a b ys,x=.ref a/\y=.ref b/\SqT X.K H a []/\SqT X.K H b ys/\Q (.ref b) H):=by
 intro pins s σ H x y v u Q I rx ry h;obtain⟨a,b,ys,rfl,rfl,ha,hb,q⟩:=h;cases rx;cases ry;obtain⟨ab,r1,p1,_⟩:=I.tuple ha;obtain⟨F,r2,p2,_⟩:=I.tuple hb;have e1:ab=[]:=r1.nil_iff.mpr rfl;subst e1;obtain⟨⟨cls,dd,data,sl⟩,ho,hc,n,hd⟩:=p1;obtain⟨⟨N,ae,G,ad⟩,W,Y,n2,af⟩:=p2;have ac:cls=.type "tuple" := hc;have aa:data=.seq #[] n:=hd;have U:N=.type "tuple" := Y;have J:G=.seq F.toArray n2:=af;subst ac aa U J;exact concat_meets ⟨_,ho,rfl⟩ ⟨_,W,rfl⟩ zc2 seq_tuple_add zc3 zc4 (zc5 _ _)
  (tuple_addW0 a b #[] F.toArray n n2 dd ae sl ad rfl) ⟨ho,W,.ref b,H,I,rfl,q⟩
def RZ:R2:=λx y H Q=>∃l k xs,x=.ref l/\y=.int k/\Rd H l (.lst xs)/\-(2^63)<=k/\k<2^63/\xs.length*k.toNat<=XQ /\
 ∀p,H p=none->Q (.ref p) (upd H p (.lst (YE k.toNat xs).flatten))
theorem KW:OpR X (YT .Mult) RZ:=by
 intro pins s σ H x y v u Q I rx ry h;obtain⟨l,k,xs,rfl,rfl,hH,h1,h2,hz,q⟩:=h;cases rx;obtain⟨t,rfl⟩:=ry;obtain⟨z,G,n,r,hl,e⟩:=P.Inv.lstR I hH;have aa:G.toArray.size*k.toNat<=XQ:=by rw[XX,<- hl];exact hz
 have W:¬ G.toArray.size*k.toNat>(2^63-1)/8:=by
  have:(XQ:Nat)<=(2^63-1)/8:=by decide
  lia
 have Y:¬ (!Builtin.List.listFitsIndex k)=true:=by
  rw[fitsIndex_both h1 h2];exact XZ
 have J:¬ zc8 (G.toArray.size*k.toNat)=true:=by
  rw[GC aa];exact XZ
 have N:List.foldl (λx1 x2=>x1++x2) #[] (YE (if G.toArray.isEmpty=true then 0 else k.toNat) G.toArray)=(YE k.toNat G).flatten.toArray:=by
  have f0:∀m:Nat,List.foldl (λx1 x2=>x1++x2) #[] (YE m G.toArray)=(YE m G).flatten.toArray:=λm=>by
   have:=foldl_rep G m [];rw[List.nil_append]at this;exact this
  rw[f0];cases G with
  | nil=>simp
  | cons a r'=>rw[if_neg (by simp)]
 refine wpAny_binaryOp_repeat_ref (T := "list") (U := "int") (by decide) ⟨_,e,rfl⟩ (λs'=>zbF s' k t) noFill_list_mul F.fills_int_mul F.slot_int_rmul repeat_list F.slot_int_index.lookup
  (zbH F.slot_int_rmul (zbF s k t) F.entry_int_rmul (F.args_int_rmul_2 _ _) (int___rmul___int_list k t l G.toArray n)
   ⟨e,rfl,⟨_,e,rfl⟩,zbH F.slot_list_mul ⟨_,e,rfl⟩ F.entry_list_mul (F.args_list_mul_2 _ _) (AutoListH.list___mul___list_int_3 l G.toArray n k t Y W J) ⟨e,?_⟩⟩)
 rw[N];exact⟨.ref _,_,I.lnew (t':=s.toks) (r.rep k.toNat) (by rw[len_rep,Nat.mul_comm];exact hz),rfl,q _ I.fresh⟩
end
end My
namespace P
open PySem PySem.Spec PyProof.Rows L2
theorem aC{q F:Type}(a:q)(f:q->Option F):(some a).bind f=f a:=by rw[XG]
theorem aE{q F:Type}(a:q)(f:q->F):(some a).map f=some (f a):=by rw[XH]
section
variable {X:Cx}{O O':List Nat}{L:Lp}
theorem mZ:∀ns:List Int,iE (ns.map .int)=some ns
 | []=>rfl
 | n::ns=>by rw[XW,iE,mZ ns];rfl
def D8:D->D->Option D
 | .lst l,.int k=>if gX k=true/\aW (l.length*k.toNat)=true then some (.lst (YE k.toNat l).flatten)else none
 | _,_=>none
theorem RepL.rep(r:RepL A H ds vs):∀k:Nat,RepL A H (YE k ds).flatten (YE k vs).flatten
 | 0=>.nil
 | k+1=>by rw[zaA,zaA,zaT,zaT];exact r.append (RepL.rep r k)
theorem qW(W:PB X O a fa)(F:PB X O b fb):PF X O (.BinOp a .Mult b pos) (aQ D8 fa fb):=
 PE.mono (M5 My.KW W F) <| by
  rintro σ H Q ⟨H0,A0,A,E,ρ,d,st,e,q⟩;obtain⟨x,ex,e⟩:=bind_some e;obtain⟨y,ey,e⟩:=bind_some e;refine⟨H0,A0,A,E,ρ,x,st,ex,λv H1 G r1=>⟨H0,A0,A,E,ρ,y,st.mono G,ey,λw H2 J r2=>?_⟩⟩;unfold D8 at e;split at e
  ·rename_i _ l k _
   by_cases hz:gX k=true/\aW (l.length*k.toNat)=true
   ·rw[if_pos hz]at e
    cases e;obtain⟨p,xs,rfl,U,N⟩:=(r1.ext J).lst_inv;cases r2.int_inv;have hk:=qA hz.1;refine⟨p,k,xs,rfl,rfl,U,by lia,by lia,by rw[N.length];exact fM hz.2,λb F=>?_⟩;have Y:H b=none:=(G.trans J).free F;have na:¬ A b:=λz=>(st.mono (G.trans J)).live b z F
    exact q b _ ((G.trans J).trans (Ext.new F)) Y na (.lst aN ((N.rep k.toNat).fresh F))
   ·rw[if_neg hz]at e;cases e
  ·cases e
@[simp] theorem q_rep:D8 (.lst l) (.int k)=if gX k=true/\aW (l.length*k.toNat)=true then some (.lst (YE k.toNat l).flatten)else none:=rfl
def a8(x y:D):Option D:=match x,y with
 | .tup l,.tup m=>if aW (l.length+m.length)then some (.tup (l++m))else none
 | x,y=>uH x y
theorem bL:jK X (YT .Add) a8:=OpR.mono (OpR.or OM My.MF) <| by
 rintro x y H Q ⟨A,dx,W,d,J,F,G,e,q⟩;unfold a8 at e;split at e
 ·rename_i l m
  cases l with
  | nil=>
   by_cases hz:aW (([]:List D).length+m.length)=true
   ·rw[if_pos hz]at e
    cases e;obtain⟨a,xs,rfl,h1,U⟩:=F.tup_inv;obtain⟨b,ys,rfl,h2,N⟩:=G.tup_inv;cases U;exact .inr ⟨a,b,ys,rfl,rfl,.inl (.inl h1),.inl (.inl h2),q _ H (Ext.refl _ _) (.tup h2 N)⟩
   ·rw[if_neg hz]at e;cases e
  | cons a l=>
   refine .inl ⟨A,_,_,d,J,F,G,?_,q⟩;rw[<- e];rfl
 ·exact .inl ⟨A,_,_,d,J,F,G,e,q⟩
@[simp] theorem q_addAI:a8 (.int i) (.int j)=some (.int (i+j)):=rfl
@[simp] theorem q_addAT:a8 (.tup l) (.tup m)=if aW (l.length+m.length)then some (.tup (l++m))else none:=rfl
@[simp] theorem q_addAL:a8 (.lst l) (.lst m)=if aW (l.length+m.length)then some (.lst (l++m))else none:=rfl
@[simp] theorem q_addAS:a8 (.str l) (.str m)=if aW (l.length+m.length)then some (.str (l++m))else none:=rfl
end
theorem K8{P:XM}{w:World}{K:XF}{mg:Str->Option Value}{base:Heap}{x:Str}{st:Stmt}{N ps:List Str}{k:Nat}(J:My.DefAt K mg x st ps)(S:FnScope N ps (aF st)):Fn P w K mg base x (k+1) ps (λ_=>none):=
 My.BodyOk.ok (k:=k) (N:=N) (λW G A outer s H vs Q E Y ⟨U,ds,d,lv,r,e,F,q⟩=>nomatch F) J S (λvs H Q E ⟨U,ds,d,_,_,e,F,_⟩=>nomatch F)
def z0(n:Nat)(b:(List D->Option D)->Sv):Nat->List D->Option D
 | 0=>λ_=>none
 | m+1=>bT n (b (z0 n b m))
end P
namespace My
open PySem PySem.Spec PyProof.Rows L2
open AutoSeq1 (wpAny_loadPart')
theorem DV(l:Addr)(items:Array Value)(n:Nat)(F:Option Addr)(U:Array (Option Value)) :
  Meets (ZL.«enumerate.__new__» ⟨[.type "enumerate",.ref l],[]⟩) (λ_ R s=>s.heap.get? l=some {cls:=.type "tuple",dict:=F,data:=.seq items n,slots:=U} /\
   R (.ok (.ret (.ref (s.heap.push {cls:=.type "tuple_iterator",data:=.fields #[.ref l,.int 0 0]}).objs.size)))
    {s with heap:=(s.heap.push {cls:=.type "tuple_iterator",data:=.fields #[.ref l,.int 0 0]}).push {cls:=.type "enumerate",data:=.fields #[.none,.bool false,.ref s.heap.objs.size,YD 0,.none,.none]} }):=
 .of_wp λprog w A R s h=>by
  obtain⟨N,g,d,tk,os⟩:=s;obtain⟨q,h⟩:=h;have J:=sub_enumerate;have G:Heap.IsTuple (Shared.heap ⟨N,g,d,tk,os⟩) l items:=⟨_,q,rfl,n,rfl⟩
  wp_walk using zaz q
  refine wpAny_stack_any λst=>XJ ?_
  split
  ·rename_i c _ _ _ _ _
   cases(c == zac "enumerate")
   ·wp_walk using zaz q,zbz G
    exact⟨_,rfl,h⟩
   ·wp_walk using zaz q,zbz G
    exact⟨_,rfl,h⟩
  ·wp_walk using zaz q,zbz G
   exact⟨_,rfl,h⟩
section
variable {prog:XM}{w:World}{A:XS}{E:Value->XE->Prop}{s:XE}
theorem CL(hl:SSq t s.heap l xs)
  (h:∀h',zab h' (s.heap.objs.size+1) s.heap.objs.size 0 .none->SIt t h' s.heap.objs.size l 0->(∀b o,s.heap.get? b=some o->h'.get? b=some o)->Q (.ref (s.heap.objs.size+1)) {s with heap:=h'}) :
  wpAny (model prog w) A (call (.type "enumerate") [.ref l]) Q E s:=by
 obtain⟨⟨cls,N,data,sl⟩,Y,hc,n,hd⟩:=hl;have U:cls=.type (WJ t):=hc;have W:data=.seq xs n:=hd;subst U W;have hz:(s.heap.push (WB t l)).objs.size=s.heap.objs.size+1:=zbN ..;have fin:zab ((s.heap.push (WB t l)).push {cls:=.type "enumerate",data:=.fields #[.none,.bool false,.ref s.heap.objs.size,YD 0,.none,.none]}) (s.heap.objs.size+1) s.heap.objs.size 0 .none:=by
  have:=X9 (s.heap.push (WB t l)) (o:={cls:=.type "enumerate",data:=.fields #[.none,.bool false,.ref s.heap.objs.size,YD 0,.none,.none]}) rfl;rw[hz]at this;exact this
 have q:=h _ fin ⟨_,XT _ (X9 _ rfl),rfl,rfl⟩ λb o x=>XT _ (XT _ x)
 cases t with
 | false=>
  refine callType_new F.called_enumerate (by decide) (F.typeCall_enumerate_1 _) (F.newCall_enumerate_1 _) (λG=>F.args_object_init_2 G _) F.entry_enumerate_new (meets_enumerate_newL l xs n N sl) ⟨Y,?_⟩;have J:(s.heap.push {cls:=.type "list_iterator",data:=.fields #[.ref l,.int 0 0]}).objs.size=s.heap.objs.size+1:=hz;show _/\_;rw[J];exact⟨⟨_,fin,rfl⟩,q⟩
 | true=>
  refine callType_new F.called_enumerate (by decide) (F.typeCall_enumerate_1 _) (F.newCall_enumerate_1 _) (λG=>F.args_object_init_2 G _) F.entry_enumerate_new (DV l xs n N sl) ⟨Y,?_⟩;have J:(s.heap.push {cls:=.type "tuple_iterator",data:=.fields #[.ref l,.int 0 0]}).objs.size=s.heap.objs.size+1:=hz;show _/\_;rw[J];exact⟨⟨_,fin,rfl⟩,q⟩
theorem DS{t:Bool}{e it l:Addr}{i:Nat}{items:Array Value}{x an:Value}{Q:Value->XE->Prop}
  (he:zab s.heap e it i an) (az:SIt t s.heap it l i) (hl:SSq t s.heap l items) (hx:items[i]?=some x) (am:e≠it)
  (hQ:∀h', IsEnumOut h' e it ((i:Int)+1) x s.heap.objs.size -> SIt t h' it l (i+1) ->
   h'.get? s.heap.objs.size=some {cls:=.type "tuple",data:=.seq #[.int i s.toks,x]}->h'.objs.size=s.heap.objs.size+1->
   (∀b o,b≠e->b≠it->s.heap.get? b=some o->h'.get? b=some o)->Q (.ref s.heap.objs.size) {s with heap:=h',toks:=s.toks+1}) :
  wpAny (model prog w) A (ZL.«enumerate.__next__» ⟨[.ref e],[]⟩) (λfin s'=>∃v,fin=.done (.ret v)/\Q v s') E s:=by
 obtain⟨hp,g,d,tk,os⟩:=s;show wpAny _ _ (field (.ref e) 2 >>= _) _ _ _;refine XD (YI he rfl (x:=.ref it) rfl ?_);refine XD (next_item az hl hx λY ak N=>?_);replace N:YN it hp Y:=N;have ab:zab Y e it i an:=(N.2 e am).trans he;show wpAny _ _ (field (.ref e) 3 >>= _) _ _ ⟨Y,g,d,tk,os⟩;refine XD (YI ab rfl (x:=YD i) rfl ?_);show wpAny _ _ (field (.ref e) 4 >>= _) _ _ ⟨Y,g,d,tk,os⟩;refine XD (YI ab rfl (x:=.none) rfl ?_);show wpAny _ _ (mkInt i >>= _) _ _ ⟨Y,g,d,tk,os⟩;refine XD (wpAny_mkInt ?_);show wpAny _ _ (zaJ (.ref e) 3 (YD ((i:Int)+1)) >>= _) _ _ ⟨Y,g,d,tk+1,os⟩;refine XD (zaa ab (by simp) λaf ac U=>?_);replace U:YN e Y af:=U;replace ac:zab af e it ((i:Int)+1) an:=ac;show wpAny _ _ (zaJ (.ref e) 4 .none >>= _) _ _ ⟨af,g,d,tk+1,os⟩;refine XD (zaa ac (by simp) λaa ad W=>?_);replace W:YN e af aa:=W;replace ad:zab aa e it ((i:Int)+1) an:=ad;show wpAny _ _ (newTuple [.int i tk,x] >>= _) _ _ ⟨aa,g,d,tk+1,os⟩;refine XD (zcD ?_);have ae:zab (aa.push {cls:=.type "tuple",data:=.seq #[.int i tk,x]}) e it ((i:Int)+1) an:=XT _ ad;generalize hh₄:aa.push {cls:=.type "tuple",data:=.seq #[.int i tk,x]}=h₄ at ae;have hsz:aa.objs.size=hp.objs.size:=by rw[W.1,U.1,N.1]
 have ay:e<hp.objs.size:=XO he;have as:h₄.get? hp.objs.size=some {cls:=.type "tuple",data:=.seq #[.int i tk,x]}:=by rw[<- hh₄,<- hsz];exact X9 _ rfl
 have aw:h₄.objs.size=hp.objs.size+1:=by rw[<- hh₄,zbN,hsz]
 have au:∀b o,b≠e->b≠it->hp.get? b=some o->h₄.get? b=some o:=λb o aj ax hb=>by
  rw[<- hh₄];exact XT _ (W.extBut b o aj (U.extBut b o aj (N.extBut b o ax hb)))
 have ar:SIt t h₄ it l (i+1):=by
  rw[<- hh₄];exact ak.to λo q=>XT _ (W.extBut it o (X5 am) (U.extBut it o (X5 am) q))
 show wpAny _ _ (zdv (.ref e) >>= _) _ _ ⟨h₄,g,d,tk+1,os⟩;rw[hsz];clear hh₄ ad W ac U ab N ak hsz aa af Y;refine XD ?_
 ·unfold zdv
  refine XD (YI ae rfl (x:=.none) rfl (XJ ?_));simp only[if_true];refine XD (wpAny_rule ?_);refine XD (YI ae rfl (x:=an) rfl ?_);refine XD (zaa ae (by simp) λal ai J=>?_);replace J:YN e h₄ al:=J;replace ai:zab al e it ((i:Int)+1) x:=ai;show wpAny _ _ (zdw (.ref e) (.ref hp.objs.size) >>= _) _ _ ⟨al,g,d,tk+1,os⟩;refine XD ?_
  ·unfold zdw
   refine XD (zaa ai (by simp) λap ag G=>?_);replace G:YN e al ap:=G;replace ag:IsEnumOut ap e it ((i:Int)+1) x hp.objs.size:=ag;refine zaa ag (by simp) λao ah F=>?_
   replace F:YN e ap ao:=F;replace ah:IsEnumOut ao e it ((i:Int)+1) x hp.objs.size:=ah;refine XD (zbo (XJ ⟨_,rfl,hQ ao ah ?_ ?_ ?_ ?_⟩))
   ·exact ar.to λo q=>F.extBut it o (X5 am) (G.extBut it o (X5 am) (J.extBut it o (X5 am) q))
   ·exact F.extBut _ _ (YS ay) (G.extBut _ _ (YS ay) (J.extBut _ _ (YS ay) as))
   ·rw[F.1,G.1,J.1,aw]
   ·exact λb o aj ax hb=>F.extBut b o aj (G.extBut b o aj (J.extBut b o aj (au b o aj ax hb)))
theorem CP{t:Bool}{e it l:Addr}{i:Nat}{items:Array Value}{x J:Value}{Q:Option Value->XE->Prop}
  (N:zab s.heap e it i J) (q:SIt t s.heap it l i) (U:SSq t s.heap l items) (Y:items[i]?=some x) (G:e≠it)
  (W:∀h', IsEnumOut h' e it ((i:Int)+1) x s.heap.objs.size -> SIt t h' it l (i+1) ->
   h'.get? s.heap.objs.size=some {cls:=.type "tuple",data:=.seq #[.int i s.toks,x]}->h'.objs.size=s.heap.objs.size+1->
   (∀b o,b≠e->b≠it->s.heap.get? b=some o->h'.get? b=some o)->Q (some (.ref s.heap.objs.size)) {s with heap:=h',toks:=s.toks+1}) :
  wpAny (model prog w) A (Y2 (.ref e)) Q E s:=by
 have hT:s.TypeIs (.ref e) "enumerate" := ⟨_,N,rfl⟩;unfold Y2;exact XD (zbm (zal (name:=zam "__next__") hT zcJ
  (ZM zcJ hT F.entry_enumerate_next
   (DS N q U Y G λh' a b c d k=>XJ (W h' a b c d k)) (F.args_enumerate_next_1 _))))
theorem GF{t:Bool}{i:Nat}{items:Array Value}{Q:Option Value->XE->Prop}(Y:A.handled=none)
  (N:zab s.heap e it i old) (q:SIt t s.heap it l i) (U:SSq t s.heap l items) (hx:items[i]?=none)
  (W:∀h',zbL it s.heap h'->Q none {s with heap:=h'}):wpAny (model prog w) A (Y2 (.ref e)) Q E s:=by
 have hT:s.TypeIs (.ref e) "enumerate" := ⟨_,N,rfl⟩;unfold Y2;refine XD (zbm (zal (name:=zam "__next__") hT zcJ
  (ZM zcJ hT F.entry_enumerate_next ?_ (F.args_enumerate_next_1 _))))
 show wpAny _ _ (field (.ref e) 2 >>= _) _ _ _;refine XD (YI N rfl (x:=.ref it) rfl ?_);refine XD (next_end Y q U hx λh' x G J=>?_);obtain⟨o,ho,hc⟩:=J;refine XD (zdh (T := "StopIteration") (b:=true) ⟨o,ho,hc⟩ isSubtype_stop ?_);exact XJ (W _ G)
end
def WO(K:XF)(t:Bool)(l:Addr):It:=
 ⟨λi H => ∃xs, M4 K t H l xs /\ i<xs.length, λi H x H' => ∃p u, x = .ref p /\ H p = none /\ H' = upd H p (.tup [.int (i:Int), u]) /\ ∀xs, M4 K t H l xs -> xs[i]? = some u,
  λi H=>∃xs,M4 K t H l xs/\xs.length<=i⟩
theorem CS{P:XM}{w:World}{K:XF}{ad:List Expr}{x1}{tp:Pos}(t:Bool){e it l:Addr}(ae:e≠it) :
  Turn P w K (.Tuple ad x1 tp) (WO K t l) [e,it] e (λi h=>(∃N,zab h e it (i:Nat) N)/\SIt t h it l i) where
 mem:=by simp
 obj:=by
  rintro i h ⟨⟨N,U⟩,⟨o1,e1,_,d1⟩⟩ c F;simp only[Y7,Y8,or_false]at F;rcases F with rfl|rfl
  ·exact⟨_,U,λv q=>by cases q⟩
  ·exact⟨o1,e1,λv q=>by rw[d1]at q;cases q⟩
 keep:=λi h h' ⟨⟨N,U⟩,W⟩ k=>⟨⟨N,k e (by simp) _ U⟩,W.to λo q=>k it (by simp) o q⟩
 item:=by
  intro X hP hw hK F i pins s σ H E I hf st hg;subst hP hw hK;obtain⟨⟨N,U⟩,W⟩:=st;obtain⟨xs,q1,aj⟩:=hg;obtain⟨ab,r1,p1⟩:=zT I q1;have e1:xs[i]?=some xs[i]:=by simp[aj]
  obtain⟨u,eu,ru⟩:=r1.get e1;refine CP U W p1 (x:=u) (by simpa using eu) ae λh' a1 a2 a3 a4 hk=>⟨_,rfl,?_⟩
  refine wpAny_letOwnedTupleGo_enum (s:={s with heap:=h',toks:=s.toks+1}) a1 λh2 ap sb=>?_
  have zz:∀c,c∈[e,it]->c<s.heap.objs.size:=λc F=>by
   simp only[Y7,Y8,or_false]at F;rcases F with rfl|rfl
   ·exact XO U
   ·obtain⟨o,q,_⟩:=W;exact XO q
  have Y:∀c o,c≠e->h'.get? c=some o->h2.get? c=some o:=λc o F q=>sb.extBut _ _ F q
  have I1:Inv X pins σ H {s with heap:=h2,toks:=s.toks+1}:=pO I hf λc o F q=>by
   simp only[Y7,Y8,or_false,not_or]at F;exact Y c o F.1 (hk c o F.1 F.2 q)
  have G:H s.heap.objs.size=none:=I.fresh;have aq:h2.get? s.heap.objs.size=some {cls:=.type "tuple",data:=.seq #[.int i s.toks,u]}:=Y _ _ (YS (zz e (by simp))) a3;have I2:Inv X pins σ (upd H s.heap.objs.size (.tup [.int (i:Int),xs[i]])) {s with heap:=h2,toks:=s.toks+1}:=by
   have ah:HOk X.prog X.w (upd H s.heap.objs.size (.tup [.int (i:Int),xs[i]])) h2:=λc ob q=>by
    by_cases F:c=s.heap.objs.size
    ·subst F;rw[aN]at q;cases q
     exact⟨by show 2<=XQ;decide,[.int i s.toks,u],.cons ⟨_,rfl⟩ (.cons ru .nil),_,aq,rfl,0,rfl,rfl⟩
    ·rw[aL F]at q
     exact(I1.hok c ob q).stay (λ_ _ _ q=>q) (λd q=>by rw[aL (bM q G)];exact q) λd am q=>by rw[aL (bM q G)];exact q
   refine I.call' (s':={s with heap:=h2,toks:=s.toks+1}) (ch:=[e,it]) rfl ⟨λc o q _ _ J=>?_,λc o q _ _ J=>⟨o.slots,?_⟩,λc o q n J=>by rw[aL (YA (XO q))];exact n,λc o q J=>⟨o,?_⟩,λc am q=>by rw[aL (bM q G)];exact q,λc o' u' q=>by rw[aL (bM q G)];exact q,λc ps q=>⟨#[],by rw[aL (bM q G),q];simp⟩⟩ ah I.bare λb hb=>?_
   ·simp only[Y7,Y8,or_false,not_or]at J
    exact Y c o J.1 (hk c o J.1 J.2 q)
   ·simp only[Y7,Y8,or_false,not_or]at J
    exact Y c o J.1 (hk c o J.1 J.2 q)
   ·simp only[Y7,Y8,or_false,not_or]at J
    exact Y c o J.1 (hk c o J.1 J.2 q)
   ·obtain⟨_,f1,_,f3,f4,f5⟩:=hf b hb
    exact⟨f3,f1,f4,f5⟩
  refine⟨.ref s.heap.objs.size,_,I2,rfl,⟨_,_,rfl,G,rfl,λbe g1=>by rw[<- JJ I q1 g1];exact e1⟩,⟨⟨_,ap⟩,a2.to λo q=>Y _ o (X5 ae) q⟩,λc F=>?_⟩;rw[aL (YA (zz c F))];exact(hf c F).1
 done:=by
  intro X hP hw hK F i pins s σ H E I hf st hg;subst hP hw hK;obtain⟨⟨N,U⟩,W⟩:=st;obtain⟨xs,q1,as⟩:=hg;obtain⟨ab,r1,p1⟩:=zT I q1;have n1:=r1.length;refine GF (I.ok.hd F) U W p1 (by simp;lia) λh' hk=>⟨rfl,pO (t':=s.toks) I hf λc o F q=>?_⟩
  simp only[Y7,Y8,or_false,not_or]at F;exact hk c o F.2 q
 self:=λ_ _ _ _ _ st h=>let ⟨⟨_,U⟩,_⟩:=st;wpAny_pyIter_enum U h
theorem boot_enumerate:YC "enumerate" = some (.type "enumerate"):=by first|rfl|decide +kernel
def SF(K:XF)(ta:TA):TI:=λσ H R=>ta σ H λvs H1=>∃t l xs,vs=[.ref l]/\M4 K t H1 l xs/\R (WO K t l) H1
theorem JF{X:Cx}{F:List Expr}{x1}{tp:Pos}{a:Expr}{ta:TA}{p pos:Pos}(hg:Gl X "enumerate")(hm:X.mg "enumerate" = none)(ha:PA X [a] ta)(hs:XI [a] X.env=[(false,eval a X.env)]:=by rfl) :
  PI X (.Tuple F x1 tp) (.Call (.Name "enumerate" p) [a] [] pos) (SF X.K ta):=by
 intro pins s σ H R I h;refine Call_ (mO I hg hm boot_enumerate (zcb (bX (ha pos pins s σ H _ I h) λus N ⟨vs,H1,J,r1,U⟩=>?_) (by rw[hs];rfl) rfl));obtain⟨t,l,xs,rfl,U,q⟩:=U;obtain⟨u,rfl,ru⟩:=vals1 r1;cases ru;obtain⟨aa,_,p1⟩:=zT J U;refine CL p1 λh' Y W k=>?_
 refine wpAny_pyIter_enum Y ?_;have D:N.heap.objs.size+1≠N.heap.objs.size:=by lia
 refine⟨_,[_,_],_,_,H1,rfl,J.kept (t':=N.toks) k,CS t D,⟨⟨_,Y⟩,W⟩,λc G=>J.fpOk ?_ (J.hok.fresh ?_),q⟩
 ·simp only[Y7,Y8,or_false]at G
  rcases G with rfl|rfl <;> lia
 ·simp only[Y7,Y8,or_false]at G
  rcases G with rfl|rfl <;> lia
end My
namespace P
open PySem PySem.Spec PyProof.Rows L2
noncomputable def fQ:Nat->List D->List D
 | _,[]=>[]
 | k,x::xs=>.tup [.int (k:Int),x]::fQ (k+1) xs
def yF(f:Lv):Lv:=λρ=>(f ρ).bind λds=>match ds with
 | [a]=>(uB a).map (fQ 0)
 | _=>none
theorem jP:∀ {xs:List D} {k i:Nat} {d:D},(fQ k xs)[i]?=some d->∃x,xs[i]?=some x/\d=.tup [.int ((k+i:Nat):Int),x]
 | [],k,i,d,h=>by simp[fQ]at h
 | x::xs,k,0,d,h=>by simp[fQ]at h;exact⟨x,rfl,h.symm⟩
 | x::xs,k,i+1,d,h=>by
  obtain⟨y,F,q⟩:=jP (xs:=xs) (k:=k+1) (i:=i) (by simpa[fQ]using h);exact⟨y,by simpa using F,by rw[q];congr 4;lia⟩
theorem mF:∀(xs:List D) (k:Nat),(fQ k xs).length=xs.length
 | [],_=>rfl
 | x::xs,k=>by simp[fQ,mF xs]
theorem FP{N}(hg:Gl X "enumerate")(hm:X.mg "enumerate" = none)(ha:sL X O [a] f)(hs:XI [a] X.env=[(false,eval a X.env)]:=by rfl) :
  PDI X O (.Tuple elts N tp) (.Call (.Name "enumerate" p) [a] [] pos) (yF f):=PI.mono (My.JF hg hm ha hs) λσ H R ⟨H0,A0,A,E,ρ,items,st,e,q⟩=>by
 obtain⟨ds,e1,e⟩:=bind_some e;refine⟨H0,A0,A,E,ρ,ds,st,e1,λvs H1 N r1=>?_⟩;split at e
 case h_2=>cases e
 rename_i da;obtain⟨xs,e2,rfl⟩:=map_some e;obtain⟨v,rfl,Y⟩:=r1.one;obtain⟨t1,J,us,rfl,q1,_,k1⟩:=J9 (K:=X.K) e2 Y;refine⟨t1,J,us,rfl,q1,q _ H1 [.rep da (.ref J)] N (λp hp=>?_) ?_⟩
 ·rw[List.mem_singleton.mp hp];exact Y
 ·intro A' H' lv hE i
  have a1:Rep A' H' da (.ref J):=hE (.rep da (.ref J)) (X8 ..);obtain⟨F,g1,G⟩:=k1 A' H' a1;refine⟨λhi=>⟨F,g1,by rw[G.length];rw[mF]at hi;exact hi⟩,λd hd=>?_⟩;obtain⟨x,ex,rfl⟩:=jP hd;obtain⟨u,W,ru⟩:=G.get' ex;refine⟨⟨F,g1,(List.getElem?_eq_some_iff.mp W).1⟩,λx' H2 ⟨p,u',e4,n,e5,e6⟩=>?_⟩;subst e4 e5;have U:=e6 F g1;rw[W]at U;cases U;rw[zbt];exact⟨Ext.new n,.tup aN (.cons (.int _) (.cons (ru.ext (Ext.new n)) .nil))⟩
@[simp] theorem q_enum:yF f ρ=(f ρ).bind λds=>match ds with
 | [a]=>(uB a).map (fQ 0)
 | _=>none:=rfl
end P
namespace P
open L2
structure Ro where
 j:Int
 k:Int
 a:Int
 b:Int
 p:Int
noncomputable def fl{α:Type}(h:Nat->Ro->List α):Nat->List Ro->List α
 | _,[]=>[]
 | m,r::rs=>h m r++fl h (m+1) rs
noncomputable def sg(q:Nat->Ro->Int):Nat->List Ro->Int
 | _,[]=>0
 | m,r::rs=>q m r+sg q (m+1) rs
end P
namespace P
open PySem PySem.Spec PyProof.Rows L2
theorem jN{n:Nat}(h:n<=1000000):cM [.int (n:Int)]=some (bS 0 1 n):=by
 show(if gX (n:Int)then _ else _)=_;rw[if_pos (by simp only[gX,YU,decide_eq_true_eq];lia)];simp
theorem O0(h:aA k ρ=some (.lst l))(q:f ρ=some d)(hz:aW l.length=true):mR k f ρ=some (.nx (ρ.set k (some (.lst (l++[d]))))):=by
 rw[q_app,h];show((f ρ).bind λd=>if aW l.length then _ else none)=_;rw[q];show(if aW l.length then _ else none)=_;rw[if_pos hz]
theorem zI(h0:0<=y)(h:y<=1000000):cM [.int y]=some (bS 0 1 y.toNat):=by
 show(if gX y then _ else _)=_;rw[if_pos (by simp only[gX,YU,decide_eq_true_eq];lia)]
theorem CG(J:1<=c)(G:c<1000)(U:0<=a)(F:a<=1000)(N:0<=b)(q:b<=1000):∃m:Nat,nY [.int a,.int b,.int c]=some (bS a c m)/\∀i:Nat,i<m->a+(i:Int)*c<b:=
 ⟨My.rsz a b c, by
  show(if c≠0/\c.natAbs<1000/\zbh a b c=true then some (bS a c (My.rsz a b c))else none)=_;rw[if_pos ⟨by lia,by lia,My.DE J (by lia) (by lia) (by lia) (by lia) (by lia)⟩],λi hi=>QX (by lia) hi⟩
noncomputable def cY(r:Ro):D:=.tup [.int r.j,.int r.k,.int r.a,.int r.b,.int r.p]
end P
namespace My
open PySem PySem.Spec PyProof.Rows L2
noncomputable def T9(a:Bool):String:=if a=true then "str_ascii_iterator" else "str_iterator"
noncomputable def WE(x:Str):It:=⟨λi H=>i<x.cps.size,λi H y H'=>H'=H/\∃c,x.cps[i]?=some c/\y=.str ⟨#[c]⟩,λi H=>x.cps.size<=i⟩
theorem E2{P:XM}{w:World}{K:XF}{tg:Expr}(a:Bool)(x:Str)(t:Tok)(it:Addr):Turn P w K tg (WE x) [it] it (λi h=>h.IsStrIter it (T9 a) x t i) where
 mem:=by simp
 obj:=λi h st b q=>by
  have e:b=it:=by simpa using q
  subst e;obtain⟨o,e,c,d⟩:=st;exact⟨o,e,λv z=>by rw[d]at z;cases z⟩
 keep:=λi h h' st k=>let ⟨o,ho,r⟩:=st;⟨o,k it (by simp) o ho,r⟩
 item:=by
  intro X hP hw hK hc i pins s σ H E I U st hg;subst hP hw hK;obtain⟨f0,Y,f2,J,W,N⟩:=U it (by simp);have hi:i<x.cps.size:=hg;have G:x.cps[i]?=some x.cps[i]:=by simp[hi]
  cases a with
  | true=>
   refine wpAny_pyNext_ascii_item st G λh' F sb=>?_
   have I1:Inv X pins σ H {s with heap:=h',toks:=s.toks+1}:=I.turned (t':=s.toks+1) (λb o q e=>(sb.2 b q).trans e) f0 Y J W N;obtain⟨o,e,c,d⟩:=id F;exact⟨_,rfl,rF (s:={s with heap:=h',toks:=s.toks+1}) e c d (by decide) ⟨.str ⟨#[x.cps[i]]⟩,H,I1,⟨_,rfl⟩,⟨rfl,_,G,rfl⟩,F,λb q=>(U b q).1⟩⟩
  | false=>
   refine wpAny_pyNext_wide_item st G λh' F sb=>?_
   have I1:Inv X pins σ H {s with heap:=h',toks:=s.toks+1}:=I.turned (t':=s.toks+1) (λb o q e=>(sb.2 b q).trans e) f0 Y J W N;obtain⟨o,e,c,d⟩:=id F;exact⟨_,rfl,rF (s:={s with heap:=h',toks:=s.toks+1}) e c d (by decide) ⟨.str ⟨#[x.cps[i]]⟩,H,I1,⟨_,rfl⟩,⟨rfl,_,G,rfl⟩,F,λb q=>(U b q).1⟩⟩
 done:=by
  intro X hP hw hK hc i pins s σ H E I U st hg;subst hP hw hK;obtain⟨f0,Y,f2,J,W,N⟩:=U it (by simp);have hi:x.cps.size<=i:=hg;have G:x.cps[i]?=none:=by simp[hi]
  cases a with
  | true=>exact wpAny_pyNext_ascii_end (I.ok.hd hc) st G λh' eb=>⟨rfl,I.turned (t':=s.toks) (λb o q e=>eb b o q e) f0 Y J W N⟩
  | false=>exact wpAny_pyNext_wide_end (I.ok.hd hc) st G λh' eb=>⟨rfl,I.turned (t':=s.toks) (λb o q e=>eb b o q e) f0 Y J W N⟩
 self:=λ_ _ _ _ _ st h=>by
  cases a with
  | true=>exact wpAny_pyIter_striter_ascii st h
  | false=>exact wpAny_pyIter_striter_wide st h
def U9(tl:TE):TI:=λσ H R=>tl σ H λx H1=>∃y,x=.str y/\R (WE y) H1
section
variable {X:Cx}{tg:Expr}
theorem PJ{l:Expr}{tl:TE}(J:PE X l tl):PI X tg l (U9 tl):=by
 intro pins s σ H R I h;refine bX (J pins s σ H _ I h) λv F ⟨x,H1,G,W,N⟩=>?_
 obtain⟨y,rfl,q⟩:=N;obtain⟨t,rfl⟩:=W;have fin:∀a:Bool,PIE X pins σ tg R (.ref F.heap.objs.size) {F with heap:=F.heap.push {cls:=.type (T9 a),data:=.fields #[.str y t,.int 0 0]} }:=λa=>by
  refine⟨F.heap.objs.size,[F.heap.objs.size],_,_,H1,rfl,G.kept (t':=F.toks) λb o e=>XT _ e,E2 a y t _,⟨_,X9 _ rfl,rfl,rfl⟩,λb U=>?_,q⟩;have e:b=F.heap.objs.size:=by simpa using U
  subst e;exact G.fpOk (XU _) (G.hok.fresh (XU _))
 cases ha:y.cps.all (·<128)
 ·exact wpAny_pyIter_wide ha (fin false)
 ·exact wpAny_pyIter_ascii ha (fin true)
theorem DQ:OpR X (XY .LtE) (λx y H Q=>∃i j,x=.str i/\y=.str j/\Q (.bl (!decide (j.cps.toList<i.cps.toList))) H):=by
 intro pins s σ H x y v u Q I F G h;obtain⟨i,j,rfl,rfl,q⟩:=h;obtain⟨t,rfl⟩:=F;obtain⟨t',rfl⟩:=G;exact PySem.P.le_str ⟨.bl _,H,I,rfl,q⟩
theorem HI{bs:List Bool}{q:List Value}(r:Vals (bs.map V.bl) q):TruthOf P w A (λi v=>q.toArray[i]?=some v) (λi=>(bs[i]?).getD false):=by
 intro i v s Q E F G;have F:q[i]?=some v:=by simpa using F
 have J:=r.length;rw[XR]at J;have hi:i<bs.length:=by rw[J];exact(List.getElem?_eq_some_iff.mp F).1
 have e:(bs.map V.bl)[i]?=some (.bl bs[i]):=by simp[hi]
 obtain⟨u,N,U⟩:=r.get e;rw[F]at N;cases N;cases U;have:(bs[i]?).getD false=bs[i]:=by simp[hi]
 dsimp only at G;rw[this]at G;exact ZT G
theorem range_all(bs:List Bool):(Y9 bs.length).all (λi=>(bs[i]?).getD false)=bs.all id:=by
 rw[za5,zbg,zbg];constructor
 ·intro h b q
  obtain⟨i,hi,rfl⟩:=List.getElem_of_mem q;have:=h i (List.mem_range.mpr hi);simpa[hi]using this
 ·intro h i hi
  have hi:=List.mem_range.mp hi;simpa[hi]using h bs[i] (zbQ hi)
theorem range_any(bs:List Bool):(Y9 bs.length).any (λi=>(bs[i]?).getD false)=bs.any id:=by
 rw[za5,List.any_eq_true,List.any_eq_true];constructor
 ·rintro⟨i,hi,h⟩
  have hi:=List.mem_range.mp hi;exact⟨bs[i],zbQ hi,by simpa[hi]using h⟩
 ·rintro⟨b,q,h⟩
  obtain⟨i,hi,rfl⟩:=List.getElem_of_mem q;exact⟨i,List.mem_range.mpr hi,by simpa[hi]using h⟩
theorem DU(hc:X.calm=true):CallR X (.builtin "all") (λxs H Q=>∃(p:Addr) (bs:List Bool),xs=[.ref p]/\SqL X.K H p (bs.map V.bl)/\Q (.bl (bs.all id)) H):=by
 intro pins s σ H xs us Q I r h;obtain⟨p,bs,rfl,hq,q⟩:=h;obtain⟨u,rfl,rx⟩:=vals1 r;cases rx;obtain⟨G,U,pl,hz⟩:=I.list hq;have J:s.heap.IsList p G.toArray:=pl.isList;obtain⟨o,ho,W,n,hd⟩:=id J;have N:p≠s.heap.objs.size:=YA (XO ho);refine call_all_walk (zcX J ?_);refine⟨s.heap.objs.size,_,_,_,_,_,_,rfl,Walks.list (prog:=X.prog) (w:=X.w) (A:=X.A.in1) (I.ok.hd hc) s.heap.objs.size p N G.toArray,⟨⟨_,X9 _ rfl,rfl,rfl⟩,J.at λo e=>XT _ e⟩,HI U,λh' tk hm=>?_⟩;have hk:∀b o,s.heap.get? b=some o->h'.get? b=some o:=λb o e=>hm b o (λY=>absurd (XO e) ((List.mem_singleton.mp Y) ▸ ZN _)) (XT _ e)
 have F:=U.length;rw[XR]at F;refine⟨.bl (bs.all id),H,I.kept (t':=tk) hk,?_,q⟩;rw[XX,<- F,range_all];rfl
theorem CT(hc:X.calm=true):CallR X (.builtin "any") (λxs H Q=>∃(p:Addr) (bs:List Bool),xs=[.ref p]/\SqL X.K H p (bs.map V.bl)/\Q (.bl (bs.any id)) H):=by
 intro pins s σ H xs us Q I r h;obtain⟨p,bs,rfl,hq,q⟩:=h;obtain⟨u,rfl,rx⟩:=vals1 r;cases rx;obtain⟨G,U,pl,hz⟩:=I.list hq;have J:s.heap.IsList p G.toArray:=pl.isList;obtain⟨o,ho,W,n,hd⟩:=id J;have N:p≠s.heap.objs.size:=YA (XO ho);refine call_any_walk (zcX J ?_);refine⟨s.heap.objs.size,_,_,_,_,_,_,rfl,Walks.list (prog:=X.prog) (w:=X.w) (A:=X.A.in1) (I.ok.hd hc) s.heap.objs.size p N G.toArray,⟨⟨_,X9 _ rfl,rfl,rfl⟩,J.at λo e=>XT _ e⟩,HI U,λh' tk hm=>?_⟩;have hk:∀b o,s.heap.get? b=some o->h'.get? b=some o:=λb o e=>hm b o (λY=>absurd (XO e) ((List.mem_singleton.mp Y) ▸ ZN _)) (XT _ e)
 have F:=U.length;rw[XR]at F;refine⟨.bl (bs.any id),H,I.kept (t':=tk) hk,?_,q⟩;rw[XX,<- F,range_any];rfl
end
end My
namespace P
open PySem PySem.Spec PyProof.Rows L2
section
variable {X:Cx}{O O':List Nat}{L:Lp}
noncomputable def rN:List D->Option (List Bool)
 | []=>some []
 | .bl b::l=>(rN l).map (b::·)
 | _=>none
theorem gR:∀ {ds:List D} {ns:List Bool} {vs:List V},rN ds=some ns->RepL A H ds vs->vs=ns.map V.bl
 | [],_,_,e,.nil=>by cases e;rfl
 | d::ds,ns,_,e,.cons h t=>by
  cases d with
  | bl b=>
   obtain⟨m,q,rfl⟩:=map_some e;cases RepB.bl_inv (.of h);rw[gR q t];rfl
  | _=>cases e
theorem lS:∀bs:List Bool,rN (bs.map .bl)=some bs
 | []=>rfl
 | b::bs=>by rw[XW,rN,lS bs];rfl
def EB:List D->Option D
 | [.lst l]=>(rN l).map λbs=>.bl (bs.all id)
 | _=>none
def yI:List D->Option D
 | [.lst l]=>(rN l).map λbs=>.bl (bs.any id)
 | _=>none
theorem G0(J:X.calm=true):jG X (.builtin "all") EB:=CallR.mono (My.DU J) <| by
 rintro xs H Q ⟨A,ds,d,W,r,e,q⟩;unfold EB at e;split at e
 ·obtain⟨bs,F,rfl⟩:=map_some e
  obtain⟨v,rfl,G⟩:=r.one;obtain⟨a,U,rfl,h1,N⟩:=G.lst_inv;rw[gR F N]at h1;exact⟨a,bs,rfl,.inl h1,q _ H (Ext.refl _ _) (.bl _)⟩
 ·cases e
theorem HH(J:X.calm=true):jG X (.builtin "any") yI:=CallR.mono (My.CT J) <| by
 rintro xs H Q ⟨A,ds,d,W,r,e,q⟩;unfold yI at e;split at e
 ·obtain⟨bs,F,rfl⟩:=map_some e
  obtain⟨v,rfl,G⟩:=r.one;obtain⟨a,U,rfl,h1,N⟩:=G.lst_inv;rw[gR F N]at h1;exact⟨a,bs,rfl,.inl h1,q _ H (Ext.refl _ _) (.bl _)⟩
 ·cases e
@[simp] theorem q_all{bs:List Bool}:EB [.lst (bs.map .bl)]=some (.bl (bs.all id)):=by unfold EB;simp only[lS];rfl
@[simp] theorem q_any{bs:List Bool}:yI [.lst (bs.map .bl)]=some (.bl (bs.any id)):=by unfold yI;simp only[lS];rfl
noncomputable def gZ:D->D->Option D
 | .int i,.int j=>some (.bl (decide (i<=j)))
 | .str i,.str j=>some (.bl (!decide (j.cps.toList<i.cps.toList)))
 | _,_=>none
theorem P4:jK X (XY .LtE) gZ:=OpR.mono (OpR.or RT My.DQ) <| by
 rintro x y H Q ⟨A,dx,N,d,J,F,G,e,q⟩;unfold gZ at e;split at e
 ·cases e
  cases F.int_inv;cases G.int_inv;exact .inl ⟨_,_,rfl,rfl,q _ H (Ext.refl _ _) (.bl _)⟩
 ·cases e
  cases F.str_inv;cases G.str_inv;exact .inr ⟨_,_,rfl,rfl,q _ H (Ext.refl _ _) (.bl _)⟩
 ·cases e
@[simp] theorem q_leAI:gZ (.int i) (.int j)=some (.bl (decide (i<=j))):=rfl
@[simp] theorem q_leAS:gZ (.str i) (.str j)=some (.bl (!decide (j.cps.toList<i.cps.toList))):=rfl
def rM(x y:D):Option D:=match x,y with
 | .str i,.str j=>some (.bl (!(Builtin.Str.occurrences j i 0 j.length 1).isEmpty))
 | x,y=>RF x y
theorem G1(N:X.A.units+64<cLine):jK X (XY .In) rM:=OpR.mono (OpR.or (R3 N) CQ) <| by
 rintro x y H Q ⟨A,dx,U,d,J,F,G,e,q⟩;unfold rM at e;split at e
 ·cases e
  cases F.str_inv;cases G.str_inv;exact .inr ⟨_,_,rfl,rfl,q _ H (Ext.refl _ _) (.bl _)⟩
 ·exact .inl ⟨A,_,_,d,J,F,G,e,q⟩
noncomputable def signs(x:Str):List D:=x.cps.toList.map λc=>.str ⟨#[c]⟩
theorem O7:zZ (My.WE x) [] (signs x):=by
 intro A H W Y i;have F:(signs x).length=x.cps.size:=by simp[signs]
 refine⟨λhi=>by rw[F]at hi;exact hi,λd q=>?_⟩;have hi:i<x.cps.size:=by rw[<- F];exact(List.getElem?_eq_some_iff.mp q).1
 refine⟨hi,λy H' ⟨e,c,N,U⟩=>?_⟩;subst e U;have:d=.str ⟨#[c]⟩:=by
  unfold signs at q;rw[YB]at q;obtain⟨J,G,rfl⟩:=map_some q;have:x.cps[i]?=some J:=by rw[<- zbs];exact G
  rw[N]at this;cases this;rfl
 subst this;exact⟨Ext.refl _ _,.str _⟩
def dE(f:Ev):Lv:=λρ=>(f ρ).bind λd=>match d with
 | .lst l=>some l
 | .tup l=>some l
 | .dT l=>some (l.map λp=>.tup (p.1.map EC))
 | .str x=>some (signs x)
 | _=>none
@[simp] theorem q_lSeqA:dE f ρ=(f ρ).bind λd=>match d with
 | .lst l=>some l
 | .tup l=>some l
 | .dT l=>some (l.map λp=>.tup (p.1.map EC))
 | .str x=>some (signs x)
 | _=>none:=rfl
theorem wW(h:PD X O e f):PDI X O tg e (dE f):=PI.mono (PI.or (KG h) (My.PJ h)) <| by
 rintro σ H R ⟨H0,A0,A,E,ρ,items,st,e,q⟩;obtain⟨d,F,e⟩:=bind_some e;cases d with
 | str x=>
  cases e;refine .inr ⟨H0,A0,A,E,ρ,_,st,F,λv H1 J N=>?_⟩;cases RepB.str_inv (.of N);exact⟨x,rfl,q _ H1 [] J (λp G=>nomatch G) O7⟩
 | lst l=>exact .inl ⟨H0,A0,A,E,ρ,items,st,by unfold IX;rw[F];exact e,q⟩
 | tup l=>exact .inl ⟨H0,A0,A,E,ρ,items,st,by unfold IX;rw[F];exact e,q⟩
 | dT l=>exact .inl ⟨H0,A0,A,E,ρ,items,st,by unfold IX;rw[F];exact e,q⟩
 | _=>cases e
end
structure GTup(K:XF)(mg:Str->Option Value)(x:Str)(ss:List Str):Prop where
 ex:∃a,mg x=some (.ref a)/\∃(o:Obj) (its:Array Value) (n:Nat),K.lookup a=some o/\o.cls=.type "tuple" /\ o.data=.seq its n/\its.size<=XQ/\Vals (ss.map V.str) its.toList
structure GInt(mg:Str->Option Value)(x:Str)(i:Int):Prop where
 ex:∃t,mg x=some (.int i t)
section
variable {X:Cx}{O:List Nat}
theorem lY(g:GInt X.mg x i)(G:Gl X x)(F:(x == ("__debug__" : Str))=false:=by decide):PD X O (.Name x p) (eC (.int i)):=by
 obtain⟨t,e⟩:=g.ex;exact PE.mono (lX (v:=.int i) G e ⟨t,rfl⟩ F) λσ H Q ⟨H0,A0,A,E,ρ,d,st,e,q⟩=>by cases e;exact q _ H (Ext.refl _ _) (.int _)
noncomputable def MR(neg:Bool)(ss:List Str):D->Option D
 | .str s=>some (.bl (if neg then !ss.contains s else ss.contains s))
 | _=>none
theorem xD(s:Str):∀ss:List Str,inV (.str s) (ss.map V.str)=ss.contains s
 | []=>rfl
 | y::ss=>by
  have ih:=xD s ss;unfold inV at ih ⊢;rw[XW,Z1,ih,List.contains_cons];congr 1;show decide (y=s)=(s == y);by_cases h:y=s
  ·subst h;simp
  ·have:¬ s=y:=λz=>h z.symm
   simp[h,this]
theorem sW:∀ss:List Str,(ss.map V.str).all l7=true
 | []=>rfl
 | y::ss=>by rw[XW,zbd,sW ss];rfl
theorem LR{neg:Bool}{ss:List Str}{f:Ev}{a:Addr}{K:XF}(F:∃(o:Obj) (its:Array Value) (n:Nat),K.lookup a=some o/\o.cls=.type "tuple" /\ o.data=.seq its n/\its.size<=XQ/\Vals (ss.map V.str) its.toList){σ:L2.St}{H:Hp}{Q:VK}(h:tD Rep O (uJ (MR neg ss) f) σ H Q):RM (WL K neg) (tD RepB O f) (tC (.ref a)) σ H Q:=by
 obtain⟨H0,A0,A,E,ρ,d,st,e,q⟩:=h;obtain⟨x,ex,e⟩:=bind_some e;refine⟨H0,A0,A,E,ρ,x,st,ex,λv H1 G J=>?_⟩;cases x with
 | str s=>
  cases e;cases J.str_inv;refine⟨a,ss.map V.str,rfl,.inr (.inr F),rfl,sW ss,?_⟩;rw[xD];exact q _ H1 G (.bl _)
 | _=>cases e
theorem KQ(g:GTup X.K X.mg x ss)(N:Gl X x)(U:PB X O e f)(F:(x == ("__debug__" : Str))=false:=by decide)(J:zau .In (.Name x p)=false:=by rfl):rO X O (.Compare e [.In] [.Name x p] pos) (bZ (uJ (MR false ss) f)):=by
 obtain⟨a,q,G⟩:=g.ex;exact PT.mono (BA DD U (lX (v:=.ref a) N q rfl F) J) λσ H Q h=>LR G (i4 h)
end
@[simp] theorem q_inG:MR neg ss (.str s)=some (.bl (if neg then !ss.contains s else ss.contains s)):=rfl
@[simp] theorem q_eqS:mV (.str a) (.str b)=some (.bl (decide (a=b))):=by
 unfold mV EN;rw[if_pos (.inl rfl)];by_cases h:a=b
 ·subst h;simp
 ·have h2:¬ D.str a=D.str b:=λz=>h (by injection z)
  simp[h]
@[simp] theorem q_neS:yK (.str a) (.str b)=some (.bl (!decide (a=b))):=by
 unfold yK EN;rw[if_pos (.inl rfl)];by_cases h:a=b
 ·subst h;simp
 ·have h2:¬ D.str a=D.str b:=λz=>h (by injection z)
  simp[h]
theorem kY(h0:0<=k)(h:k<(l.length:Int)):k6 (.lst l) (.int k) e=some (.lst (l.set k.toNat e)):=by
 show(JD l.length k).map _=_;unfold JD;rw[if_pos h0,if_pos h];rfl
theorem PD.pe(h:PD X O e f):PE X e (tD Rep O f):=h
noncomputable def isStar:Expr->Bool
 | .Starred ..=>true
 | _=>false
theorem c7(h:isStar e=false):XI (e::es) env=(false,eval e env)::XI es env:=by
 cases e <;> first|rfl|cases h
theorem jS:∀ {es:List Expr},(es.all λe=>!isStar e)=true->(X0 pos (XI es env)).any (·.1)=false
 | [],_=>by simp[XI,X0]
 | e::es,h=>by
  rw[zbd,YU]at h;have q:isStar e=false:=by cases z:isStar e;rfl;rw[z]at h;exact absurd h.1 (by decide)
  have ih:=jS (pos:=pos) (env:=env) (es:=es) h.2;rw[c7 q];simp only[X0,XW,Z1,Bool.false_or]at ih ⊢;exact ih
end P
namespace My
open PySem PySem.Spec PyProof.Rows L2 PySem.SeqAt
noncomputable def RD(val:Nat->Int):Nat->Nat->Int->Int
 | 0,_,m=>m
 | k+1,j,m=>RD val k (j+1) (if val j>m then val j else m)
section
variable {prog:XM}{w:World}{A:XS}{R:zag->XE->Prop}{I S:Addr}{fp wr:List Addr}{n:Nat}{P:Nat->Value->Prop}{St:Nat->Heap->Prop}{kw:List (Str×Value)}
theorem mJ(W:Walks prog w A.in1 I fp wr n P St)(val:Nat->Int)(hv:∀j v,P j v->∃t,v=.int (val j) t)(nS:S∉fp):∀(k j:Nat) (s:XE) (m:Int) (t:Tok) (c:Nat),n-j=k->j<=n->St j s.heap->
  s.heap.get? S=some {cls:=.type "list",dict:=none,data:=.seq #[.int m t,.int m t] c,slots:=#[]}->
  (∀t' h' tk,(∀b o,b∉wr->b≠S->s.heap.get? b=some o->h'.get? b=some o)->R (.ok (.ret (.int (RD val k j m) t'))) {s with heap:=h',toks:=tk})->
  ZQ (model prog w) A (.builtin "max.loop" ⟨[.ref I,.none,.ref S],kw⟩) R s
 | k,j,s,m,t,c,hk,hj,st,gS,fin=>by
  have nw:S∉wr:=λz=>nS (W.sub _ z)
  have nm:(zbu "max" ++ zbu ".loop" : String) = "max.loop" := by decide
  refine zaK PySem.F.entry_max_loop ?_;rw[zbp zbv _];show wpAny _ A.in1 (seqItems? (.ref S) >>= λ_=>_) _ _ s;refine XD (zcI gS rfl ?_);show wpAny _ A.in1 (tryCatch (Y2 (.ref I)) _ >>= λ_=>_) _ _ s
  match k,hk,fin with
  | 0,hk,fin=>
   have e:j=n:=by lia
   refine XD (zcK (W.done s _ _ (e ▸ st) λh1 tk same=>?_));have J:=same S _ nw gS;show wpAny _ A.in1 (zbP S (λ_=>#[]) >>= λ_=>_) _ _ _;refine XD (zbq J rfl (XD (zbo (XJ ?_))));exact fin t _ tk λb o nb G N=>(Y5 _ _ (X5 G)).trans (same b o nb N)
  | k+1,hk,fin=>
   have lt:j<n:=by lia
   refine XD (zcK (W.item j s _ _ lt st λv h1 tk pv Y same=>?_));have J:=same S _ nw gS;obtain⟨u,rfl⟩:=hv j v pv;show wpAny _ A.in1 (tryCatch (holding [.int (val j) u,.int (val j) u] (richCompare .Gt (.int (val j) u) (.int m t) >>= λ_=>_)) _ >>= λ_=>_) _ _ _;refine XD (zcK (Y1 (XD ?_)));refine richCompare_gives (op:=.Gt) (zbF _ _ u) (zbF _ _ t) PySem.F.slot_int_gt PySem.F.entry_int_gt (PySem.F.args_int_gt_2 _ _) (gives_int_gt _ _ u t) (λz=>nomatch z) ?_;refine XD (Y1 (ZT ?_));refine XD (zbo (XJ ?_));by_cases hb:val j>m
   ·rw[decide_eq_true hb]
    simp only[if_true];refine XD (zbq J rfl (XD (zbo ?_)));rw[nm];refine XJ ⟨zaL zbv _,mJ W val hv nS k (j+1) _ (val j) u _ (by lia) lt (W.frame _ _ _ Y λb bf o N=>?_) (ZS _ J rfl) λt' h2 U q=>?_⟩
    ·exact(Y5 _ _ (λz:S=b=>nS (z ▸ bf))).trans N
    ·have:=fin t' h2 U λb o nb G N=>q b o nb G ((Y5 _ _ (X5 G)).trans (same b o nb N))
     rw[RD,if_pos hb]at this;exact this
   ·rw[decide_eq_false hb]
    simp only[zaB,if_false];refine XD (zbo ?_);rw[nm];refine XJ ⟨zaL zbv _,mJ W val hv nS k (j+1) _ m t c (by lia) lt Y J λt' h2 U q=>?_⟩;have:=fin t' h2 U λb o nb G N=>q b o nb G (same b o nb N)
    rw[RD,if_neg hb]at this;exact this
end
noncomputable def rK(d:Int):List Int->Int
 | []=>d
 | x::xs=>xs.foldl (λm y=>if y>m then y else m) x
theorem xT(ns:List Int):∀(k j:Nat) (m:Int),ns.length-j=k->RD (λi=>(ns[i]?).getD 0) k j m=(ns.drop j).foldl (λm y=>if y>m then y else m) m
 | 0,j,m,h=>by
  rw[List.drop_eq_nil_iff.mpr (by lia)];rfl
 | k+1,j,m,h=>by
  have q:j<ns.length:=by lia
  rw[RD,zbS q,zbG,xT ns k (j+1) _ (by lia)];simp[q]
section
variable {X:Cx}
end
end My
namespace P
open PySem PySem.Spec PyProof.Rows L2
section
variable {X:Cx}{O:List Nat}
end
end P
namespace My
open PySem PySem.Spec PyProof.Rows L2 PySem.SeqAt
section
variable {prog:XM}{w:World}{A:XS}{E:Value->XE->Prop}{s:XE}
end
section
variable {X:Cx}{pins:List (Addr×Obj)}{σ:L2.St}{H:Hp}{s:XE}{a:Addr}{y v:V}{u r:Value}{A:XS}{E:Value->XE->Prop}
end
section
variable {X:Cx}{pins:List (Addr×Obj)}{σ:L2.St}{A:XS}{R:zag->XE->Prop}{it d:Addr}{fp:List Addr}{n:Nat}{P:Nat->Value->Prop}{St:Nat->Heap->Prop}{H2:Hp}
end
section
variable {X:Cx}
end
section
variable {X:Cx}
end
end My
namespace P
open PySem PySem.Spec PyProof.Rows L2
section
variable {X:Cx}{A:Av}{H:Hp}
end
end P
namespace My
open PySem PySem.Spec PyProof.Rows L2 PySem.SeqAt
section
variable {X:Cx}
end
end My
namespace P
open PySem PySem.Spec PyProof.Rows L2
section
variable {X:Cx}{O:List Nat}
end
section
variable {X:Cx}{O:List Nat}{e:Expr}{es:List Expr}
theorem uL(F:PD X O e f)(q:sL X O es g)(hs:isStar e=false:=by rfl):sL X O (e::es) (aB f g):=FW F q (c7 hs)
theorem NN(F:PB X O e f)(q:oG X O es g)(hs:isStar e=false:=by rfl):oG X O (e::es) (aB f g):=ET F q (c7 hs)
theorem lc(h:Len g n):Len (aB f g) (n+1):=F7 h
theorem l0:Len aJ 0:=K9
variable {x:Str}{id T:String}{g:List D->Option D}{f:Lv}{p pos:Pos}
theorem cB(N:jG X (.builtin id) g)(J:X.mg x=none)(W:YC x=some (.builtin id))(F:oG X O (e::es) f)(U:Gl X x:=by rfl)(Y:x ≠ "__name__" := by decide)(q:(x == ("__debug__" : Str))=false:=by decide)(hs:isStar e=false:=by rfl)(G:(es.all λe=>!isStar e)=true:=by rfl) :
  PD X O (.Call (.Name x p) (e::es) [] pos) (aI g f):=FG N U J W F Y q (c7 hs) (jS G)
theorem UM(N:jG X (.type T) g)(J:X.mg x=none)(W:YC x=some (.type T))(F:oG X O (e::es) f)(U:Gl X x:=by rfl)(Y:x ≠ "__name__" := by decide)(q:(x == ("__debug__" : Str))=false:=by decide)(hs:isStar e=false:=by rfl)(G:(es.all λe=>!isStar e)=true:=by rfl) :
  PD X O (.Call (.Name x p) (e::es) [] pos) (aI g f):=DG N U J W F Y q (c7 hs) (jS G)
theorem fB(N:uF X (.builtin id) g)(J:X.mg x=none)(W:YC x=some (.builtin id))(F:oG X O (e::es) f)(U:Gl X x:=by rfl)(Y:x ≠ "__name__" := by decide)(q:(x == ("__debug__" : Str))=false:=by decide)(hs:isStar e=false:=by rfl)(G:(es.all λe=>!isStar e)=true:=by rfl) :
  PF X O (.Call (.Name x p) (e::es) [] pos) (aI g f):=GP N U J W F Y q (c7 hs) (jS G)
theorem WQ(N:uF X (.type T) g)(J:X.mg x=none)(W:YC x=some (.type T))(F:oG X O (e::es) f)(U:Gl X x:=by rfl)(Y:x ≠ "__name__" := by decide)(q:(x == ("__debug__" : Str))=false:=by decide)(hs:isStar e=false:=by rfl)(G:(es.all λe=>!isStar e)=true:=by rfl) :
  PF X O (.Call (.Name x p) (e::es) [] pos) (aI g f):=DZ N U J W F Y q (c7 hs) (jS G)
theorem cD(O':Fn X.prog X.w X.K X.mg X.base x k ps F)(U:Room k X.A)(J:sL X O (e::es) f)(G:Len f ps.length)(W:Gl X x:=by rfl)(q:(x == ("__debug__" : Str))=false:=by decide)(hs:isStar e=false:=by rfl)(N:(es.all λe=>!isStar e)=true:=by rfl) :
  PD X O (.Call (.Name x p) (e::es) [] pos) (aI F f):=MJ O' U W J G q (c7 hs) (jS N)
theorem cn{L:Lp}{O1 O2 O3:List Nat}{st:Stmt}{q:List Stmt}{f g:Sv}(h:PSD X L O1 st f O2)(k:PSDs X L O2 q g O3):PSDs X L O1 (st::q) (bE f g) O3:=GL h k
end
def EL(P:XM)(w:World)(K:XF)(mg:Str->Option Value)(base:Heap)(N:List Str)(x:Str)(st:Stmt)(k:Nat)(b:Sv):Prop:=
 ∀(fa:Addr) (cdv:Value) (A:XS) (outer:List Env) (s:XE) (H:Hp) (E:XK),Room k (A.deeper (YW x (aF st) s.heap.objs.size fa cdv))->∃g,PSDs (c6 AA P w K mg base N x (aF st) fa cdv A outer s H E).nox ⟨[],[]⟩ [] (bO st) g []/\g=b
end P
namespace My
open PySem PySem.Spec PyProof.Rows L2 PySem.SeqAt
theorem args_max1(a:Value):argsOk "max" ⟨[a],[]⟩:=by unfold argsOk;kernel_rfl
section
variable {prog:XM}{w:World}{A:XS}{R:zag->XE->Prop}{I S:Addr}{fp wr:List Addr}{n:Nat}{P:Nat->Value->Prop}{St:Nat->Heap->Prop}
theorem yM(W:Walks prog w A.in1 I fp wr n P St)(val:Nat->Int)(hv:∀j v,P j v->∃t,v=.int (val j) t)(N:S∉fp)(st:St 0 s.heap)
  (gS:s.heap.get? S=some {cls:=.type "list",dict:=none,data:=.seq #[] c,slots:=#[]}) (lt:0<n)
  (fin:∀t' h' tk,(∀b o,b∉wr->b≠S->s.heap.get? b=some o->h'.get? b=some o)->R (.ok (.ret (.int (RD val (n-1) 1 (val 0)) t'))) {s with heap:=h',toks:=tk}) :
  ZQ (model prog w) A (.builtin "max.loop" ⟨[.ref I,.none,.ref S],[]⟩) R s:=by
 have nw:S∉wr:=λz=>N (W.sub _ z)
 have nm:(zbu "max" ++ zbu ".loop" : String) = "max.loop" := by decide
 refine zaK PySem.F.entry_max_loop ?_;rw[zbp zbv _];show wpAny _ A.in1 (seqItems? (.ref S) >>= λ_=>_) _ _ s;refine XD (zcI gS rfl ?_);show wpAny _ A.in1 (tryCatch (Y2 (.ref I)) _ >>= λ_=>_) _ _ s;refine XD (zcK (W.item 0 s _ _ lt st λv h1 tk pv aa same=>?_));have J:=same S _ nw gS;obtain⟨u,rfl⟩:=hv 0 v pv;show wpAny _ A.in1 (zbP S (λ_=>#[.int (val 0) u,.int (val 0) u]) >>= λ_=>_) _ _ _;refine XD (zbq J rfl ?_);rw[nm];refine XJ ⟨zaL zbv _,mJ W val hv N (n-1) 1 _ (val 0) u _ rfl lt (W.frame _ _ _ aa λb bf o U=>?_) (ZS _ J rfl) λt' h2 Y q=>?_⟩
 ·exact(Y5 _ _ (λz:S=b=>N (z ▸ bf))).trans U
 ·exact fin t' h2 Y λb o nb G U=>q b o nb G ((Y5 _ _ (X5 G)).trans (same b o nb U))
end
section
variable {X:Cx}
theorem yV(hc:X.calm=true)(I:Inv X pins σ H s)(hq:SqT X.K H p (ns.map V.int))(hn:ns≠[])(q:Q (.int (rK 0 ns)) H) :
  wpAny (model X.prog X.w) X.A (call (.builtin "max") [.ref p]) (EP X pins σ Q) X.xe s:=by
 have nm:(zbu "max" ++ zbu ".loop" : String) = "max.loop" := by decide
 obtain⟨G,r',pl,hz⟩:=I.tuple hq;have U:s.heap.IsTuple p G.toArray:=pl;obtain⟨o,ho,ae,n,hd⟩:=id U;have Y:p≠s.heap.objs.size:=YA (XO ho);have W:=Walks.tuple (prog:=X.prog) (w:=X.w) (A:=X.A.in1) (I.ok.hd hc) s.heap.objs.size p Y G.toArray;refine kmk_tree PySem.F.kind_max PySem.F.plain_max PySem.F.entry_max (args_max1 _) ?_;show wpAny _ X.A.in1 (zdx "max" ["key", "default"] 0 ⟨[],[]⟩ >>= λ_=>_) _ _ s;refine XD (zcx (show zdx "max" ["key", "default"] 0 ⟨[],[]⟩=pure [none,none]from rfl) ?_);refine XD (XJ (XD (zbz U (XD (zcF ?_ (YY _))))));rw[nm];refine XJ ⟨zaL zbv _,?_⟩;have J:=r'.length;rw[XR]at J;have sz:G.toArray.size=ns.length:=by rw[XX];exact J.symm
 have keep:∀h':Heap,(∀b o,b∉[s.heap.objs.size]->b≠(s.heap.push {cls:=.type "tuple_iterator",data:=.fields #[.ref p,.int 0 0]}).objs.size->((s.heap.push {cls:=.type "tuple_iterator",data:=.fields #[.ref p,.int 0 0]}).push (YM "list" #[] 0)).get? b=some o->h'.get? b=some o)->∀b o,s.heap.get? b=some o->h'.get? b=some o:=λh' k b o e=>by
  have lt:=XO e;refine k b o (λz=>YA lt (List.mem_singleton.mp z)) ?_ (XT _ (XT _ e));rw[size_push'];exact YA (Nat.lt_succ_of_lt lt)
 have N:0<G.toArray.size:=by
  rw[sz];exact List.length_pos_iff.mpr hn
 refine yM W (λi=>(ns[i]?).getD 0) (λi v hP=>E3 r' (by simpa using hP)) (S:=(s.heap.push {cls:=.type "tuple_iterator",data:=.fields #[.ref p,.int 0 0]}).objs.size) ?_ ?_ (X9 _ rfl) N λt' h' tk same=>?_
 ·rw[size_push']
  intro z;rcases List.mem_cons.mp z with z|z
  ·exact YS (Nat.lt_succ_self _) z
  ·exact ZN _ (zbf (Nat.lt_succ_self _) ((List.mem_singleton.mp z) ▸ XO ho))
 ·exact⟨⟨_,XT _ (X9 _ rfl),rfl,rfl⟩,U.at λo e=>XT _ (XT _ e)⟩
 ·refine⟨.int (rK 0 ns),H,I.kept (t':=tk) (keep h' same),⟨t',?_⟩,q⟩
  rw[sz];cases ns with
  | nil=>exact absurd rfl hn
  | cons x xs=>
   rw[xT (x::xs) _ 1 _ (by simp)];rfl
theorem N3(J:∀v s,¬ X.xe v s)(G:PSs X body t):PS X (.Try body (h₀::hs) [] [] pos) t:=λpins s σ H D I hw=>
 zdl (X3 (G pins s σ H D I hw) (λf F q=>by
  cases f with
  | next=>exact XJ q
  | _=>exact q) λv F z=>absurd z (J v F))
end
end My
namespace P
open PySem PySem.Spec PyProof.Rows L2
section
variable {X:Cx}{O O':List Nat}{L:Lp}
theorem BY(F:∀v s,¬ X.xe v s)(q:PSDs X L O body f O'):PSD X L O (.Try body (h₀::hs) [] [] pos) f O':=My.N3 F q
def kA:List D->Option D
 | [.tup l]=>(iE l).bind λns=>if ns=[]then none else some (.int (My.rK 0 ns))
 | _=>none
theorem LD(N:X.calm=true):jG X (.builtin "max") kA:=by
 intro pins s σ H xs W Q I r h;obtain⟨A,ds,d,Y,U,e,q⟩:=h;unfold kA at e;split at e
 ·rename_i l
  obtain⟨ns,F,e⟩:=bind_some e;split at e
  ·cases e
  ·rename_i hn
   cases e;obtain⟨v,rfl,h1⟩:=U.one;obtain⟨a,ys,rfl,h2,G⟩:=h1.tup_inv;rw[hZ F G]at h2;obtain⟨u,rfl,J⟩:=vals1 r;cases J;exact My.yV N I (.inl (.inl h2)) hn (q _ H (Ext.refl _ _) (.int _))
 ·cases e
@[simp] theorem q_max1:kA [.tup (.int n::ns.map .int)]=some (.int (My.rK 0 (n::ns))):=by
 have e:iE (.int n::ns.map .int)=some (n::ns):=mZ (n::ns);show(iE (.int n::ns.map .int)).bind _=_;rw[e];rfl
end
end P
namespace My
open PySem PySem.Spec PyProof.Rows L2
def AQ(r J U:R2)(ta tb tc td:TE):TE:=λσ H Q=>ta σ H λx H1=>tb σ H1 λy H2=>r x y H2 λz G=>∃k,z=.bl k /\
 (if k=true then tc σ G λq Y=>J y q Y λW F=>∃k2,W=.bl k2/\(if k2=true then td σ F λu N=>U q u N Q else Q (.bl false) F)else Q (.bl false) G)
theorem C5(ho:OpR X (XY op) r)(N:OpR X (XY op') r')(q:OpR X (XY op3) F)(ha:PE X a ta)(hb:PE X b tb)(hc:PE X c tc)(hd:PE X d td)
  (hm:za6 [op,op',op3] [b,c,d]=false:=by with_unfolding_all rfl):PT X (.Compare a [op,op',op3] [b,c,d] pos) (IQ (AQ r r' F ta tb tc td)):=by
 intro pins s σ H Q I h;refine isTrue_chain (bX (ha pins s σ H _ I h) λv s1 ⟨x,H1,I1,r1,q1⟩=>test_link (bX (hb pins s1 σ H1 _ I1 q1) λu s2 ⟨y,H2,I2,r2,q2⟩=>
  bX (ho pins s2 σ H2 x y v u _ I2 r1 r2 q2) λd s3 ⟨z,H3,U,F,k,e,q3⟩=>?_)) hm
 subst e;cases F;refine ZT ?_;cases k with
 | false=>
  obtain⟨k',G,J⟩:=q3;cases G;exact ite_ff ⟨H3,U,J⟩
 | true=>
  refine ite_tt (test_link (bX (hc pins s3 σ H3 _ U q3) λw' s4 ⟨Y,H4,I4,r4,q4⟩=>bX (N pins s4 σ H4 y Y u w' _ I4 r2 r4 q4) λd2 s5 ⟨z2,H5,W,r5,k2,e2,q5⟩=>?_));subst e2;cases r5;refine ZT ?_;cases k2 with
  | false=>
   obtain⟨k',G,J⟩:=q5;cases G;exact ite_ff ⟨H5,W,J⟩
  | true=>
   refine ite_tt (test_last (bX (hd pins s5 σ H5 _ W q5) λw2 s6 ⟨z',H6,I6,r6,q6⟩=>bX (q pins s6 σ H6 Y z' w' w2 _ I6 r4 r6 q6) λd' s7 ⟨z3,H7,I7,r7,k3,e3,q7⟩=>?_));subst e3;cases r7;exact ZT ⟨H7,I7,q7⟩
end My
namespace P
open PySem PySem.Spec PyProof.Rows L2
section
variable {X:Cx}{O:List Nat}
def bW(g g' N:D->D->Option D)(J q F fd:Ev):Ev:=λρ=>(J ρ).bind λx=>(q ρ).bind λy=>(g x y).bind λz=>(AB z).bind λb=>if b=true then(F ρ).bind λw=>(g' y w).bind λG=>(AB G).bind λb2=>if b2=true then(fd ρ).bind λu=>N w u else some (.bl false)else some (.bl false)
@[simp] theorem q_chain3:bW g g' g3 fa fb fc fd ρ=(fa ρ).bind λx=>(fb ρ).bind λy=>(g x y).bind λz=>(AB z).bind λb=>if b=true then(fc ρ).bind λw=>(g' y w).bind λq=>(AB q).bind λb2=>if b2=true then(fd ρ).bind λu=>g3 w u else some (.bl false)else some (.bl false):=rfl
theorem zD(h:tD Rep O (bW g g' g3 fa fb fc fd) σ H Q):My.AQ (rD g) (rD g') (rD g3) (tD RepB O fa) (tD RepB O fb) (tD RepB O fc) (tD RepB O fd) σ H Q:=by
 obtain⟨H0,A0,A,E,ρ,d,st,e,q⟩:=h;obtain⟨x,ex,e⟩:=bind_some e;obtain⟨y,ey,e⟩:=bind_some e;obtain⟨z,ez,e⟩:=bind_some e;obtain⟨b,eb,e⟩:=bind_some e;rw[gT eb]at ez;refine⟨H0,A0,A,E,ρ,x,st,ex,λv H1 U r1=>⟨H0,A0,A,E,ρ,y,st.mono U,ey,λw H2 W r2=>⟨A,x,y,_,(st.mono (U.trans W)).live,r1.ext W,r2,ez,λz H3 x3 r3=>⟨b,RepB.bl_inv (.of r3),?_⟩⟩⟩⟩;have G:=(U.trans W).trans x3;cases b with
 | false=>rw[if_neg XZ]at e ⊢;cases e;exact q _ H3 G (.bl _)
 | true=>
  rw[if_pos rfl]at e ⊢;obtain⟨u,eu,e⟩:=bind_some e;obtain⟨z2,J,e⟩:=bind_some e;obtain⟨b2,Y,e⟩:=bind_some e;rw[gT Y]at J;refine⟨H0,A0,A,E,ρ,u,st.mono G,eu,λz' H4 x4 r4=>⟨A,y,u,_,(st.mono (G.trans x4)).live,r2.ext (x3.trans x4),r4,J,λz2 H5 x5 r5=>⟨b2,RepB.bl_inv (.of r5),?_⟩⟩⟩;have F:=(G.trans x4).trans x5;cases b2 with
  | false=>rw[if_neg XZ]at e ⊢;cases e;exact q _ H5 F (.bl _)
  | true=>
   rw[if_pos rfl]at e ⊢;obtain⟨t,et,e⟩:=bind_some e;exact⟨H0,A0,A,E,ρ,t,st.mono F,et,λz6 H6 N r6=>⟨A,u,t,d,(st.mono (F.trans N)).live,r4.ext (x5.trans N),r6,e,λz7 H7 x7 r7=>q z7 H7 ((F.trans N).trans x7) r7⟩⟩
theorem y6(W:jK X (XY op) g)(q:jK X (XY op') g')(F:jK X (XY op3) g3)(N:PB X O a fa)(J:PB X O b fb)(Y:PB X O c fc)(G:PB X O d fd)
  (U:za6 [op,op',op3] [b,c,d]=false:=by with_unfolding_all rfl):rO X O (.Compare a [op,op',op3] [b,c,d] pos) (bZ (bW g g' g3 fa fb fc fd)):=PT.mono (My.C5 W q F N J Y G U) λσ H Q h=>zD (i4 h)
end
end P
namespace My
open PySem PySem.Spec PyProof.Rows L2
def QZ(i j:Int):Prop:=(-(10^250*10^250)<i/\i<10^250*10^250)/\-(10^250*10^250)<j/\j<10^250*10^250
theorem xX(h1:-(10^250*10^250)<i)(h2:i<10^250*10^250):Builtin.Int.intBits i<=2^20:=by
 have h:i.natAbs<10^250*10^250:=by lia
 have e:(10:Nat)^250*10^250<=2^(4*250+4*250):=by
  rw[Nat.pow_add,Nat.pow_mul];have:(10:Nat)^250<=(2^4)^250:=Nat.pow_le_pow_left (by decide) 250;exact Nat.mul_le_mul this this
 exact Y0 (PyProof.Rows.intBits_le (YZ h e)) (by decide)
end My
namespace P
open PySem PySem.Spec PyProof.Rows L2
instance:∀i j,Decidable (My.QZ i j):=λi j=>by unfold My.QZ;infer_instance
end P
namespace My
open PySem PySem.Spec PyProof.Rows L2 PySem.SeqAt
section
variable {X:Cx}
end
end My
namespace P
open PySem PySem.Spec PyProof.Rows L2
section
variable {X:Cx}{O Oi:List Nat}
end
end P
namespace My
open PySem PySem.Spec PySem.Calls PySem.W PySem.Builtin PySem.Builtin.ObjectAttr PySem.Builtin.Getset_descriptor
section
variable {prog:XM}{w:World}{A:XS}{E:Value->XE->Prop}{h:Heap}{g:Array GenState}{d:Drawn}{t:Nat}{os:OsState}{a C:Addr}{o:Obj}{K:Frag}
structure ExcK(K:Frag)(C:Addr):Prop where
 ga:findIn K (.ref C) "__getattribute__" = some (some (.builtin "BaseException.__getattribute__"))
 gt:findIn K (.ref C) "__getattr__" = some none
 cl:findIn K (.ref C) "__class__" = some (some (.builtin "object.__class__"))
 ob:subIn K (.ref C) (.type "object")=some true
 be:subIn K (.ref C) (.type "BaseException")=some true
 ty:typeIn K (.ref C)=some (.type "type")
 is:(clsIn K C).isSome=true
 gg:specialIn K (.builtin "object.__class__") "__get__" = some (some (.builtin "getset_descriptor.__get__"))
 tk:takesIn K (.builtin "object.__class__")=some true
theorem E5{M:Model}(X:K.In h)(k:ExcK K C):Looks M h (find (.ref a) (.ref C) "__class__") (.bind (.builtin "getset_descriptor.__get__") (.builtin "object.__class__")):=by
 have G:=looks_findIn (M:=M) X k.cl;have F:Looks M h (getOf (some (.builtin "object.__class__"))) (some (.builtin "getset_descriptor.__get__")):=looks_specialIn X k.gg;have q:=looks_takesIn (M:=M) X k.tk;refine G.andThen (F.andThen (Looks.andThen (a:=some (.builtin "getset_descriptor.__get__",.builtin "object.__class__")) ?_ (Looks.tag .now)));exact q.andThen .now
theorem sF{R:zag->XE->Prop}{tp:Value}(X:K.In h)(k:ExcK K C)(q:h.get? a=some o)(F:o.cls=.ref C)(G:R (.ok (.ret (.ref C))) ⟨h,g,d,t,os⟩) :
  ZQ (model prog w) A (.call (.builtin "getset_descriptor.__get__") ⟨[.builtin "object.__class__",.ref a,tp],[]⟩) R ⟨h,g,d,t,os⟩:=by
 have N:Looks (model prog w) h (zao (.ref a)) (.ref C):=F ▸ (Looks.ld q).andThen .now;have J:=looks_subIn (M:=model prog w) X k.ob;refine codeAny_call_builtin KF.slot_gs.plain KF.entry_gs (KF.slot_gs.check _ _ _ _ _ _ _ _ KF.type_class (KF.args_gs _ _ _) ?_);unfold ZL.«getset_descriptor.__get__» descrGet;rw[dga_obj];refine XD (XJ ?_);unfold descrGetter descrCheckInstance descrNameAndClass isInstance;simp only[KF.owner_class]
 repeat lk
 refine⟨Code.quiet_builtin _ (by decide +kernel),zaK KF.entry_class ?_⟩;unfold ZL.«object.__class__» shownTypeOf
 repeat lk
 exact G
theorem D3{tk:Tok}{Q:Fin->XE->Prop}(X:K.In h)(k:ExcK K C)(q:h.get? a=some o)(F:o.cls=.ref C)(N:Q (.done (.ret (.ref C))) ⟨h,g,d,t,os⟩) :
  wpAny (model prog w) A (ZL.«object.__getattribute__» ⟨[.ref a,.str "__class__" tk],[]⟩) Q E ⟨h,g,d,t,os⟩:=by
 have J:Looks (model prog w) h (zao (.ref a)) (.ref C):=F ▸ (Looks.ld q).andThen .now;have G:=E5 (M:=model prog w) (a:=a) X k
 repeat (any_goals (first|assumption|with_reducible refine Looks.at J ?_|with_reducible refine Looks.at G ?_|wp_step))
 refine sF X k q F ?_
 repeat (any_goals (first|assumption|wp_step))
theorem CW{M:Model}{q:Value}{Q:Unit->XE->Prop}(X:K.In h)(k:ExcK K C)(J:h.get? a=some o)(N:o.cls=.ref C)(Y:Q () ⟨h,g,d,t,os⟩):wpAny M A (checkBuiltinCall "BaseException.__getattribute__" ⟨[.ref a,q],[]⟩) Q E ⟨h,g,d,t,os⟩:=by
 have W:builtinKind "BaseException.__getattribute__" = some .slot:=by decide +kernel
 have G:splitId "BaseException.__getattribute__" = some ("BaseException", "__getattribute__"):=by decide +kernel
 have ha:=F.args_bexc_ga (.ref a) q;have L0:Looks M h (zao (.ref a)) (.ref C):=N ▸ (Looks.ld J).andThen .now;have U:=looks_subIn (M:=M) X k.be;simp only[checkBuiltinCall,W,G];refine XD ?_;unfold isInstance
 repeat (first|with_reducible refine Looks.at L0 ?_|with_reducible refine Looks.at U ?_|wp_step)
 exact Y
theorem FF{tk:Tok}{R:zag->XE->Prop}{B:String}{q:List Value}(N:zcL B q)(X:K.In h)(k:ExcK K C)(G:h.get? a=some o)(J:o.cls=.ref C)(U:R (.ok (.ret (.ref C))) ⟨h,g,d,t,os⟩) :
  ZQ (model prog w) A (.call (.builtin "BaseException.__getattribute__") ⟨[.ref a,.str "__class__" tk],[]⟩) R ⟨h,g,d,t,os⟩:=
 codeAny_call_builtin N.ga.plain F.entry_bexc_ga (CW X k G J (D3 X k G J U))
theorem PC{tk:Tok}{F q:Bool}{Q:Value->XE->Prop}{B:String}{J:List Value}(N:zcL B J)(X:K.In h)(k:ExcK K C)(U:h.get? a=some o)(W:o.cls=.ref C)(hq:Q (.ref C) ⟨h,g,d,t,os⟩) :
  wpAny (model prog w) A (getAttrBy (.ref a) (.str "__class__" tk) F q) Q E ⟨h,g,d,t,os⟩:=by
 have f3:=N.ga.bind (.ref a);have ad:(q && onTheHeap (zbT "BaseException.__getattribute__"))=false:=by cases q <;> rfl
 have G:(zbT "BaseException.__getattribute__" == zbT "object.__getattribute__")=false:=by decide +kernel
 have Y:(onTheHeap (XN C) && zbT "BaseException.__getattribute__" == zbT "object.__getattribute__")=false:=by rw[G];rfl
 have L0:Looks (model prog w) h (zao (.ref a)) (.ref C):=W ▸ (Looks.ld U).andThen .now;have L1:=looks_findIn (M:=model prog w) X k.ga;have L2:=looks_findIn (M:=model prog w) X k.gt
 repeat (any_goals (first|assumption|with_reducible refine Looks.at L0 ?_|with_reducible refine Looks.at L1 ?_|with_reducible refine Looks.at L2 ?_|wp_step))
 refine FF N X k U W ?_
 repeat (any_goals (first|assumption|wp_step))
theorem GN{Q:Option Value->XE->Prop}{B:String}{q:List Value}(F:zcL B q)(X:K.In h)(k:ExcK K C)(G:h.get? a=some o)(J:o.cls=.ref C)(N:Q (some (.ref C)) ⟨h,g,d,t+1,os⟩) :
  wpAny (model prog w) A (getAttr? (.ref a) "__class__") Q E ⟨h,g,d,t,os⟩:=by
 unfold getAttr? getAttrBy?
 repeat (any_goals (first|assumption|with_reducible apply PC F X k G J|wp_step))
theorem x8{B:String}{U:List Value}(FB:zcL B U)(k:ExcK K C):KitX K (.ref a) (.ref C) (λh=>∃o,h.get? a=some o/\o.cls=.ref C) where
 ty:=λM h X ⟨o,J,N⟩=>N ▸ (Looks.ld J).andThen .now
 it:=λ_ _ X _=>by
  obtain⟨G,F⟩:=Option.isSome_iff_exists.mp k.is;unfold clsIn at F;split at F
  ·rename_i c' d' cd' sl' ho
   intro A' Q' E' s' Y q;unfold isType loadHead;exact XD (wpAny_loadPart (Y _ _ (X _ _ ho)) (XJ q))
  ·cases F
 ne:=λh tp dd ab n sl X W=>by
  obtain⟨G,F⟩:=Option.isSome_iff_exists.mp k.is;refine Bool.eq_false_iff.mpr λq=>?_
  have e:C=tp:=Value.ref.inj (beq_iff_eq.mp q);subst e;unfold clsIn at F;split at F
  ·rename_i c' d' cd' sl' ho
   have z:=(X _ _ ho).symm.trans W;cases z
  ·cases F
 ca:=λ{_ _ _ _ _ s} X p q=>by
  obtain⟨o,J,N⟩:=p;obtain⟨h,g,d,t,os⟩:=s;exact GN FB X k J N q
end
end My
namespace My
open PySem PySem.Spec
def g5(h:Heap)(e:Addr):Prop:=∃oe vs,h.get? e=some oe/\oe.data=.fields vs/\vs[2]?=some .none
section
variable {M:Model}{A:XS}{E:Value->XE->Prop}{s:XE}{base:Heap}{env:Env}{outer:List Env}{L e:Addr}{cls a0:Value}{Q:Unit->XE->Prop}
theorem tR{oe:Obj}{vs:Array Value}{F:Value}{hn:Bool}(aa:A.frames=some (env::outer))(U:s.heap.FunFrames base (env::outer))(hf:env.frame=some L)
  (he:s.heap.get? e=some oe) (ac:base.StaysIn s.heap) (af:base.get? e=none) (N:oe.data=.fields vs) (hsz:1<vs.size) (h0:vs[0]?=some a0)
  (h:∀h',Heap.NotedW base (env::outer) e oe.cls a0 (YD L) s.heap h'->(vs[2]?=some .none->g5 h' e)->Q () {s with heap:=h'}) :
  wpAny M A (do let a <- frameOf env;let J <- entryPlaceOf L hn;let b <- EntryCells.newEntry F a .none (YD L) .none J;zaJ (.ref e) 1 b) Q E s:=by
 have ne:e∉(env::outer).filterMap (·.frame):=λhm=>by
  obtain⟨_,o,ho,G⟩:=U.mem hm;rw[he]at ho;cases ho;exact G vs N
 have nr:∀b o,s.heap.get? b=some o->(∀ws,o.data≠.fields ws)->b≠e:=λb o hb G z=>by
  subst z;rw[he]at hb;cases hb;exact G vs N
 refine XD (wpAny_frameOf_fun aa U hf λh1 W=>XD (wpAny_entryPlaceOf λJ ab=>?_));unfold EntryCells.newEntry newFields;refine XD (ZD ?_ (ab.sizeOk5 _ _ _ _ _));have Y:h1.get? e=some oe:=(W.2.1 e ne).trans he;have b1:base.StaysIn h1:=λb o q=>(W.2.1 b λhm=>by rw[(U.mem hm).1]at q;cases q).trans (ac b o q)
 have nT:h1.objs.size≠e:=YS (XO Y);refine Z9 (XT _ Y) N hsz ?_;generalize ht:({cls:=.type "traceback",dict:=none,data:=.fields ([F,.ref L,.none,YD L,.none]++(if J.isEmpty then YE 6 X4 else J)).toArray}:Obj)=tb;have ae:tb.data=.fields ([F,.ref L,.none,YD L,.none]++(if J.isEmpty then YE 6 X4 else J)).toArray:=by rw[<- ht]
 have d3:=zap N (·.setIfInBounds 1 (XN h1.objs.size));have e3:=ZS (ZG (·.setIfInBounds 1 (XN h1.objs.size))) (XT (h:=h1) tb Y) (zaY d3);have t3:((h1.push tb).update e (ZG (·.setIfInBounds 1 (XN h1.objs.size)))).get? h1.objs.size=some tb:=
  (Y5 _ _ (X5 nT)).trans (X9 h1 (by rw[<- ht];rfl))
 have kp:∀b o,b≠e->h1.get? b=some o->((h1.push tb).update e (ZG (·.setIfInBounds 1 (XN h1.objs.size)))).get? b=some o:=λb o z q=>
  (Y5 _ _ (X5 z)).trans (XT _ q)
 refine h _ ⟨λb o q=>kp b o (λz=>by rw[z,af]at q;cases q) (b1 b o q),U.of_keeps λb o q G=>?_,?_,λb o q G=>?_⟩ λh2=>⟨_,_,e3,d3,by rw[zdy (by decide)];exact h2⟩
 ·obtain⟨sl,z⟩:=W.2.2 b o q
  exact⟨_,kp b _ (nr b o q G) z,rfl⟩
 ·exact⟨_,_,h1.objs.size,tb,_,e3,⟨zdg _ _,by rw[zdy (by decide)];exact h0⟩,d3,by simp[hsz],b1.fresh,nT,t3,ae,by simp⟩
 ·obtain⟨sl,z⟩:=W.2.2 b o q
  exact⟨sl,kp b _ (nr b o q G) z⟩
theorem AI(ab:A.frames=some (env::outer))(hf:env.frame=some L)(af:Z3 base (env::outer) e cls a0 s.heap)
  (hQ:∀h',ZW base (env::outer) e cls a0 L h'->(g5 s.heap e->g5 h' e)->s.heap.UpToSlots h'->Q () {s with heap:=h'}):wpAny M A (zaX (.ref e) env) Q E s:=by
 obtain⟨ad,U,hl,oe,vs,T,oT,ts,he,⟨W,h0⟩,hd,h1,ac,ae,hT,J,h3⟩:=af;subst W;unfold zaX;simp only[hf];refine XD (YI he hd h1 ?_);rw[if_pos (show(XN T != X4)=true from by simp)];refine XD (YI hT J h3 ?_);rw[if_neg (show ¬ ((X4 == YD L)=true)from by simp[YD])];refine XD (Z9 hT J (Array.getElem?_eq_some_iff.mp h3).1 ?_);have Y:∀b,b≠T->(s.heap.update T (ZG (·.setIfInBounds 3 X4))).get? b=s.heap.get? b:=λb G=>Y5 _ _ (X5 G)
 have nr:∀b o,s.heap.get? b=some o->(∀vs,o.data≠.fields vs)->b≠T:=λb o G F q=>by
  subst q;rw[hT]at G;cases G;exact F ts J
 refine tR ab (hl.of_keeps λb o G F=>⟨o,(Y b (nr b o G F)).trans G,rfl⟩) hf ((Y e (X5 ae)).trans he)
  (λb o N=>(Y b λq=>by rw[q,ac]at N;cases N).trans (ad b o N)) U hd (Array.getElem?_eq_some_iff.mp h1).1 h0
  λh' ⟨x1,x2,x3,x4⟩ x5=>hQ h' ⟨x1,U,x2,x3⟩ (λ⟨o',ws,q1,q2,q3⟩=>x5 (by rw[he]at q1;cases q1;rw[hd]at q2;cases q2;exact q3)) λb o G F=>x4 b o ((Y b (nr b o G F)).trans G) F
theorem oU{oe:Obj}{vs:Array Value}(G:A.frames=some (env::outer))(Y:s.heap.FunFrames base (env::outer))(J:env.frame=some L)
  (U:s.heap.get? e=some oe) (F:base.StaysIn s.heap) (q:base.get? e=none) (N:oe.data=.fields vs) (h1:vs[1]?=some .none) (h0:vs[0]?=some a0)
  (hQ:∀h',ZW base (env::outer) e oe.cls a0 L h'->(vs[2]?=some .none->g5 h' e)->s.heap.UpToSlots h'->Q () {s with heap:=h'}):wpAny M A (zaX (.ref e) env) Q E s:=by
 unfold zaX;simp only[J];refine XD (YI U N h1 ?_);rw[if_neg (by decide)];exact tR G Y J U F q N (Array.getElem?_eq_some_iff.mp h1).1 h0 λh' ⟨W,x2,x3,x4⟩ x5=>hQ h' ⟨W,q,x2,x3⟩ x5 x4
theorem iA{l:List Env}{fl:Value}{fo:Option Addr}(ab:base.StaysIn s.heap)(an:base.get? e=none)(hl:s.heap.FunFrames base l)(ht:s.heap.TracedAtW base e cls a0 fl)
  (hQ:∀h',base.StaysIn h'->h'.FunFrames base l->h'.TracedAtW base e cls a0 (fo.elim X4 λf=>YD f)->(g5 s.heap e->g5 h' e)->s.heap.UpToSlots h'->Q () {s with heap:=h'}) :
  wpAny M A (za1 (.ref e) fo) Q E s:=by
 obtain⟨oe,vs,T,oT,ts,he,aa,hd,h1,W,N,hT,J,h3⟩:=ht;have z3:3<ts.size:=(Array.getElem?_eq_some_iff.mp h3).1;have Y:∀b,b≠T->(s.heap.update T (ZG (·.setIfInBounds 3 (fo.elim X4 λf=>YD f)))).get? b=s.heap.get? b:=λb G=>Y5 _ _ (X5 G)
 have nr:∀b o,s.heap.get? b=some o->(∀vs,o.data≠.fields vs)->b≠T:=λb o G F q=>by
  subst q;rw[hT]at G;cases G;exact F ts J
 unfold za1;refine XD (YI he hd h1 ?_);rw[if_pos (show(XN T != X4)=true from by simp)];refine Z9 hT J z3 (hQ _ (λb o U=>(Y b λq=>by rw[q,W]at U;cases U).trans (ab b o U)) (hl.of_keeps λb o G F=>⟨o,(Y b (nr b o G F)).trans G,rfl⟩) ?_ (λ⟨o',ws,q1,q2,q3⟩=>⟨o',ws,(Y e (X5 N)).trans q1,q2,q3⟩) λb o G F=>⟨o.slots,(Y b (nr b o G F)).trans G⟩);exact⟨oe,vs,T,_,_,(Y e (X5 N)).trans he,aa,hd,h1,W,N,ZS _ hT (zaY (zap J _)),zap J _,by simp[z3]⟩
theorem lands{l:List Env}(q:ZW base l e cls a0 L s.heap)(F:∀h',Z3 base l e cls a0 h'->(g5 s.heap e->g5 h' e)->s.heap.UpToSlots h'->Q () {s with heap:=h'}):wpAny M A (za1 (.ref e) none) Q E s:=
 iA q.1 q.2.1 q.2.2.1 q.2.2.2 λh' a b c d f=>F h' ⟨a,q.2.1,b,c⟩ d f
theorem OC{l:List Env}(q:Z3 base l e cls a0 s.heap)(F:∀h',Z3 base l e cls a0 h'->(g5 s.heap e->g5 h' e)->s.heap.UpToSlots h'->Q () {s with heap:=h'}):wpAny M A (za1 (.ref e) none) Q E s:=
 iA q.1 q.2.1 q.2.2.1 q.2.2.2.at λh' a b c d f=>F h' ⟨a,q.2.1,b,c⟩ d f
theorem qE{h:Heap}(x:Z3 base (env::outer) e cls a0 h):Z3 base outer e cls a0 h:=⟨x.1,x.2.1,x.2.2.1.2.2,x.2.2.2⟩
theorem EW(F:A.frames=some (env::outer))(J:env.frame=some L)(G:Z3 base (env::outer) e cls a0 s.heap)
  (N:∀h',Z3 base outer e cls a0 h'->(g5 s.heap e->g5 h' e)->s.heap.UpToSlots h'->Q () {s with heap:=h'}):wpAny M A (zaS env (.ref e)) Q E s:=by
 unfold zaS;exact XD (AI F J G λh1 U k1 W=>lands U λh2 q k2 Y=>N h2 (qE q) (λz=>k2 (k1 z)) (W.trans Y))
theorem leave_held(G:env.frame=some L)(F:ZW base (env::outer) e cls a0 L s.heap)(J:∀h',Z3 base outer e cls a0 h'->(g5 s.heap e->g5 h' e)->s.heap.UpToSlots h'->Q () {s with heap:=h'}):wpAny M A (zaS env (.ref e)) Q E s:=by
 unfold zaS;exact XD (wpAny_noteFrame_againW G F.2.2.2 (lands F λh2 q k2 N=>J h2 (qE q) k2 N))
theorem y8{h:Heap}{args:List Value}(U:A.frames=some (env::outer))(hf:env.frame=some L)(F:base.StaysIn h)(W:h.FunFrames base (env::outer))(G:zbU h s.heap e cls args)
  (hQ:∀h' t,Z3 base outer e cls (.ref t) h'->g5 h' e->s.heap.UpToSlots h'->Q () {s with heap:=h'}):wpAny M A (zaS env (.ref e)) Q E s:=by
 obtain⟨t,Y,af,ht⟩:=G.there;have fr:base.get? e=none:=by
  cases q:base.get? e with
  | none=>rfl
  | some o=>have:=F e o q;rw[G.new]at this;cases this
 unfold zaS;exact XD (oU (a0:=.ref t) U (W.of_keeps λb o N _=>⟨o,G.keeps b o N,rfl⟩) hf Y (λb o N=>G.keeps b o (F b o N)) fr rfl rfl rfl λh1 hh k1 u1=>lands hh λh2 J k2 u2=>hQ h2 t (qE J) (k2 (k1 rfl)) (u1.trans u2))
end
end My
namespace My
open PySem PySem.Spec PyProof.Rows L2 PySem.SeqAt
structure Fly(l:List Env)(fs:List Addr)(h1:Heap)(e C:Addr)(c:Option Addr)(h:Heap):Prop where
 fly:∃B a0,(∀b o,h1.get? b=some o->b∉fs->B.get? b=some o)/\Z3 B l e (.ref C) a0 h
 up:h1.UpToSlots h
 fsd:∀b∈fs,∀o,h1.get? b=some o->∀vs,o.data≠.fields vs
 new:h1.get? e=none
 cx:c=none->g5 h e
section
variable {l:List Env}{fs fr:List Addr}{h0 h1 h:Heap}{e C:Addr}{c:Option Addr}{H H1:Hp}{P:XM}{w:World}
theorem Fly.keep(f:Fly l fs h1 e C c h){b:Addr}{o:Obj}(q:h1.get? b=some o)(n:b∉fs):h.get? b=some o:=by
 obtain⟨B,a0,k,fl⟩:=f.fly;exact fl.1 b o (k b o q n)
theorem Fly.any(f:Fly l fs h1 e C c h){b:Addr}{o:Obj}(q:h1.get? b=some o):∃F,h.get? b=some {o with slots:=F}:=by
 by_cases z:b∈fs
 ·exact f.up b o q (f.fsd b z o q)
 ·exact⟨o.slots,f.keep q z⟩
theorem Fly.un(f:Fly l fs h1 e C c h)(u:Un fr [] H H1 h0 h1)(N:∀b∈fs,b∈fr\/h0.get? b=none):Un fr [] H H1 h0 h where
 keep:=λb o q n G F=>f.keep (u.keep b o q n G F) λz=>(N b z).elim G λr=>by rw[r]at q;cases q
 slot:=λb o q n G F=>by
  obtain⟨W,r⟩:=u.slot b o q n G F;obtain⟨U,J⟩:=f.any r;exact⟨U,J⟩
 free:=u.free
 there:=λb o q F=>by
  obtain⟨o',r⟩:=u.there b o q F;obtain⟨W,J⟩:=f.any r;exact⟨_,J⟩
 tups:=u.tups
 frzs:=u.frzs
 tbls:=u.tbls
theorem Fly.hok(f:Fly l fs h1 e C c h)(x:HOk P w H1 h1)(G:∀b∈fs,H1 b=none):HOk P w H1 h:=λa o q=>(x a o q).stay (λb u F r=>f.keep r λz=>by
  have:=G b z;rcases F with F|F
  ·subst F;rw[q]at this;cases this
  ·rw[F]at this;cases this) (λ_ r=>r) λ_ _ r=>r
theorem wJ{a:Addr}{o:HO}(x:ObjOk P w H h a o):∃u,h.get? a=some u:=by
 cases o with
 | lst xs=>obtain⟨_,_,_,_,e⟩:=x;exact⟨_,e⟩
 | tup xs=>obtain⟨_,_,_,o,e,_⟩:=x;exact⟨_,e⟩
 | dK kvs=>obtain⟨_,_,_,_,o,_,_,e,_⟩:=x;exact⟨_,e⟩
 | dT kvs=>obtain⟨_,_,_,_,o,_,_,e,_⟩:=x;exact⟨_,e⟩
 | set S n=>obtain⟨o,_,_,_,e,_⟩:=x;exact⟨_,e⟩
 | ins C dx fs=>obtain⟨_,_,_,e,_⟩:=x;exact⟨_,e⟩
 | own y=>obtain⟨_,e⟩:=x;exact⟨_,e⟩
 | xd fs=>obtain⟨_,⟨_,_,_,e,_⟩,_⟩:=x;exact⟨_,e⟩
 | rng lo hi=>obtain⟨_,_,_,e⟩:=x;exact⟨_,e⟩
 | frz ob u=>obtain⟨e,_⟩:=x;exact⟨_,e⟩
 | tbl ps=>exact⟨_,(show h.get? a=some _ from x)⟩
 | met f y=>exact⟨_,(show h.get? a=some _ from x)⟩
 | ext φ=>obtain⟨_,⟨_,e⟩,_⟩:=x;exact⟨_,e⟩
theorem Fly.fresh(f:Fly l fs h1 e C c h)(x:HOk P w H1 h1):H1 e=none:=by
 cases q:H1 e with
 | none=>rfl
 | some o=>
  obtain⟨u,r⟩:=wJ (x e o q);rw[f.new]at r;cases r
end
def rQ(P:XM)(w:World):CC:=λouter H s E e s'=>∃ea C H1 h1 fs c,e=XN ea/\s'.os=s.os/\zae s'.gens/\Un (frs outer) [] H H1 s.heap h1/\HOk P w H1 h1/\(∀b∈fs,H1 b=none)/\(∀b∈fs,b∈frs outer\/s.heap.get? b=none)/\Fly outer fs h1 ea C c s'.heap/\E (.ref C) c H1
theorem uO{P:XM}{w:World}{K:XF}{mg:Str->Option Value}{base:Heap}{N:List Str}{F:Str}{scope:Scope}{U:Addr}{G:Value}{A:XS}{outer:List Env}{s:XE}{H:Hp}{E:XK}{pins:List (Addr×Obj)}{σ:L2.St}{H1:Hp}{J:XE}{h':Heap}{ea C:Addr}{vs:List Value}
  (I:Inv (c6 (rQ P w) P w K mg base N F scope U G A outer s H E) pins σ H1 J) (hx:zbU J.heap h' ea (.ref C) vs) (hE:E (.ref C) none H1) :
  (c6 (rQ P w) P w K mg base N F scope U G A outer s H E).xe (.ref ea) {J with heap:=h'}:=by
 have ac:=PySem.W.funFrames_hide (as:=frs (c6 (rQ P w) P w K mg base N F scope U G A outer s H E).stack) I.stack λenv he a hf=>List.mem_filterMap.mpr ⟨env,he,hf⟩
 refine y8 (base:=zaQ J.heap (frs (c6 (rQ P w) P w K mg base N F scope U G A outer s H E).stack)) (h:=J.heap) I.ok.frames rfl (λb o e=>zb3 _ e) ac hx λh2 t fl ln up=>?_
 refine⟨ea,C,H1,J.heap,frs (c6 (rQ P w) P w K mg base N F scope U G A outer s H E).stack,none,rfl,I.os,I.bare,I.base,I.hok,I.stkFree,λb hb=>?_,⟨⟨_,_,λb o q n=>zcT _ q n,fl⟩,(Heap.UpToSlots.of_keeps hx.keeps).trans up,λb hb o q ab=>?_,hx.new,λ_=>ln⟩,hE⟩
 ·rcases List.mem_cons.mp (show b∈s.heap.objs.size::frs outer from hb)with e|e
  ·exact .inr (zb5 (zcq e.symm))
  ·exact .inl e
 ·obtain⟨_,o',Y,hd⟩:=I.stack.mem hb
  rw[q]at Y;cases Y;exact hd ab
theorem yQ{P:XM}{w:World}{K:XF}{mg:Str->Option Value}{base:Heap}{N:List Str}{J:Str}{scope:Scope}{fa:Addr}{U:Value}{A:XS}{outer:List Env}{s:XE}{H:Hp}{E E':XK}{pins:List (Addr×Obj)}{σ:L2.St}{H1:Hp}{s1 s':XE}{e:Value}
  (I:Inv (c6 (rQ P w) P w K mg base N J scope fa U A outer s H E) pins σ H1 s1) (G:rQ P w (c6 (rQ P w) P w K mg base N J scope fa U A outer s H E).stack H1 s1 E' e s') (hE:∀v c H2,E' v c H2->E v c H2) :
  (c6 (rQ P w) P w K mg base N J scope fa U A outer s H E).xe e s':=by
 obtain⟨ea,C,H2,h1,fs,c,rfl,os,Y,un,hok,hf,af,fl,ab⟩:=G;obtain⟨B,a0,kB,fw⟩:=id fl.fly;have F:=I.base;have noL:∀b o,s.heap.get? b=some o->b≠s.heap.objs.size:=λb o q=>YA (XO q)
 have oJ:∀b,b∈frs (c6 (rQ P w) P w K mg base N J scope fa U A outer s H E).stack->b=s.heap.objs.size\/b∈frs outer:=λb W=>List.mem_cons.mp (show b∈s.heap.objs.size::frs outer from W)
 refine EW I.ok.frames rfl fw λh2 ad ln sm=>?_
 refine⟨ea,C,H2,h1,fs,c,rfl,os.trans I.os,Y,⟨λb o q n W G=>?_,λb o q n W G=>?_,λb o q n G=>?_,λb o q G=>?_,λb xs q=>un.tups b xs (F.tups b xs q),λb o u q=>un.frzs b o u (F.frzs b o u q),λb ps q=>?_⟩,hok,hf,λb W=>?_,⟨⟨B,a0,kB,ad⟩,fl.up.trans sm,fl.fsd,fl.new,λz=>ln (fl.cx z)⟩,hE _ _ _ ab⟩
 ·exact un.keep b o (F.keep b o q n W G) (F.free b o q n G) (λz=>(oJ b z).elim (noL b o q) W) G
 ·obtain⟨sl,r⟩:=F.slot b o q n W G
  obtain⟨ae,r'⟩:=un.any r (F.free b o q n G) G;exact⟨ae,r'⟩
 ·obtain⟨o',r⟩:=F.there b o q G
  exact un.free b o' r (F.free b o q n G) G
 ·obtain⟨o',r⟩:=F.there b o q G
  exact un.there b o' r G
 ·obtain⟨m1,r⟩:=F.tbls b ps q
  obtain⟨m2,r'⟩:=un.tbls b _ r;exact⟨m1++m2,by rw[r',zcS]⟩
 ·rcases af b W with z|z
  ·rcases oJ b z with z|z
   ·exact .inr (zb5 (zcq z.symm))
   ·exact .inl z
  ·refine .inr ?_
   cases q:s.heap.get? b with
   | none=>rfl
   | some o=>
    obtain⟨o',r⟩:=F.there b o q λz=>nomatch z
    rw[z]at r;cases r
theorem wK{P:XM}{w:World}{K:XF}{mg:Str->Option Value}{base:Heap}{N:List Str}{F:Str}{scope:Scope}{U:Addr}{G:Value}{A:XS}{outer:List Env}{s:XE}{H:Hp}{E:XK}{pins:List (Addr×Obj)}{σ:L2.St}{H1:Hp}{J:XE}{h' B:Heap}{ea C L:Addr}{a0:Value}
  (I:Inv (c6 (rQ P w) P w K mg base N F scope U G A outer s H E) pins σ H1 J) (hL:(c6 (rQ P w) P w K mg base N F scope U G A outer s H E).env.frame=some L) (kB:∀b o,J.heap.get? b=some o->b∉frs (c6 (rQ P w) P w K mg base N F scope U G A outer s H E).stack->B.get? b=some o)
  (hh:ZW B (c6 (rQ P w) P w K mg base N F scope U G A outer s H E).stack ea (.ref C) a0 L h') (up:J.heap.UpToSlots h') (nw:J.heap.get? ea=none) (hE:E (.ref C) (some 0) H1) :
  (c6 (rQ P w) P w K mg base N F scope U G A outer s H E).xe (.ref ea) {J with heap:=h'}:=by
 refine leave_held hL hh λh2 fl _ ab=>?_
 refine⟨ea,C,H1,J.heap,frs (c6 (rQ P w) P w K mg base N F scope U G A outer s H E).stack,some 0,rfl,I.os,I.bare,I.base,I.hok,I.stkFree,λb Y=>?_,⟨⟨B,a0,kB,fl⟩,up.trans ab,λb Y o q aa=>?_,nw,λz=>nomatch z⟩,hE⟩
 ·rcases List.mem_cons.mp (show b∈s.heap.objs.size::frs outer from Y)with e|e
  ·exact .inr (zb5 (zcq e.symm))
  ·exact .inl e
 ·obtain⟨_,o',W,hd⟩:=I.stack.mem Y
  rw[q]at W;cases W;exact hd aa
noncomputable def kF(X:Cx)(ea:Addr)(oe:Obj):Cx:={X with A:=X.A.mark (some (.ref ea)),calm:=false,pn:=(ea,oe)::X.pn,xe:=λ_ _=>False}
section
variable {X:Cx}{pins:List (Addr×Obj)}{σ:L2.St}{H:Hp}{s:XE}{ea:Addr}{oe:Obj}
theorem SY(I:Inv X pins σ H s)(U:s.heap.get? ea=some oe)(G:H ea=none)(q:ea≠X.env.locals)(F:ea∉X.fs)(N:∀v,oe.data≠.cell v):Inv (kF X ea oe) pins σ H s:=by
 have ok:=I.ok;refine⟨⟨ok.mod,ok.kind,ok.glob,ok.blt,ok.above,ok.inj,ok.has,ok.cab,λz=>(nomatch z),ok.frames,ok.stk,ok.exf,ok.bs,ok.bsz,ok.noex,ok.exfs,ok.funs,ok.frf⟩,I.os,I.bare,I.base,I.loc,I.cell,I.free,I.freeC,λp J=>?_,I.hok,I.len⟩;rcases List.mem_cons.mp J with z|z
 ·subst z;exact⟨U,G,q,F,N⟩
 ·exact I.pin p z
theorem AE(I:Inv (kF X ea oe) pins σ H s)(F:X.calm=true->X.A.handled=none):Inv X pins σ H s:=by
 have ok:=I.ok;exact⟨⟨ok.mod,ok.kind,ok.glob,ok.blt,ok.above,ok.inj,ok.has,ok.cab,F,ok.frames,ok.stk,ok.exf,ok.bs,ok.bsz,ok.noex,ok.exfs,ok.funs,ok.frf⟩,I.os,I.bare,I.base,I.loc,I.cell,I.free,I.freeC,λp q=>I.pin p (YH _ q),I.hok,I.len⟩
theorem xA{s':XE}{e:Value}{C0 Cy:Addr}{Good:Option Addr->Hp->Prop}{y n:Str}{yp G:Pos}{ac:Stmt}{N:List Stmt}{Q:Flow->XE->Prop}(I:Inv X pins σ H s)(J:X.stack=X.env::X.outer)(a1:X.env.frame=some X.env.locals)
  (hx:rQ X.prog X.w X.stack H s (λc a H2=>c=.ref C0/\Good a H2) e s')
  (hg:Gl X y) (hm:X.mg y=some (.ref Cy)) (a2:PySem.W.exmOne X.K (.ref C0) (.ref Cy)=some true)
  (k:∀(ea:Addr) (oe:Obj) (c:Option Addr) (H1:Hp) (s6:XE), oe.cls = .ref C0 -> Good c H1 -> (c = none -> g5 s6.heap ea) -> Inv (kF X ea oe) pins σ H1 s6 ->
   wpAny (model X.prog X.w) (X.A.mark (some (.ref ea))) (storeName X.env n (.ref ea)) (λ_ Y=>wpAny (model X.prog X.w) (X.A.mark (some (.ref ea))) (execs (ac::N) X.env)
    (λf F=>wpAny (model X.prog X.w) X.A (do bindName X.env n .none;unbindBehindTheSuite X.env n G) (λ_ al=>Q f al) X.xe F) (λx F=>wpAny (model X.prog X.w) (X.A.mark (some (.ref ea))) (zaX x X.env) (λ_ s4=>wpAny (model X.prog X.w) (X.A.mark (some (.ref ea))) (do bindName X.env n .none;unbindBehindTheSuite X.env n G)
    (λ_ s5=>wpAny (model X.prog X.w) (X.A.mark (some (.ref ea))) (passOn "try.except-as" x X.env:Sem Flow) (λ_ _=>False) (notedBy (model X.prog X.w) (X.A.mark (some (.ref ea))) X.env λx s'=>cameBackBy (model X.prog X.w) X.A X.env X.xe x s') s5) (λ_ _=>False) s4) (λ_ _=>False) F) Y) (λ_ _=>False) s6)
  (a4:(y == ("__debug__" : Str))=false:=by decide) :
  wpAny (model X.prog X.w) X.A (zaX e X.env) (λ_ Y=>wpAny (model X.prog X.w) X.A (za1 e none) (λ_ F=>wpAny (model X.prog X.w) X.A (handleBy e X.env [.ExceptHandler (some (.Name y yp)) (some n) (ac::N) G]) Q X.xe F) X.xe Y) X.xe s':=by
 obtain⟨ea,C,H1,h1,fs,c,rfl,os,aw,un,hok,hf,a5,fl,ec,au⟩:=hx;cases ec;obtain⟨B,a0,kB,fw⟩:=id fl.fly;have aq:X.A.frames=some (X.env::X.outer):=I.ok.frames.trans (by rw[J]);rw[J]at fw;refine AI aq a1 fw λh4 ag af ap=>?_
 refine lands ag λh5 an ae am=>?_
 have fin:∀ {h6:Heap},Z3 B (X.env::X.outer) ea (.ref C0) a0 h6->(c=none->g5 h6 ea)->s'.heap.UpToSlots h6->∃oe,h6.get? ea=some oe/\oe.cls=.ref C0/\Inv (kF X ea oe) pins σ H1 {s' with heap:=h6}:=λ{h6} ab ln ad=>by
  have ak:Fly X.stack fs h1 ea C0 c h6:=⟨⟨B,a0,kB,J ▸ ab⟩,fl.up.trans ad,fl.fsd,fl.new,ln⟩;have I6:Inv X pins σ H1 {s' with heap:=h6}:=I.call' (s':={s' with heap:=h6}) (ch:=[]) os (ak.un un a5) (ak.hok hok hf) aw λb hb=>nomatch hb
  obtain⟨oe,vs,he,U,ao,_⟩:=ab.first
  have ai:∀b∈X.env.locals::X.fs,ea≠b:=λb hb z=>by
   have:∃o,s.heap.get? b=some o:=by
    rcases List.mem_cons.mp hb with q|q
    ·obtain⟨m,⟨o,es,ep,ho,_⟩,_⟩:=I.loc
     exact⟨o,q ▸ ho⟩
    ·obtain⟨_,o,ho,_⟩:=I.funs.mem q
     exact⟨o,ho⟩
   obtain⟨o,ho⟩:=this;obtain⟨o',as⟩:=un.there b o ho λq=>nomatch q
   rw[<- z,fl.new]at as;cases as
  exact⟨oe,he,U,SY I6 he (fl.fresh hok) (ai _ (X8 ..)) (λz=>ai _ (YH _ z) rfl) λv z=>by rw[ao]at z;cases z⟩
 obtain⟨oe,he,U,J5⟩:=fin an (λz=>ae (af (fl.cx z))) (ap.trans am);refine wpAny_handleBy_cons (codeAny_handlers_test ?_) (by intro q;cases q);refine eX (X:=kF X ea oe) J5 hg hm ?_ a4;have LT:PySem.W.Looks (model X.prog X.w) h5 (zao (.ref ea)) (.ref C0):=U ▸ (PySem.W.Looks.ld he).andThen .now;refine(PySem.W.exm_one (M:=model X.prog X.w) (h:=h5) J5.kIn LT a2).here ?_;refine codeAny_handlers_suite_as ?_;refine OC an λh6 ab aj ad=>?_
 obtain⟨ba,_,ah,J6⟩:=fin ab (λz=>aj (ae (af (fl.cx z)))) ((ap.trans am).trans ad);refine X3 (k ea ba c H1 _ ah au (λz=>aj (ae (af (fl.cx z)))) J6) (λ_ s2 h2=>X3 h2 (λf s3 h3=>h3) λx s3 h3=>?_) λ_ _ z=>z.elim
 exact X3 h3 (λ_ s4 h4=>X3 h4 (λ_ s5 h5=>h5) λ_ _ z=>z.elim) λ_ _ z=>z.elim
end
end My
namespace My
open PySem PySem.Spec PyProof.Rows L2 PySem.SeqAt PySem.W
abbrev WN:List Value:=[.type "ValueError",.type "Exception",.type "BaseException",.type "object"]
theorem AG{K:XF}{h:Heap}{C:Addr}{J:List Value}{F:String}(X:K.In h)(q:zcM K C J F=true) :
  ∃bm N nm Y bs hdct sn sub ab col dd k0 k1 k2 k3 k5 mN,h.get? C=some (excClassObj nm Y C N bs bm hdct sn sub ab col dd k0 k1 k2 k3 k5 F)/\h.Ns N mN/\mN "__init__" = none/\OwnTail h J bm:=by
 unfold zcM at q;split at q
 ·rename_i dd cd sl ho
  split at q
  ·rename_i C' bm k0 k1 k2 k3 n k5 hm hs
   simp only[YU,beq_iff_eq,Bool.not_eq_true']at q;obtain⟨⟨⟨⟨⟨rfl,rfl⟩,G⟩,ht⟩,hok⟩,U⟩:=q;obtain⟨nm,bs,ae,ns,Y,hd,sn,sub,ab,col,ad⟩:=cd;dsimp only at hm G hok U;subst hm G;have W:sl=#[k0,k1,k2,k3,some (.builtin n),k5]:=by
    obtain⟨l⟩:=sl;simp only at hs;rw[hs]
   subst W;exact⟨bm,ns,nm,Y,bs,hd,sn,sub,ab,col,dd,k0,k1,k2,k3,k5,_,X _ _ ho,.of_isNs (isNs_of_in X hok),nsMap_none_of_in X hok U,tail_of_in X ht⟩
  ·cases q
 ·cases q
structure ExcAt(K:XF)(mg:Str->Option Value)(x:Str)(C:Addr):Prop where
 bound:mg x=some (.ref C)
 ex:zcM K C WN "ValueError.__new__" = true
 k:ExcK K C
section
variable {X:Cx}{pins:List (Addr×Obj)}{σ:L2.St}{H:Hp}{s:XE}
theorem GE{x t:Str}{C:Addr}{j}{W U cpos pos:Pos}{Q:Flow->XE->Prop}{E:Value->XE->Prop}(I:Inv X pins σ H s)(hc:X.calm=true)(hg:Gl X x)(T:ExcAt X.K X.mg x C)
  (k:∀h' e vs,zbU s.heap h' e (.ref C) vs->E (.ref e) {s with heap:=h',toks:=s.toks+1}) (G:(x == ("__debug__" : Str))=false:=by decide) :
  wpAny (model X.prog X.w) X.A (exec (.Raise (some (.Call (.Name x W) [.Constant (.str t) j U] [] cpos)) none pos) X.env) Q E s:=by
 obtain⟨bm,N,nm,qn,bs,hdct,sn,sub,ab,col,dd,k0,k1,k2,k3,k5,mN,hC,hN,J,tl⟩:=AG I.kIn T.ex;refine wpAny_Raise_call_subT PySem.F.excBase_ValueError (C:=C) (nm:=nm) (q:=qn) (N:=N) (bs:=bs) (bm:=bm) (hdct:=hdct) (sn:=sn) (sub:=sub) (ab:=ab) (col:=col) (dd:=dd) (k0:=k0) (k1:=k1) (k2:=k2) (k3:=k3) (k5:=k5) (mN:=mN) (tl.hasType PySem.F.excBase_ValueError.hasBase) (I.ok.hd hc) rfl J (eX I hg T.bound ⟨rfl,?_⟩ G);refine zcn (zaI (zcV (k:=j) (pos:=U) (zcd ?_)));exact⟨rfl,(show(1:Nat)<=XQ by decide),hC,hN,tl,λh' e Y=>k h' e _ Y⟩
theorem pP{ie:Nat}{n:Str}{m:Str->Option Value}{v:Option Value}{h':Heap}{t':Nat}(I:Inv X pins σ H s)(hN:X.N.Nodup)(hi:X.N[ie]?=some n)(hn:s.heap.Ns X.env.locals m)
  (hl:∀(i:Nat) (x:Str) (v:V),X.N[i]?=some x->σ[i]?=some (some v)->EJ X.env.scope x->∃u,RelV v u/\Look X.env s.heap m x u)
  (ab:h'.Ns X.env.locals (λx=>if x=n then v else m x)) (hs:YN X.env.locals s.heap h'):Inv X pins (σ.set ie none) H {s with heap:=h',toks:=t'}:=by
 have cne:=I.cne;obtain⟨oL,_,_,ad,_⟩:=id hn;refine⟨I.ok,I.os,I.bare,⟨λb o e n Y J=>?_,λb o e n Y J=>?_,I.base.free,λb o e J=>?_,I.base.tups,I.base.frzs,I.base.tbls⟩,⟨_,ab,λj y v' G W e3=>?_⟩,λy c e=>?_,I.free,I.freeC,λp hp=>?_,λb ob e=>?_,by simpa using I.len⟩
 ·exact(hs.2 b (YA (YZ (XO e) I.ok.above))).trans (I.base.keep b o e n Y J)
 ·obtain⟨sl,G⟩:=I.base.slot b o e n Y J
  exact⟨sl,(hs.2 b (YA (YZ (XO e) I.ok.above))).trans G⟩
 ·obtain⟨o',G⟩:=I.base.there b o e J
  exact⟨o',(hs.2 b (YA (YZ (XO e) I.ok.above))).trans G⟩
 ·by_cases hj:j=ie
  ·subst hj
   rw[List.getElem?_set]at W;simp at W
  ·rw[ZX (X5 hj)]at W
   obtain⟨u',r',q⟩:=hl j y v' G W e3;refine⟨u',r',?_⟩;rcases q with⟨k,e⟩|⟨k,c,e,z⟩
   ·refine .inl ⟨k,?_⟩
    have:y≠n:=λe=>hj (qK hN G (e ▸ hi))
    simp[this,e]
   ·exact .inr ⟨k,c,e,z.sameBut hs (cne y c e)⟩
 ·obtain⟨w',z⟩:=I.cell y c e
  exact⟨w',z.sameBut hs (cne y c e)⟩
 ·obtain⟨e,n,ne,nf,d⟩:=I.pin p hp
  exact⟨(hs.2 p.1 ne).trans e,n,ne,nf,d⟩
 ·refine(I.hok b ob e).stay (λc w' U q=>(hs.2 c ?_).trans q) (λ_ q=>q) λ_ _ q=>q
  have F:=I.free;rintro rfl;rcases U with rfl|U
  ·rw[F]at e;cases e
  ·rw[F]at U;cases U
def tE(ie:Nat)(ea:Addr)(b:Bool):TE:=λσ H Q=>σ[ie]?=some (some (.ref ea))/\∀H',(∀A,P.Ext A H H')->Q (.bl b) H'
theorem F8{K:XF}{C:Addr}:ZU K (.ref C) (.ref C)=some true:=by unfold ZU;rw[if_pos (by simp)]
structure CK(K:XF)(C:Addr):Prop where
 ex:∃cd,zcN K C=some cd
 ty:PySem.W.typeIn K (.ref C)=some (.type "type")
theorem CK.is{K:XF}{C:Addr}(k:CK K C):(zcN K C).isSome=true:=by obtain⟨q,e⟩:=k.ex;rw[e];rfl
theorem BC{K:XF}{C0 C:Addr}{b:Bool}(n:(C0 == C)=false)(hs:YG K (.ref C0) (.ref C)=some b)(k:CK K C):ZU K (.ref C0) (.ref C)=some b:=by
 unfold ZU;rw[if_neg (λz=>by have:=Value.ref.inj (beq_iff_eq.mp z);rw[this]at n;simp at n)];show(if _ then _ else _)=_;rw[if_pos (by rw[k.is,k.ty];rfl)];exact hs
theorem K6{K:XF}{C0:Addr}{T:String}{b:Bool}(q:PySem.W.kitMeta T=true)(hs:YG K (.ref C0) (.type T)=some b):ZU K (.ref C0) (.type T)=some b:=by
 unfold ZU;rw[if_neg (λz=>by cases beq_iff_eq.mp z)];show(if _ then _ else _)=_;rw[if_pos q];exact hs
theorem AD{K:XF}{C0 C:Addr}{b:Bool}(hs:YG K (.ref C0) (.ref C)=some b)(k:CK K C)(be:YG K (.ref C) (.type "BaseException")=some true):PySem.W.exmOne K (.ref C0) (.ref C)=some b:=by
 unfold PySem.W.exmOne;rw[if_pos (by rw[be];rfl)];show(if _ then _ else _)=_;rw[if_pos (by rw[k.is,k.ty];rfl)];exact hs
theorem any_cons{K:XF}{t c:Value}{cs:List Value}(h:ZU K t c=some false)(r:zbV K t cs=some false):zbV K t (c::cs)=some false:=by
 unfold zbV;rw[h];exact r
def W0(ea:Addr)(cv:V)(b:Bool):List V->Hp->VK->Prop:=λvs H Q=>vs=[.ref ea,cv]/\Q (.bl b) H
theorem SN{ea C0:Addr}{oe:Obj}{cv:V}{b:Bool}(G:(ea,oe)∈X.pn)(N:oe.cls=.ref C0)(k:ExcK X.K C0)(F:∀u,RelV cv u->ZU X.K (.ref C0) u=some b):CallR X (.builtin "isinstance") (W0 ea cv b):=by
 intro pins s σ H xs W Q I r ⟨ex,q⟩;subst ex;obtain⟨Y,u2,rfl,U,J⟩:=vals2 r;cases U;exact ZP (x8 zdz k) I.kIn ⟨oe,(I.pin (ea,oe) (Z4 _ G)).1,N⟩ (F _ J) (λz=>nomatch z) λtk=>⟨.bl b,H,I.tok tk,rfl,q⟩
def WW(ea:Addr)(K:XF)(C0:Addr)(b:Bool):List V->Hp->VK->Prop:=λvs H Q=>∃tp cs,vs=[.ref ea,.ref tp]/\H tp=some (.tup cs)/\(∀q,Vals cs q->zbV K (.ref C0) q=some b)/\Q (.bl b) H
theorem SW{ea C0:Addr}{oe:Obj}{b:Bool}(N:(ea,oe)∈X.pn)(hc:oe.cls=.ref C0)(k:ExcK X.K C0):CallR X (.builtin "isinstance") (WW ea X.K C0 b):=by
 intro pins s σ H xs us Q I r ⟨tp,cs,ex,ht,U,q⟩;subst ex;obtain⟨u1,u2,rfl,r1,r2⟩:=vals2 r;cases r1;cases r2;obtain⟨_,J,Y,o,e,F,n,G,_⟩:=I.hok tp _ ht;obtain⟨c',d',da,sl⟩:=o;cases F;cases G;exact PySem.W.kia_tup (x8 zdz k) I.kIn ⟨oe,(I.pin (ea,oe) (Z4 _ N)).1,hc⟩ e (U _ Y) (λz=>nomatch z) λtk=>⟨.bl b,H,I.tok tk,rfl,q⟩
end
end My
namespace P
open PySem PySem.Spec PyProof.Rows L2
abbrev Xv:=cL->Option Str
noncomputable def chained(x:Str):Bool:=x == ("NoMake" : Str)
inductive Raised(X:Cx)(A0:Av)(H0:Hp)(x:Str):Value->XE->Prop
 | made {pins:List (Addr×Obj)} {σ:L2.St} {H':Hp} {s':XE} {h':Heap} {ea C:Addr} {vs:List Value}:X.mg x=some (.ref C)->Inv X pins σ H' s'->Ext A0 H0 H'->zbU s'.heap h' ea (.ref C) vs->Raised X A0 H0 x (.ref ea) {s' with heap:=h'}
 | flew {pins:List (Addr×Obj)} {σ:L2.St} {H':Hp} {s' s2:XE} {e:Value}:Inv X pins σ H' s'->My.rQ X.prog X.w X.stack H' s' (λc a H2=>∃C,X.mg x=some (.ref C)/\c=.ref C/\(chained x=false->a=none)/\Ext A0 H0 H2) e s2->Raised X A0 H0 x e s2
 | held {pins:List (Addr×Obj)} {σ:L2.St} {H':Hp} {s':XE} {h' B:Heap} {ea C L:Addr} {a0:Value}:chained x=true->X.mg x=some (.ref C)->Inv X pins σ H' s'->Ext A0 H0 H'->X.env.frame=some L->(∀b o,s'.heap.get? b=some o->b∉frs X.stack->B.get? b=some o)->ZW B X.stack ea (.ref C) a0 L h'->s'.heap.UpToSlots h'->s'.heap.get? ea=none->Raised X A0 H0 x (.ref ea) {s' with heap:=h'}
def PX(X:Cx)(O:List Nat)(st:Stmt)(g:Xv):Prop:=∀(pins:List (Addr×Obj)) (s:XE) (σ:L2.St) (H H0:Hp) (A0 A:Av) (E:List Fact) (ρ:cL) (x:Str),Inv X pins σ H s->ST H0 A0 A E O σ H ρ->g ρ=some x->
 (∀e s',Raised X A0 H0 x e s'->X.xe e s')->wpAny (model X.prog X.w) X.A (exec st X.env) (λ_ _=>False) X.xe s
def MZ(X:Cx)(O:List Nat)(q:List Stmt)(g:Xv):Prop:=∀(pins:List (Addr×Obj)) (s:XE) (σ:L2.St) (H H0:Hp) (A0 A:Av) (E:List Fact) (ρ:cL) (x:Str),Inv X pins σ H s->ST H0 A0 A E O σ H ρ->g ρ=some x->
 (∀e s',Raised X A0 H0 x e s'->X.xe e s')->wpAny (model X.prog X.w) X.A (execs q X.env) (λ_ _=>False) X.xe s
section
variable {X:Cx}{L:Lp}{O O2 O':List Nat}
def fT:Xv:=λ_=>none
theorem uE{st:Stmt}:PX X O st fT:=λ_ _ _ _ _ _ _ _ _ _ _ _ e=>nomatch e
theorem cI{q:List Stmt}:MZ X O q fT:=λ_ _ _ _ _ _ _ _ _ _ _ _ e=>nomatch e
def oH(x:Str):Xv:=λ_=>some x
theorem bF{x t:Str}{j}{F U cpos pos:Pos}(J:X.calm=true)(N:Gl X x)(T:∃C,My.ExcAt X.K X.mg x C)(q:(x == ("__debug__" : Str))=false:=by decide) :
  PX X O (.Raise (some (.Call (.Name x F) [.Constant (.str t) j U] [] cpos)) none pos) (oH x):=λpins s σ H H0 A0 A E ρ y I st e W=>by
 cases e;obtain⟨C,T⟩:=T;refine My.GE I J N T (λh' e vs G=>?_) q;exact W _ _ (.made (s':={s with toks:=s.toks+1}) T.bound (I.tok _) st.ex G)
theorem aV{st:Stmt}{g:Xv}{rest:List Stmt}(h:PX X O st g):MZ X O (st::rest) g:=λpins s σ H H0 A0 A E ρ y I q e W=>
 zaF (X3 (h pins s σ H H0 A0 A E ρ y I q e W) (λ_ _ z=>z.elim) λ_ _ z=>z)
def mW(c:Bv)(f g:Xv):Xv:=λρ=>(c ρ).bind λb=>if b=true then f ρ else g ρ
theorem dD{c:Expr}{a b:List Stmt}{pos:Pos}{g:Bv}{f k:Xv}(hc:rO X.nox O c g)(Y:MZ X O a f)(U:MZ X O b k):PX X O (.If c a b pos) (mW g f k):=λpins s σ H H0 A0 A E ρ y I st e W=>by
 obtain⟨G,eb,e⟩:=bind_some e;refine wpAny_If (bX (PT.nox hc pins s σ H (λN H1=>N=G/\Ext A H H1) I ⟨H0,A0,A,E,ρ,G,st,eb,λH1 q=>⟨rfl,q⟩⟩) λd F ⟨H1,J,ed,q⟩=>?_);subst ed;cases d with
 | true=>rw[if_pos rfl]at e;exact X3 (Y pins F σ H1 H0 A0 A E ρ y J (st.mono q) e W) (λ_ _ z=>z.elim) λ_ _ z=>z
 | false=>rw[if_neg XZ]at e;exact X3 (U pins F σ H1 H0 A0 A E ρ y J (st.mono q) e W) (λ_ _ z=>z.elim) λ_ _ z=>z
def dZ(g1:Xv)(f:Sv)(g2:Xv):Xv:=λρ=>((g1 ρ).map some).getD ((f ρ).bind λo=>match o with
 | .nx ρ'=>g2 ρ'
 | _=>none)
theorem PS.lift{st:Stmt}{t:TS}(h:PS X.nox st t):PS X st t:=λpins s σ H D I hw=>X3 (h pins s σ H D (I.wish _) hw) (λ_ _ q=>q.unwish) λ_ _ z=>z.elim
theorem a9{st:Stmt}{rest:List Stmt}{g1 J:Xv}{f:Sv}(h1:PX X O st g1)(U:PSD X.nox ⟨[],[]⟩ O st f O2)(h2:MZ X O2 rest J):MZ X O (st::rest) (dZ g1 f J):=λpins s σ H H0 A0 A E ρ y I G e W=>by
 unfold dZ at e;cases e1:g1 ρ with
 | some z=>
  rw[e1]at e;cases e;exact zaF (X3 (h1 pins s σ H H0 A0 A E ρ y I G e1 W) (λ_ _ z=>z.elim) λ_ _ z=>z)
 | none=>
  rw[e1]at e;obtain⟨o,eo,e⟩:=bind_some e;cases o with
  | nx ρ'=>
   refine zaF (bX (PS.lift U pins s σ H {nx:=λF H'=>∃A',ST H0 A0 A' E O2 F H' ρ',rt:=λ_ _=>False} I ⟨H0,A0,A,E,ρ,_,G,eo,λA' F H' z=>⟨A',z⟩⟩) λfl N q=>?_);cases fl with
   | next=>
    obtain⟨F,H',Y,A',z⟩:=q;exact h2 pins N F H' H0 A0 A' E ρ' y Y z e W
   | ret v=>obtain⟨_,_,_,_,_,q⟩:=q;exact q.elim
   | brk=>obtain⟨_,_,_,q⟩:=q;exact q.elim
   | cont=>obtain⟨_,_,_,q⟩:=q;exact q.elim
  | rt d=>cases e
  | bk d=>cases e
  | ct d=>cases e
def mS(g:Gv)(b:Sv)(gx:Xv):List D->cL->Option Str
 | [],_=>none
 | x::xs,ρ=>(g x ρ).bind λρ1=>((gx ρ1).map some).getD ((b ρ1).bind λo=>match o with
  | .nx ρ2=>mS g b gx xs ρ2
  | .ct ρ2=>mS g b gx xs ρ2
  | _=>none)
def rL(f:Lv)(g:Gv)(b:Sv)(gx:Xv):Xv:=λρ=>(f ρ).bind λitems=>mS g b gx items ρ
theorem i8{tg F:Expr}{body:List Stmt}{pos:Pos}{f:Lv}{g:Gv}{b:Sv}{gx:Xv}{O1:List Nat}(hp:PassesOwn (model X.prog X.w) X.A X.env X.xe)(hc:X.calm=true)(hi:PDI X O tg F f)(hg:yL X O1 tg g)(hb:PSDs X.nox ⟨[],O1⟩ O1 body b O1)(hx:MZ X O1 body gx)(h1:Sub O1 O=true)
  (hs:∀x,zaf F X.env x=pure x:=by intro _;rfl):PX X O (.For tg F body [] pos) (rL f g b gx):=λpins s σ H H0 A0 A E ρ y I st e W=>by
 obtain⟨items,e1,e⟩:=bind_some e;have ag:PSs X body (λT σ H=>tS ⟨[],O1⟩ O1 b O1 T σ H\/∃H0 A0 A E ρ x,ST H0 A0 A E O1 σ H ρ/\gx ρ=some x/\∀e s',Raised X A0 H0 x e s'->X.xe e s'):=λpins s σ H D I w=>w.elim (PSs.nox hb pins s σ H D I) λ⟨H0,A0,A,E,ρ,x,st,e,W⟩=>X3 (hx pins s σ H H0 A0 A E ρ x I st e W) (λ_ _ z=>z.elim) λ_ _ z=>z
 refine X3 (GW hp hc hi hg ag hs pins s σ H {nx:=λ_ _=>False,rt:=λ_ _=>False} I ⟨H0,A0,A,E,ρ,items,st,e1,λJ H1 U x1 aj J1=>?_⟩) (λfl s1 q=>?_) λ_ _ z=>z
 ·obtain⟨A1,ai⟩:=((st.mono x1).both aj).shut (Sub.mem h1)
  refine⟨λi m σ H=>m=items.length-i/\i<=items.length/\∃ρ A,ST H0 A0 A (U++E) O1 σ H ρ/\mS g b gx (items.drop i) ρ=some y,⟨items.length,by simp,YY _,ρ,A1,ai,e⟩,?_⟩;rintro i m σ H ⟨rfl,aq,ρ,A,st,e⟩;have hE:∀p∈U,p.Holds A H:=λp hp=>st.ext p (Z4 _ hp)
  obtain⟨ak,go⟩:=J1 A H st.live hE i;by_cases G:i<items.length
  ·have ed:items[i]?=some items[i]:=by simp[G]
   obtain⟨ad,hy⟩:=go _ ed;rw[zbS G]at e;obtain⟨ρ1,eg,e⟩:=bind_some e;refine .inr ⟨ad,λaa H'=>∃ρ2 N,ST H0 A0 N (U++E) O1 aa H' ρ2/\mS g b gx (items.drop (i+1)) ρ2=some y,λaa H' ⟨ρ2,N,Y,e2⟩=>⟨items.length-(i+1),by lia,rfl,G,ρ2,N,Y,e2⟩,λx H' yl=>?_⟩;obtain⟨x2,r2⟩:=hy x H' yl;refine⟨H0,A0,A,U++E,ρ,_,ρ1,st.mono x2,r2,eg,λau s1=>?_⟩;cases e2:gx ρ1 with
   | some z=>
    rw[e2]at e;cases e;exact .inr ⟨H0,A0,A,U++E,ρ1,_,s1,e2,W⟩
   | none=>
    rw[e2]at e;obtain⟨o,eo,e⟩:=bind_some e;refine .inl ⟨H0,A0,A,U++E,ρ1,o,s1,eo,?_⟩;cases o with
    | nx ρ2=>exact λN ae H2 Y=>⟨ρ2,N,Y,e⟩
    | ct ρ2=>exact λN ae H2 Y=>⟨ρ2,N,Y,e⟩
    | bk ρ2=>cases e
    | rt d=>cases e
  ·have af:i=items.length:=by lia
   subst af;rw[zdk]at e;cases e
 ·cases fl with
  | next=>obtain⟨_,_,_,q⟩:=q;exact q
  | ret v=>obtain⟨_,_,_,_,_,q⟩:=q;exact q
  | brk=>obtain⟨_,_,_,q⟩:=q;exact q
  | cont=>obtain⟨_,_,_,q⟩:=q;exact q
end
def WP(n:Nat)(mg:Str->Option Value)(F:List D->Option D)(G:List D->Option Str):Sp:=λvs H Q E=>vs.length=n/\∃A ds,Live A H/\RepL A H ds vs/\((∃d,F ds=some d/\∀v H',Ext A H H'->Rep A H' d v->Q v H')\/∃x,G ds=some x/\∀C a H',mg x=some (.ref C)->(chained x=false->a=none)->Ext A H H'->E (.ref C) a H')
structure FnX(P:XM)(w:World)(K:XF)(mg:Str->Option Value)(base:Heap)(x:Str)(k:Nat)(ps:List Str)(F:List D->Option D)(G:List D->Option Str):Prop where
 ex:∃f fd,zaw K (.ref f)=true/\Binds K fd ps []/\mg x=some (.ref f)/\FnOk P w K mg base (My.rQ P w) k f fd ps (WP ps.length mg F G)
def gC(n:Nat)(g:Xv)(ds:List D):Option Str:=g (aD n ds)
theorem OB{P:XM}{w:World}{K:XF}{mg:Str->Option Value}{base:Heap}{x:Str}{st:Stmt}{N ps:List Str}{k:Nat}{f:Sv}{gx:Xv}{O':List Nat}(Df:My.DefAt K mg x st ps)(S:FnScope N ps (aF st))
  (h:∀(J:Addr) (G:Value) (A:XS) (outer:List Env) (s:XE) (H:Hp) (E:XK),Room k (A.deeper (YW x (aF st) s.heap.objs.size J G))->∃g,PSDs (c6 (My.rQ P w) P w K mg base N x (aF st) J G A outer s H E).nox ⟨[],[]⟩ [] (bO st) g O'/\g=f)
  (hx:∀(J:Addr) (G:Value) (A:XS) (outer:List Env) (s:XE) (H:Hp) (E:XK),Room k (A.deeper (YW x (aF st) s.heap.objs.size J G))->∃g,MZ (c6 (My.rQ P w) P w K mg base N x (aF st) J G A outer s H E) [] (bO st) g/\g=gx) :
  FnX P w K mg base x (k+1) ps (bT N.length f) (gC N.length gx):=by
 obtain⟨J,fd,F,B,hm⟩:=Df.ex;obtain⟨oc,od,kV,ap,pm,an,G,ct,aj,rfl,lk,ad⟩:=F.ex;refine⟨J,_,F.kp,B,hm,M6 lk ad S (λvs H Q E hs=>hs.1) λA outer s H vs Q E hr U=>?_⟩;obtain⟨_,A1,ds,lv,r,U⟩:=U;rcases U with⟨d,eF,q⟩|⟨y,eG,q⟩
 ·obtain⟨g,hg,rfl⟩:=h J G A outer s H E hr
  obtain⟨o,eo,W⟩:=bind_some eF;refine⟨_,PSs.nox hg,H,A1,A1,[],_,o,ST.begun lv r,eo,?_⟩;cases o with
  | nx ρ=>cases W;exact λA2 al H2 s2=>q .non H2 s2.ex .non
  | rt d'=>cases W;exact λv H2 x2 r2=>q v H2 x2 r2
  | bk _=>cases W
  | ct _=>cases W
 ·obtain⟨g,hg,rfl⟩:=hx J G A outer s H E hr
  refine⟨λT σ H1=>σ=L2.start N vs/\H1=H,λpins s1 σ H1 T I ⟨e1,W⟩=>?_,rfl,rfl⟩;subst e1 W;refine X3 (hg pins s1 _ H1 H1 A1 A1 [] _ y I (ST.begun lv r) eG λe s' R=>?_) (λ_ _ z=>z.elim) λ_ _ z=>z
  cases R with
  | made Y I' x' hm'=>exact My.uO I' hm' (q _ _ _ Y (λ_=>rfl) x')
  | flew I' hx'=>exact My.yQ I' hx' λc a H2 ⟨C,Y,ec,ha,x2⟩=>by subst ec;exact q C a H2 Y ha x2
  | held hc Y I' x' hL kB hh up nw=>exact My.wK I' hL kB hh up nw (q _ _ _ Y (λz=>by rw[hc]at z;cases z) x')
section
variable {X:Cx}{O:List Nat}
def eE(G:List D->Option Str)(f:Lv):Xv:=λρ=>(f ρ).bind G
theorem lU{f:Str}{k:Nat}{ps:List Str}{F:List D->Option D}{G:List D->Option Str}{e:Expr}{es:List Expr}{fa:Lv}{p cpos pos:Pos}(FX:FnX X.prog X.w X.K X.mg X.base f k ps F G)(hr:Room k X.A)(hg:Gl X f)(ha:sL X O (e::es) fa)(hl:∀ρ ds,fa ρ=some ds->ds.length=ps.length)(ac:(f == ("__debug__" : Str))=false:=by decide)
  (he:XI (e::es) X.env=(false,eval e X.env)::XI es X.env:=by rfl) (ab:(X0 cpos (XI es X.env)).any (·.1)=false:=by rfl) (hs:YL (.Call (.Name f p) (e::es) [] cpos) none pos.line X.env=pure false:=by rfl) :
  PX X O (.Expr (.Call (.Name f p) (e::es) [] cpos) pos) (eE G fa):=λpins s σ H H0 A0 A E ρ y I st eo W=>by
 obtain⟨ds,ed,eo⟩:=bind_some eo;obtain⟨fn,fd,hk,hb,hm,FO⟩:=FX.ex;refine wpAny_Expr_any ?_ I.quiet hs;refine zaR (eX I hg hm ?_ ac);refine zbB (h₀:=X.base) I.ok.mod.kin hk (bX (ha cpos pins s σ H (λvs H1=>Ext A H H1/\RepL A H1 ds vs) I ⟨H0,A0,A,E,ρ,ds,st,ed,λvs H1 U r1=>⟨U,r1.toL⟩⟩) λY s1 q=>?_) he ab;obtain⟨vs,H1,N,r,U,rl⟩:=q;have lv:=(st.mono U).live;have J:vs.length=ps.length:=by rw[rl.length];exact hl ρ ds ed
 have ad:Y.length=ps.length:=by rw[<- r.length];exact J
 refine⟨N.kIn,za8 (zav (FO.run X.A X.stack s1 H1 ⟨Y,[]⟩ Y vs (λ_ _=>False) (λc a H2=>∃C,X.mg y=some (.ref C)/\c=.ref C/\(chained y=false->a=none)/\Ext A0 H0 H2) hr N.env0 (by have:=hb s1 Y N.kIn (by rw[ZZ];exact ad);rwa [ZZ]at this) r ⟨J,A,ds,lv,rl,.inr ⟨y,eo,λC a H2 hC ha x2=>⟨C,hC,rfl,ha,(st.mono (U.trans x2)).ex⟩⟩⟩) λrr s2 q=>?_)⟩;cases rr with
 | error e=>exact W _ _ (.flew N q)
 | ok fl=>
  cases fl with
  | ret u=>obtain⟨v,H2,I2,rv,z⟩:=N.after q;exact z.elim
  | next=>exact YF q
  | brk=>exact YF q
  | cont=>exact YF q
end
end P
namespace My
open PySem PySem.Spec PyProof.Rows L2 PySem.SeqAt
section
variable {X:Cx}
def UP(K:XF)(mg:Str->Option Value)(C0:Addr)(z:Str):Prop:=∃C,mg z=some (.ref C)/\CK K C/\(C0 == C)=false/\YG K (.ref C0) (.ref C)=some false
structure TryAt(K:XF)(mg:Str->Option Value)(x0 y:Str)(ys:List Str):Prop where
 ex:∃C0 Cy,ExcAt K mg x0 C0/\mg y=some (.ref Cy)/\CK K Cy/\YG K (.ref Cy) (.type "BaseException")=some true/\YG K (.ref C0) (.ref Cy)=some true/\YG K (.ref C0) (.type "ValueError")=some true/\∀z∈ys,UP K mg C0 z
theorem TryAt.cls{K:XF}{mg:Str->Option Value}{q y:Str}{ys:List Str}(T:TryAt K mg q y ys):∃C,ExcAt K mg q C:=by
 obtain⟨C0,_,h,_⟩:=T.ex;exact⟨C0,h⟩
def W6(cs:List V):TA:=λ_ H Q=>Q cs H
def PO(X:Cx)(C0:Addr)(es:List Expr):Prop:=∃cs:List V,PA X es (W6 cs)/\(cs.length=es.length)/\∀q,Vals cs q->zbV X.K (.ref C0) q=some false
theorem i9{C0:Addr}:PO X C0 []:=⟨[],dX,rfl,λq r=>by rw[r.zero];rfl⟩
theorem aU{C0:Addr}{z:Str}{p:Pos}{es:List Expr}(W:Gl X z)(h:UP X.K X.mg C0 z)(r:PO X C0 es)(hs:XI (.Name z p::es) X.env=(false,eval (.Name z p) X.env)::XI es X.env:=by rfl)(G:(z == ("__debug__" : Str))=false:=by decide):PO X C0 (.Name z p::es):=by
 obtain⟨C,U,k,n,N⟩:=h;obtain⟨cs,J,F,Y⟩:=r;refine⟨.ref C::cs,λpos pins s σ H Q I q=>bB (lX (v:=.ref C) W U rfl G) J hs pos pins s σ H Q I q,by simp[F],λus r=>?_⟩;cases r with
 | cons r1 r2=>cases r1;exact any_cons (BC n N k) (Y _ r2)
theorem uZ{ea C0:Addr}{oe:Obj}{cv:V}{b:Bool}{ie:Nat}{G F:Expr}{p pos:Pos}(W:(ea,oe)∈X.pn)(hc:oe.cls=.ref C0)(k:ExcK X.K C0)(hk:∀u,RelV cv u->ZU X.K (.ref C0) u=some b)
  (hg:Gl X "isinstance") (Y:X.mg "isinstance" = none) (N:PE X G (iN ie)) (h2:PE X F (tC cv))
  (h1:XI [G,F] X.env=(false,eval G X.env)::XI [F] X.env:=by rfl) (J:(X0 pos (XI [F] X.env)).any (·.1)=false:=by rfl) (U:XI [F] X.env=(false,eval F X.env)::XI [] X.env:=by rfl) :
  PE X (.Call (.Name "isinstance" p) [G,F] [] pos) (tE ie ea b):=
 P.PE.mono (gU (SN W hc k hk) hg Y boot_isinstance (bB N (bB h2 dX U) h1) (by decide) (by decide) h1 J) λσ H Q ⟨e,q⟩=>⟨_,e,rfl,q H λA=>P.Ext.refl A H⟩
theorem JY{ea C0:Addr}{oe:Obj}{ie:Nat}{F:Expr}{es:List Expr}{x1}{p pos tp:Pos}(Y:(ea,oe)∈X.pn)(hc:oe.cls=.ref C0)(k:ExcK X.K C0)
  (hg:Gl X "isinstance") (hm:X.mg "isinstance" = none) (N:PE X F (iN ie)) (h2:PO X C0 es) (hz:es.length<=XQ)
  (h1:XI [F,.Tuple es x1 tp] X.env=(false,eval F X.env)::XI [.Tuple es x1 tp] X.env:=by rfl) (G:(X0 pos (XI [.Tuple es x1 tp] X.env)).any (·.1)=false:=by rfl) (U:XI [.Tuple es x1 tp] X.env=(false,eval (.Tuple es x1 tp) X.env)::XI [] X.env:=by rfl) :
  PE X (.Call (.Name "isinstance" p) [F,.Tuple es x1 tp] [] pos) (tE ie ea false):=by
 obtain⟨cs,W,J,hk⟩:=h2;refine P.PE.mono (gU (SW (b:=false) Y hc k) hg hm boot_isinstance (bB N (bB (HP W) dX U) h1) (by decide) (by decide) h1 G) λσ H Q ⟨e,q⟩=>?_
 exact⟨_,e,by rw[J];exact hz,λt ht=>⟨t,cs,rfl,aN,hk,q _ λA=>P.Ext.new ht⟩⟩
end
end My
namespace P
open PySem PySem.Spec PyProof.Rows L2
theorem ST.blank{H0:Hp}{A0 A:Av}{E:List Fact}{O:List Nat}{σ:L2.St}{H:Hp}{ρ:cL}(s:ST H0 A0 A E O σ H ρ){i:Nat}{o:Option V}(n:i∉O):ST H0 A0 A E O (σ.set i o) H (ρ.set i none) where
 ex:=s.ex
 sub:=s.sub
 l0:=s.l0
 live:=s.live
 len:=by simp[s.len]
 val:=λj d' h' F=>by
  rcases cN h' with⟨_,q,_⟩|⟨e,q⟩
  ·cases q
  ·obtain⟨w,h1,h2⟩:=s.val j d' q F;exact⟨w,by rw[ZX (X5 e)];exact h1,h2⟩
 own:=λj d' h' F=>by
  rcases cN h' with⟨_,q,_⟩|⟨e,q⟩
  ·cases q
  ·obtain⟨w,h1,h2⟩:=s.own j d' q F;exact⟨w,by rw[ZX (X5 e)];exact h1,h2⟩
 inj:=λj k d1 d2 a N U h1 h2 G J=>by
  have W:i≠j:=λz=>n (z ▸ N)
  have Y:i≠k:=λz=>n (z ▸ U)
  rcases cN h1 with⟨_,e,_⟩|⟨_,h1⟩
  ·cases e
  rcases cN h2 with⟨_,e,_⟩|⟨_,h2⟩
  ·cases e
  exact s.inj j k d1 d2 a N U h1 h2 (by rw[ZX W]at G;exact G) (by rw[ZX Y]at J;exact J)
 ext:=s.ext
section
variable {X:Cx}{L:Lp}{O O':List Nat}
end
end P
namespace My
open PySem PySem.Spec PyProof.Rows L2 PySem.SeqAt
def AJ:V->List V->Hp->VK->Prop:=λx vs H Q=>∃l xs i y,x=.ref l/\vs=[.int i,y]/\H l=some (.lst xs)/\0<=i/\i<=(xs.length:Int)/\xs.length<XQ/\Q .non (upd H l (.lst (xs.take i.toNat++y::xs.drop i.toNat)))
theorem tQ:∀ {xs:List V} {us:List Value} (n:Nat),Vals xs us->Vals (xs.take n) (us.take n)
 | _,_,0,_=>by simp;exact .nil
 | _,_,n+1,.nil=>.nil
 | _,_,n+1,.cons h t=>.cons h (tQ n t)
theorem t6:∀ {xs:List V} {us:List Value} (n:Nat),Vals xs us->Vals (xs.drop n) (us.drop n)
 | _,_,0,r=>r
 | _,_,n+1,.nil=>.nil
 | _,_,n+1,.cons h t=>t6 n t
theorem DK{X:Cx}:US X "list.insert" AJ:=by
 intro pins s σ H x vs v us Q I rx W h;obtain⟨l,xs,i,y,rfl,rfl,N,h0,h1,hz,q⟩:=h;cases rx;obtain⟨u1,U,rfl,r1,Y⟩:=vals2 W;obtain⟨t,rfl⟩:=r1;obtain⟨z,G,n,r,hl,e⟩:=I.lstM N;have J:¬ (!Builtin.List.listFitsIndex i)=true:=by
  have hs:XQ<=2^40:=by decide
  rw[fitsIndex_both (by lia) (by lia)];decide
 refine zbH F.slot_list_insert ⟨_,e,rfl⟩ F.entry_list_insert (F.args_list_insert_3 _ _ _) (AutoListH.list_insert_list_int_val_1 l G.toArray n i t U J (by rw[XX];lia)) ⟨e,?_⟩;refine⟨.non,_,I.lset (its':=G.take i.toNat++U::G.drop i.toNat) N e ?_ ((tQ _ r).append (.cons Y (t6 _ r))) ?_,rfl,q⟩
 ·have hk:min i.toNat G.length=i.toNat:=by lia
  simp only[XX,if_neg (show ¬ i<0 by lia),hk];apply Array.ext';simp;exact List.take_of_length_le (by simp)
 ·simp only[Y3,Y4,zai,zbE]
  lia
end My
namespace P
open PySem PySem.Spec PyProof.Rows L2
section
variable {X:Cx}{L:Lp}{O O':List Nat}
def TQ(i:Nat)(fk fe:Ev):Sv:=λρ=>(aA i ρ).bind λx=>(fk ρ).bind λk=>(fe ρ).bind λd=>match x,k with
 | .lst l,.int j=>if aW l.length=true/\0<=j/\j<=(l.length:Int)then some (.nx (ρ.set i (some (.lst (l.take j.toNat++d::l.drop j.toNat)))))else none
 | _,_=>none
theorem zC{o G F:Expr}{i:Nat}{apos cpos pos:Pos}{U N:Ev}(ho:PE X o (iN i))(h1:PD X O G U)(h2:PD X O F N)(hO:mem O i=true)(hp:PE X (.Call (.Attribute o "insert" apos) [G,F] [] cpos) (UZ X.K "list" My.AJ (iN i) (yD (tD Rep O U) (yD (tD Rep O N) RA))))
  (hs:YL (.Call (.Attribute o "insert" apos) [G,F] [] cpos) none pos.line X.env=pure false:=by rfl) (h:Sub O' O=true:=by rfl):PSD X L O (.Expr (.Call (.Attribute o "insert" apos) [G,F] [] cpos) pos) (TQ i U N) O':=
 PS.mono (n9 hp hs) <| by
  rintro T σ H ⟨H0,A0,A,E,ρ,J,st,e,p⟩;obtain⟨x,ex,e⟩:=bind_some e;obtain⟨k,ek,e⟩:=bind_some e;obtain⟨d,ed,e⟩:=bind_some e;cases x with
  | lst l=>
   cases k with
   | int j=>
    by_cases hz:aW l.length=true/\0<=j/\j<=(l.length:Int)
    ·replace e:(if aW l.length=true/\0<=j/\j<=(l.length:Int)then some (Out.nx (ρ.set i (some (.lst (l.take j.toNat++d::l.drop j.toNat)))))else none)=some J:=e
     rw[if_pos hz]at e;cases e;obtain⟨a,G,F,e3,e4⟩:=st.own i _ (bQ ex) (fZ hO);cases e4 with
     | lst h4 r4=>
      refine⟨_,G,.inl ⟨rfl,_,SqL.of h4⟩,H0,A0,A,E,ρ,_,st,ek,λv H1 x1 r1=>⟨H0,A0,A,E,ρ,d,st.mono x1,ed,λv2 H2 x2 r2=>?_⟩⟩;have:=RepB.int_inv (.of r1);subst this;have q:=x1.trans x2;have Y:=q.ow _ _ F h4;refine⟨a,_,j,v2,rfl,rfl,Y,hz.2.1,by rw[r4.length];exact hz.2.2,by rw[r4.length];exact nW hz.1,?_⟩;obtain⟨A',W⟩:=((st.mono q).write (o:=.lst _) (bQ ex) (fZ hO) G F e3 Y trivial (.lst aN ((((r4.ext q).take j.toNat).append (.cons r2 ((r4.ext q).drop j.toNat))).put F Y trivial))).shut (Sub.mem h);exact p A' σ _ W
    ·replace e:(if aW l.length=true/\0<=j/\j<=(l.length:Int)then some (Out.nx (ρ.set i (some (.lst (l.take j.toNat++d::l.drop j.toNat)))))else none)=some J:=e
     rw[if_neg hz]at e;cases e
   | _=>cases e
  | _=>cases e
end
end P
namespace My
open PySem PySem.Spec PyProof.Rows L2 PySem.SeqAt PySem.W
section
variable {X:Cx}{pins:List (Addr×Obj)}{σ:L2.St}{H:Hp}{s:XE}
theorem GA{x t:Str}{C:Addr}{j}{W U cpos:Pos}{Q:Value->XE->Prop}{E:Value->XE->Prop}(I:Inv X pins σ H s)(hg:Gl X x)(T:ExcAt X.K X.mg x C)
  (k:∀h' e vs,zbU s.heap h' e (.ref C) vs->Q (.ref e) {s with heap:=h',toks:=s.toks+1}) (q:(x == ("__debug__" : Str))=false:=by decide) :
  wpAny (model X.prog X.w) X.A (eval (.Call (.Name x W) [.Constant (.str t) j U] [] cpos) X.env) Q E s:=by
 obtain⟨bm,N,nm,qn,bs,hdct,sn,sub,ab,col,dd,k0,k1,k2,k3,k5,mN,J,hN,G,tl⟩:=AG I.kIn T.ex;refine wpAny_Call_ofName (eX I hg T.bound ?_ q);unfold callWith;refine XD (Y1 (zcn (zaI (zcV (k:=j) (pos:=U) (zcd (XD (zaG ?_)))))));refine XD (wpAny_keeperOf_exc J ?_);refine XD (wpAny_call_exc_subT PySem.F.excBase_ValueError tl J hN G λh' e Y=>XD (Y1 (wpAny_point (XJ ?_))));exact k h' e _ Y
theorem rZ:entryFor table "proto.unchain" = some ZL.«proto.unchain»:=entryFor_of_tree (by kernel_rfl)
theorem yX{A:XS}{v:Value}{ea:Addr}{oe:Obj}{vs:Array Value}{Q:Value->XE->Prop}{E:Value->XE->Prop}(F:s.heap.get? ea=some oe)(G:oe.data=.fields vs)(h2:vs[2]?=some .none)(q:Q .none s) :
  wpAny (model X.prog X.w) A (runValue (.builtin "proto.unchain" ⟨[v,.ref ea,.ref ea,.bool false],[]⟩)) Q E s:=by
 refine wpAny_runValue (zaK rZ ?_);unfold ZL.«proto.unchain»;refine XD (YI F G h2 ?_);rw[if_pos (by decide)];exact XJ q
theorem OX{E:Value->XE->Prop}{i:Nat}{x:Str}{a:Addr}{pos:Pos}{Q:Value->XE->Prop}(I:Inv X pins σ H s)(hN:X.N[i]?=some x)(hv:EJ X.env.scope x)(he:σ[i]?=some (some (.ref a)))(q:Q (.ref a) s)(J:(x == ("__debug__" : Str))=false:=by decide)(U:(x == ("__classdict__" : Str))=false:=by decide) :
  wpAny (model X.prog X.w) X.A (eval (.Name x pos) X.env) Q E s:=by
 obtain⟨m,hn,Y⟩:=I.loc;obtain⟨u,r,l⟩:=Y i x _ hN he hv;cases r;rcases l with⟨G,hm⟩|⟨G,c,W,F⟩
 ·exact za4 (wpAny_loadName_local I.ok.kind G hn hm q) J
 ·rcases G with G|G
  ·exact za4 (wpAny_loadName_cell I.ok.kind G W F q) J
  ·exact za4 (wpAny_loadName_free I.ok.kind G W F q U) J
theorem xC{A:XS}{e C:Addr}{o:Obj}{F:String}{Q:Value->XE->Prop}{E:Value->XE->Prop}{vs:Array Value}(J:X.K.In s.heap)(k:ExcK X.K C)(G:s.heap.get? e=some o)(N:o.cls=.ref C)(Y:o.data=.fields vs)(q:Q (.ref e) s) :
  wpAny (model X.prog X.w) A (excFromValue (.ref e) F) Q E s:=by
 have W:Looks (model X.prog X.w) s.heap (zao (.ref e)) (.ref C):=N ▸ (Looks.ld G).andThen .now;have U:=looks_subIn (M:=model X.prog X.w) J k.be;obtain⟨h,g,d,tk,os⟩:=s;unfold excFromValue isExcClass isInstance
 repeat (first|with_reducible refine Looks.at W ?_|with_reducible refine Looks.at U ?_|with_reducible refine wpAny_loadPart_at G ?_|wp_step)
 exact q
theorem yZ{x t n:Str}{C C0 ea:Addr}{oe:Obj}{ie:Nat}{j}{np cp cpos pos an:Pos}{Q:Flow->XE->Prop}{E:Value->XE->Prop}(I:Inv (kF X ea oe) pins σ H s)(ai:oe.cls=.ref C0)(kE:ExcK X.K C0)(kC:ExcK X.K C)(ln:g5 s.heap ea)(hg:Gl X x)(T:ExcAt X.K X.mg x C)
  (ad:X.N[ie]?=some n) (hv:EJ X.env.scope n) (aa:σ[ie]?=some (some (.ref ea)))
  (k:∀h' e2 U tk,(∀b o,s.heap.get? b=some o->h'.get? b=some o)->s.heap.get? e2=none->h'.get? e2=some {cls:=.ref C,data:=.fields #[.ref U,.none,.ref ea,.ref ea,.bool true,.none]}->E (.ref e2) {s with heap:=h',toks:=tk})
  (af:(x == ("__debug__" : Str))=false:=by decide) (am:(n == ("__debug__" : Str))=false:=by decide) (al:(n == ("__classdict__" : Str))=false:=by decide) :
  wpAny (model X.prog X.w) (X.A.mark (some (.ref ea))) (exec (.Raise (some (.Call (.Name x np) [.Constant (.str t) j cp] [] cpos)) (some (.Name n an)) pos) X.env) Q E s:=by
 rw[arm_exec_Raise];simp only[evalOpt,Option.map];refine XD (zaG ?_);unfold raiseStmt;refine XD (XD (GA (X:=kF X ea oe) I hg T (λh' e vs J=>XD (zaG (XJ ?_))) af));obtain⟨U,h2,_,_⟩:=J.there;have I1:Inv (kF X ea oe) pins σ H {s with heap:=h',toks:=s.toks+1}:=I.kept J.keeps;refine XD (Y1 (XD (OX (X:=kF X ea oe) I1 ad hv aa (XD (zaG (XJ (XD (XJ ?_))))) am al)));obtain⟨ay,ws,q1,q2,q3⟩:=ln;have aj:=(I.pin (ea,oe) (Z4 _ (X8 ..))).1;have F:s.heap.get? ea=some oe:=aj;rw[F]at q1;cases q1;have W:h'.get? ea=some oe:=J.keeps _ _ F;have ne:ea≠e:=λz=>by have:=J.new;rw[<- z,F]at this;cases this
 refine XD (Y1 (xC (X:=X) I1.kIn kC h2 rfl rfl ?_));show wpAny _ _ (if(XN ea == X4)=true then _ else _) _ _ _;rw[if_neg (show ¬ ((XN ea == X4)=true) by simp)];refine XD (Y1 (xC (X:=X) I1.kIn kE W ai q2 ?_));refine XD (Z9 h2 rfl (by simp) ?_);have d3:=zap (o:={cls:=.ref C,data:=.fields #[.ref U,.none,.none,.none,.bool false,.none]}) rfl (·.setIfInBounds 3 (XN ea));have e3:=ZS (ZG (·.setIfInBounds 3 (XN ea))) h2 (zaY d3);refine XD (Z9 e3 d3 (by simp) ?_);have d4:=zap d3 (·.setIfInBounds 4 (YV true));have e4:=ZS (ZG (·.setIfInBounds 4 (YV true))) e3 (zaY d4);have o4:∀b,b≠e->((h'.update e (ZG (·.setIfInBounds 3 (XN ea)))).update e (ZG (·.setIfInBounds 4 (YV true)))).get? b=h'.get? b:=λb z=>(Y5 _ _ (X5 z)).trans (Y5 _ _ (X5 z))
 show wpAny _ _ _ _ _ {s with heap:=(h'.update e (ZG (·.setIfInBounds 3 (XN ea)))).update e (ZG (·.setIfInBounds 4 (YV true))),toks:=s.toks+1};generalize (h'.update e (ZG (·.setIfInBounds 3 (XN ea)))).update e (ZG (·.setIfInBounds 4 (YV true)))=h4 at e4 o4 ⊢;have G:h4.get? e=some {cls:=.ref C,data:=.fields #[.ref U,.none,.none,.ref ea,.bool true,.none]}:=e4;clear e4 d4 e3 d3;have Y:X.K.In h4:=λb o q=>(o4 b λz=>by have:=I.kIn b o q;rw[z]at this;have n:=J.new;rw[n]at this;cases this).trans (I1.kIn b o q)
 have L0:Looks (model X.prog X.w) h4 (zao (.ref e)) (.ref C):=(Looks.ld G).andThen .now;have L1:=looks_typeIn (M:=model X.prog X.w) Y kC.ty;have ae:h4.get? ea=some oe:=(o4 ea ne).trans W;generalize s.toks+1=tk;unfold raisedInstance za1;have hk:=λb o (q:s.heap.get? b=some o)=>(o4 b λz=>by have n:=J.new;rw[<- z,q]at n;cases n).trans (J.keeps b o q)
 have hn:=J.new;obtain⟨hs,g,d,a4,os⟩:=s
 repeat (first|with_reducible refine Looks.at L0 ?_|with_reducible refine Looks.at L1 ?_|with_reducible refine wpAny_loadPart_at G ?_|wp_step)
 unfold raiseNew;refine XD (zcy ?_);show wpAny _ _ (if(XN ea != XN e)=true then _ else _) _ _ _;rw[if_pos (show(XN ea != XN e)=true by simp[ne])];refine XD (Y1 (yX (X:=X) ae q2 q3 (XD ?_)));show wpAny _ _ (zaJ (.ref e) 2 (.ref ea)) _ _ _;refine Z9 G rfl (by simp) (zbM ?_);have d5:=zap (o:={cls:=.ref C,data:=.fields #[.ref U,.none,.none,.ref ea,.bool true,.none]}) rfl (·.setIfInBounds 2 (XN ea));refine k _ e U tk (λb o q=>(Y5 _ _ λz=>?_).trans (hk b o q)) hn (ZS (ZG (·.setIfInBounds 2 (XN ea))) G (zaY d5));rw[<- z,hn]at q;cases q
end
end My
namespace My
open PySem PySem.Spec PyProof.Rows L2 PySem.SeqAt
theorem NH{h h' base:Heap}{L:Addr}(k:∀b,b≠L->h'.get? b=h.get? b)(n:∃o,h'.get? L=some o/\∀vs,o.data≠.fields vs):∀ {l:List Env},h.FunFrames base l->h'.FunFrames base l
 | [],_=>trivial
 | env::rest,⟨hk,⟨L',o,hf,hn,ho,hd⟩,hr⟩=>by
  refine⟨hk,?_,NH k n hr⟩;by_cases z:L'=L
  ·subst z;obtain⟨o',q,d⟩:=n;exact⟨L',o',hf,hn,q,d⟩
  ·exact⟨L',o,hf,hn,(k L' z).trans ho,hd⟩
theorem J0{h h' B:Heap}{l:List Env}{e L U:Addr}{cls a0:Value}(hh:ZW B l e cls a0 U h)(hB:B.get? L=none)(k:∀b,b≠L->h'.get? b=h.get? b)(n0:∃o,h.get? L=some o/\∀vs,o.data≠.fields vs)(n:∃o,h'.get? L=some o/\∀vs,o.data≠.fields vs):ZW B l e cls a0 U h':=by
 obtain⟨x1,x2,x3,oe,vs,T,oT,ts,N,hc,W,h1,G,J,hT,F,h3⟩:=hh;obtain⟨o0,Y,d0⟩:=n0;have ne:e≠L:=λz=>by rw[z,Y]at N;cases N;exact d0 vs W
 have nT:T≠L:=λz=>by rw[z,Y]at hT;cases hT;exact d0 ts F
 exact⟨λb o q=>(k b λz=>by rw[z,hB]at q;cases q).trans (x1 b o q),x2,NH k n x3,oe,vs,T,oT,ts,(k e ne).trans N,hc,W,h1,G,J,(k T nT).trans hT,F,h3⟩
section
variable {M:Model}{A:XS}{E:Value->XE->Prop}{s:XE}{B:Heap}{l:List Env}{env:Env}{L e:Addr}{cls a0:Value}
theorem zJ{Q:Unit->XE->Prop}(N:env.frame=some L)(hh:ZW B l e cls a0 L s.heap)(Y:∀h',ZW B l e cls a0 L h'->s.heap.UpToSlots h'->Q () {s with heap:=h'}){w:String} :
  wpAny M A (do
   if(<- field (.ref e) 1) == .none then unsupported w
   za1 (.ref e) env.frame) Q E s:=by
 obtain⟨G,q,W,F⟩:=hh;obtain⟨oe,vs,T,oT,ts,J,hc,U,h1,r⟩:=id F;refine XD (YI J U h1 ?_);rw[if_neg (show ¬ ((XN T == X4)=true) by simp),N];exact iA G q W F λh' a b c _ f=>Y h' ⟨a,q,b,c⟩ f
theorem LY{Q:Flow->XE->Prop}{w:String}(N:env.frame=some L)(hh:ZW B l e cls a0 L s.heap)(Y:∀h',ZW B l e cls a0 L h'->s.heap.UpToSlots h'->E (.ref e) {s with heap:=h'}) :
  wpAny M A (PySem.passOn w (.ref e) env:Sem Flow) Q E s:=by
 unfold PySem.passOn;obtain⟨G,q,W,F⟩:=hh;obtain⟨oe,vs,T,oT,ts,J,hc,U,h1,r⟩:=id F;refine XD (YI J U h1 ?_);rw[if_neg (show ¬ ((XN T == X4)=true) by simp),N];exact XD (iA G q W F λh' a b c _ f=>zbM (Y h' ⟨a,q,b,c⟩ f))
end
end My
namespace P
open PySem PySem.Spec PyProof.Rows L2
def IN(G:List D->Option Str)(J q:Str)(F:Lv):Xv:=λρ=>(F ρ).bind λds=>if G ds=some J then some q else none
section
variable {X:Cx}{O:List Nat}
theorem LI{f y n x0 v x2 t:Str}{vp:Pos}{ys:List Str}{ie k:Nat}{ps:List Str}{F:List D->Option D}{G:List D->Option Str}{e:Expr}{es:List Expr}{fa:Lv}{j}{p cpos ag yp aq pos np cp al ca ar:Pos}
  (hc:X.calm=true) (Y:X.stack=X.env::X.outer) (aa:X.env.frame=some X.env.locals) (FX:FnX X.prog X.w X.K X.mg X.base f k ps F G) (hr:Room k X.A) (hg:Gl X f) (ha:sL X.nox O (e::es) fa) (hl:∀ρ ds,fa ρ=some ds->ds.length=ps.length)
  (T:My.TryAt X.K X.mg x0 y ys) (bg:chained x0=false) (b1:chained x2=true) (bt:Gl X x2) (T2:∃C,My.ExcAt X.K X.mg x2 C) (hy:Gl X y) (hN:X.N.Nodup) (ad:X.N[ie]?=some n) (ab:X.env.scope.names.lookup n=some .local)
  (b0:(f == ("__debug__" : Str))=false:=by decide) (bi:(y == ("__debug__" : Str))=false:=by decide) (cf:(x2 == ("__debug__" : Str))=false:=by decide) (bv:(n == ("__debug__" : Str))=false:=by decide) (ce:(n == ("__classdict__" : Str))=false:=by decide)
  (he:XI (e::es) X.env=(false,eval e X.env)::XI es X.env:=by rfl) (bf:(X0 cpos (XI es X.env)).any (·.1)=false:=by rfl) (hs:YL (.Call (.Name f p) (e::es) [] cpos) (some (.Name v vp)) ag.line X.env=pure false:=by rfl) :
  PX X O (.Try [.Assign [.Name v vp] (.Call (.Name f p) (e::es) [] cpos) ag] [.ExceptHandler (some (.Name y yp)) (some n) [.Raise (some (.Call (.Name x2 np) [.Constant (.str t) j cp] [] al)) (some (.Name n ca)) ar] aq] [] [] pos) (IN G x0 x2 fa):=λpins s σ H H0 A0 A E ρ z I st eo W=>by
 obtain⟨ds,ed,eo⟩:=bind_some eo;by_cases hG:G ds=some x0
 case neg=>rw[if_neg hG]at eo;cases eo
 rw[if_pos hG]at eo;cases eo;obtain⟨fn,fd,hk,hb,hm,FO⟩:=FX.ex;obtain⟨C0,Cy,h0,bu,ky,ck,sy,sv,ho⟩:=T.ex;obtain⟨C2,h2⟩:=T2;refine zdl (zaF (zcW ?_ hs));refine zaR (eX I hg hm ?_ b0);have bl:=ha cpos pins s σ H (λvs H1=>Ext A H H1/\RepL A H1 ds vs) (I.wish _) ⟨H0,A0,A,E,ρ,ds,st,ed,λvs H1 x1 r1=>⟨x1,r1.toL⟩⟩;refine zbB (h₀:=X.base) I.ok.mod.kin hk (X3 bl (λus s1 hq=>?_) λe s z=>z.elim) he bf;obtain⟨vs,H1,cc,r,x1,rl⟩:=hq;have I1:=cc.unwish;have lv:=(st.mono x1).live;have aw:vs.length=ps.length:=by rw[rl.length];exact hl ρ ds ed
 have bj:us.length=ps.length:=by rw[<- r.length];exact aw
 refine⟨I1.kIn,?_⟩;refine za8 (zav (FO.run X.A X.stack s1 H1 ⟨us,[]⟩ us vs (λ_ _=>False) (λc a H2=>c=.ref C0/\(a=none/\Ext A H1 H2)) hr I1.env0 (by have:=hb s1 us I1.kIn (by rw[ZZ];exact bj);rwa [ZZ]at this) r ⟨aw,A,ds,lv,rl,.inr ⟨x0,hG,λC a H2 hC cb x2=>⟨by rw[h0.bound]at hC;cases hC;rfl,cb bg,x2⟩⟩⟩) λrr s2 hq=>?_);cases rr with
 | ok fl=>
  cases fl with
  | ret u=>
   obtain⟨v,H2,I2,rv,x2⟩:=I1.after hq;exact x2.elim
  | next=>exact YF hq
  | brk=>exact YF hq
  | cont=>exact YF hq
 | error e=>
  refine My.xA (Good:=λa H2=>a=none/\Ext A H1 H2) I1 Y aa hq hy bu (My.AD sy ky ck) (λea oe c H2 s6 a3 gd ln J=>?_) bi;obtain⟨ec,x2⟩:=gd;have cd:=ln ec;refine i5 (X:=My.kF X ea oe) J hN ad (.inl ab) (v:=.ref ea) rfl (λU J7=>?_) (.inr ab);have hi:ie<σ.length:=by rw[I.len];exact(List.getElem?_eq_some_iff.mp ad).1
  have p6:s6.heap.get? ea=some oe:=(J.pin (ea,oe) (Z4 _ (X8 ..))).1;have p7:U.heap.get? ea=some oe:=(J7.pin (ea,oe) (Z4 _ (X8 ..))).1;have bn:My.g5 U.heap ea:=by
   obtain⟨o',ws,q1,q2,q3⟩:=cd;rw[p6]at q1;cases q1;exact⟨oe,ws,p7,q2,q3⟩
  refine zaF (My.yZ (X:=X) J7 a3 h0.k h2.k bn bt h2 ad (.inl ab) (by simp[hi]) (λh' e2 t2 tk keeps nw bp=>?_) cf bv ce);have I7:=My.AE J7 I.ok.hd;obtain⟨m,ae,bm⟩:=I7.loc;have az:=PySem.W.funFrames_hide (as:=frs X.stack) I7.stack λenv he a hf=>List.mem_filterMap.mpr ⟨env,he,hf⟩
  have ap:X.env.locals∈frs X.stack:=by rw[Y];exact List.mem_filterMap.mpr ⟨X.env,X8 ..,aa⟩
  have bw:=(az.mem ap).1;have cg:(zaQ U.heap (frs X.stack)).get? e2=none:=by
   cases q:(zaQ U.heap (frs X.stack)).get? e2 with
   | none=>rfl
   | some o=>have:=zb3 _ q;rw[nw]at this;cases this
  have au:∀l,X.stack=l->U.heap.FunFrames (zaQ U.heap (frs X.stack)) l:=λl e=>by cases e;exact az
  refine My.oU (base:=zaQ U.heap (frs X.stack)) (outer:=X.outer) (a0:=.ref t2) (I.ok.frames.trans (by rw[Y])) ((au _ Y).of_keeps λb o q _=>⟨o,keeps b o q,rfl⟩) aa bp (λb o q=>keeps b o (zb3 _ q)) cg rfl rfl rfl λh8 b2 _ u8=>?_
  have aj:U.heap.UpToSlots h8:=(Heap.UpToSlots.of_keeps keeps).trans u8;refine wpAny_nameGoes_keeps ab (aj.ns ae) (by rw[I.ok.kind];rfl) λh9 v9 an a1=>?_
  have a2:∀ {h:Heap} {m:Str->Option Value},h.Ns X.env.locals m->∃o,h.get? X.env.locals=some o/\∀vs,o.data≠.fields vs:=λ⟨o,es,ep,q,d,_⟩=>⟨o,q,λvs z=>by rw[d]at z;cases z⟩
  have b3:=My.J0 b2 bw (λb z=>a1.2 b z) (a2 (aj.ns ae)) (a2 an);refine My.LY aa b3 λdc ah bq=>?_
  refine wpAny_noteFrame_againW aa ah.2.2.2 ?_;refine My.zJ aa ah λao ax cj=>?_
  obtain⟨oL,ch,br,q9,d9,r9⟩:=id an;have bx:∃o,U.heap.get? X.env.locals=some o:=let ⟨o,_,_,q,_⟩:=ae;⟨o,q⟩;obtain⟨o7,q7⟩:=bx;have g1:(U.heap.update X.env.locals λ_=>oL).get? X.env.locals=some oL:=ZS _ q7 (by have:=q9;exact(Heap.get?_some_iff.mp this).2);have g2:∀b,b≠X.env.locals->(U.heap.update X.env.locals λ_=>oL).get? b=U.heap.get? b:=λb z=>Y5 _ _ (X5 z)
  have I9:=My.pP (h':=U.heap.update X.env.locals λ_=>oL) (t':=tk+1) I7 hN ad ae bm ⟨oL,ch,br,g1,d9,r9⟩ ⟨by cases U with|mk h _ _ _ _=>cases h;simp[Heap.update],g2⟩;have up:(U.heap.update X.env.locals λ_=>oL).UpToSlots ao:=by
   refine Heap.UpToSlots.trans (λb o q nf=>?_) (bq.trans cj);by_cases z:b=X.env.locals
   ·subst z;rw[g1]at q;cases q;exact⟨oL.slots,q9⟩
   ·rw[g2 b z]at q
    obtain⟨sl,q'⟩:=aj b o q nf;exact⟨sl,(a1.2 b z).trans q'⟩
  have ai:∀l,X.env::X.outer=l->ZW (zaQ U.heap (frs X.stack)) l e2 (.ref C2) (.ref t2) X.env.locals ao:=λl e=>by cases e;exact ax
  refine W _ _ (.held (s':={U with heap:=U.heap.update X.env.locals λ_=>oL,toks:=tk+1}) b1 h2.bound I9 (st.mono (x1.trans x2)).ex aa (λb o q nb=>?_) (ai _ Y.symm) up ?_)
  ·have z:b≠X.env.locals:=λz=>nb (z ▸ ap)
   exact zcT _ ((g2 b z).symm.trans q) nb
  ·exact(g2 e2 λz=>by rw[z,q7]at nw;cases nw).trans nw
end
def RH(X:Cx)(O:List Nat)(e:Expr)(g:Xv):Prop:=∀(pins:List (Addr×Obj)) (s:XE) (σ:L2.St) (H H0:Hp) (A0 A:Av) (E:List Fact) (ρ:cL) (x:Str),Inv X pins σ H s->ST H0 A0 A E O σ H ρ->g ρ=some x->
 (∀e s',Raised X A0 H0 x e s'->X.xe e s')->wpAny (model X.prog X.w) X.A (eval e X.env) (λ_ _=>False) X.xe s
def RJ(X:Cx)(O:List Nat)(es:List Expr)(g:Xv):Prop:=∀(pos:Pos) (pins:List (Addr×Obj)) (s:XE) (σ:L2.St) (H H0:Hp) (A0 A:Av) (E:List Fact) (ρ:cL) (x:Str),Inv X pins σ H s->ST H0 A0 A E O σ H ρ->g ρ=some x->
 (∀e s',Raised X A0 H0 x e s'->X.xe e s')->wpAny (model X.prog X.w) X.A (spliced (X0 pos (XI es X.env))) (λ_ _=>False) X.xe s
section
variable {X:Cx}{O:List Nat}
theorem qY{e:Expr}:RH X O e fT:=λ_ _ _ _ _ _ _ _ _ _ _ _ e=>nomatch e
theorem G6{es:List Expr}:RJ X O es fT:=λ_ _ _ _ _ _ _ _ _ _ _ _ _ e=>nomatch e
theorem qB{f:Str}{k:Nat}{ps:List Str}{F:List D->Option D}{G:List D->Option Str}{e:Expr}{es:List Expr}{fa:Lv}{p cpos:Pos}(FX:FnX X.prog X.w X.K X.mg X.base f k ps F G)(hr:Room k X.A)(hg:Gl X f)(ha:sL X.nox O (e::es) fa)(hl:∀ρ ds,fa ρ=some ds->ds.length=ps.length)(ad:(f == ("__debug__" : Str))=false:=by decide)
  (he:XI (e::es) X.env=(false,eval e X.env)::XI es X.env:=by rfl) (ac:(X0 cpos (XI es X.env)).any (·.1)=false:=by rfl) :
  RH X O (.Call (.Name f p) (e::es) [] cpos) (eE G fa):=λpins s σ H H0 A0 A E ρ y I st eo W=>by
 obtain⟨ds,ed,eo⟩:=bind_some eo;obtain⟨fn,fd,hk,hb,hm,FO⟩:=FX.ex;refine zaR (eX I hg hm ?_ ad);refine zbB (h₀:=X.base) I.ok.mod.kin hk (X3 (ha cpos pins s σ H (λvs H1=>Ext A H H1/\RepL A H1 ds vs) (I.wish _) ⟨H0,A0,A,E,ρ,ds,st,ed,λvs H1 U r1=>⟨U,r1.toL⟩⟩) (λY s1 q=>?_) λ_ _ z=>z.elim) he ac;obtain⟨vs,H1,aa,r,U,rl⟩:=q;have N:=aa.unwish;have lv:=(st.mono U).live;have J:vs.length=ps.length:=by rw[rl.length];exact hl ρ ds ed
 have ae:Y.length=ps.length:=by rw[<- r.length];exact J
 refine⟨N.kIn,za8 (zav (FO.run X.A X.stack s1 H1 ⟨Y,[]⟩ Y vs (λ_ _=>False) (λc a H2=>∃C,X.mg y=some (.ref C)/\c=.ref C/\(chained y=false->a=none)/\Ext A0 H0 H2) hr N.env0 (by have:=hb s1 Y N.kIn (by rw[ZZ];exact ae);rwa [ZZ]at this) r ⟨J,A,ds,lv,rl,.inr ⟨y,eo,λC a H2 hC ha x2=>⟨C,hC,rfl,ha,(st.mono (U.trans x2)).ex⟩⟩⟩) λrr s2 q=>?_)⟩;cases rr with
 | error e=>exact W _ _ (.flew N q)
 | ok fl=>
  cases fl with
  | ret u=>obtain⟨v,H2,I2,rv,z⟩:=N.after q;exact z.elim
  | next=>exact YF q
  | brk=>exact YF q
  | cont=>exact YF q
theorem QN{e:Expr}{g:Xv}{pos:Pos}(h:RH X O e g):PX X O (.Return (some e) pos) g:=λpins s σ H H0 A0 A E ρ y I st q W=>
 wpAny_Return_some (X3 (h pins s σ H H0 A0 A E ρ y I st q W) (λ_ _ z=>z.elim) λ_ _ z=>z)
def jD(f:Ev)(g r:Xv):Xv:=λρ=>((g ρ).map some).getD ((f ρ).bind λ_=>r ρ)
theorem eD{e:Expr}{es:List Expr}{f:Ev}{g r:Xv}(J:PD X.nox O e f)(U:RH X O e g)(N:RJ X O es r)(hs:XI (e::es) X.env=(false,eval e X.env)::XI es X.env:=by rfl):RJ X O (e::es) (jD f g r):=λpos pins s σ H H0 A0 A E ρ y I st q W=>by
 rw[hs];show wpAny _ _ (spliced ((false,eval e X.env)::X0 pos (XI es X.env))) _ _ s;unfold jD at q;cases e1:g ρ with
 | some z=>
  rw[e1]at q;cases q;exact zaI (X3 (U pins s σ H H0 A0 A E ρ y I st e1 W) (λ_ _ z=>z.elim) λ_ _ z=>z)
 | none=>
  rw[e1]at q;obtain⟨d,Y,q⟩:=bind_some q;refine zaI (bX (PE.nox J pins s σ H (λv H1=>Ext A H H1) I ⟨H0,A0,A,E,ρ,d,st,Y,λv H1 F _=>F⟩) λu G ⟨x,H1,I1,r1,F⟩=>?_);exact X3 (N pos pins G σ H1 H0 A0 A E ρ y I1 (st.mono F) q W) (λ_ _ z=>z.elim) λ_ _ z=>z
theorem A4{es:List Expr}{g:Xv}{x1}{pos:Pos}(h:RJ X O es g):RH X O (.Tuple es x1 pos) g:=λpins s σ H H0 A0 A E ρ y I st q W=>
 wpAny_Tuple_spliced (X3 (h pos pins s σ H H0 A0 A E ρ y I st q W) (λ_ _ z=>z.elim) λ_ _ z=>z)
def MS(i:Nat)(g:Xv):Xv:=λρ=>(aA i ρ).bind λx=>match x with
 | .lst _=>g ρ
 | _=>none
def W9(X:Cx)(O:List Nat)(g:Xv):TA:=λσ H _=>∃H0 A0 A E ρ x,ST H0 A0 A E O σ H ρ/\g ρ=some x/\∀e s',Raised X A0 H0 x e s'->X.xe e s'
theorem F6{es:List Expr}{g:Xv}(h:RJ X O es g):PA X es (W9 X O g):=λpos pins s σ H Q I ⟨H0,A0,A,E,ρ,x,st,e,W⟩=>
 X3 (h pos pins s σ H H0 A0 A E ρ x I st e W) (λ_ _ z=>z.elim) λ_ _ z=>z
theorem QL(i:Nat){o e:Expr}{apos cpos pos:Pos}{g:Xv}(hg:RH X O e g)(ho:PE X o (iN i):=by exact pv _)(hO:mem O i=true:=by rfl)(a1:zbe o "append" X.env (eval o X.env)=eval o X.env:=by rfl)(a2:((((X0 cpos (XI [e] X.env)).all λx=>!x.fst) && (backToKw cpos (zcm [] X.env)).all λx=>x.fst.isSome) && decide (([e].length+([]:List zax).length+if([]:List zax).isEmpty=true then 0 else 1)<30))=true:=by rfl)(Y:(apos.endLine == cpos.line)=true:=by rfl)(N:XI [e] X.env=(false,eval e X.env)::XI [] X.env:=by rfl)(U:((X0 cpos (XI [] X.env)).any λx=>x.fst)=false:=by rfl)(hs:YL (.Call (.Attribute o "append" apos) [e] [] cpos) none pos.line X.env=pure false:=by rfl) :
  PX X O (.Expr (.Call (.Attribute o "append" apos) [e] [] cpos) pos) (MS i g):=λpins s σ H H0 A0 A E ρ y I st G W=>by
 obtain⟨x,ex,G⟩:=bind_some G;cases x with
 | lst l=>
  obtain⟨a,e1,e2,e3,e4⟩:=st.own i _ (bQ ex) (fZ hO);cases e4 with
  | lst h4 r4=>
   have J:RJ X O [e] g:=λpos pins s σ H H0 A0 A E ρ y I st G W=>by
    rw[N];show wpAny _ _ (spliced ((false,eval e X.env)::X0 pos (XI [] X.env))) _ _ s;exact zaI (X3 (hg pins s σ H H0 A0 A E ρ y I st G W) (λ_ _ z=>z.elim) λ_ _ z=>z)
   refine X3 (n9 (B5 zcO PySem.F.slot_list_append PySem.F.type_list_append mI ho (F6 J) a1 a2 Y N U) hs pins s σ H {nx:=λ_ _=>False,rt:=λ_ _=>False} I ⟨_,e1,.inl ⟨rfl,_,SqL.of h4⟩,H0,A0,A,E,ρ,y,st,G,W⟩) (λfl s1 q=>?_) λ_ _ z=>z
   cases fl with
   | next=>obtain⟨_,_,_,q⟩:=q;exact q
   | ret v=>obtain⟨_,_,_,_,_,q⟩:=q;exact q
   | brk=>obtain⟨_,_,_,q⟩:=q;exact q
   | cont=>obtain⟨_,_,_,q⟩:=q;exact q
 | _=>cases G
end
end P
namespace My
open PySem PySem.Spec PyProof.Rows L2 PySem.SeqAt
def UU(ie:Nat)(ea:Addr)(d:P.D):TE:=λσ H Q=>σ[ie]?=some (some (.ref ea))/\∀v H',(∀A,P.Live A H->P.Ext A H H'/\P.Rep A H' d v)->Q v H'
section
variable {X:Cx}
theorem nP{e:Expr}{ie:Nat}{ea:Addr}{b:Bool}(h:PE X e (tE ie ea b)):PE X e (UU ie ea (.bl b)):=
 P.PE.mono h λσ H Q ⟨e,q⟩=>⟨e,λH' x=>q _ _ λA _=>⟨x A,.bl _⟩⟩
def UL(ie:Nat)(ea:Addr)(bs:List Bool):TA:=λσ H Q=>σ[ie]?=some (some (.ref ea))/\∀H',(∀A,P.Ext A H H')->Q (bs.map .bl) H'
theorem vY{ie:Nat}{ea:Addr}:PA X [] (UL ie ea []):=λpos pins s σ H Q I ⟨e,q⟩=>dX pos pins s σ H Q I (q H λA=>P.Ext.refl A H)
theorem b8{ie:Nat}{ea:Addr}{b:Bool}{bs:List Bool}{e:Expr}{es:List Expr}(h:PE X e (tE ie ea b))(r:PA X es (UL ie ea bs))(hs:XI (e::es) X.env=(false,eval e X.env)::XI es X.env:=by rfl):PA X (e::es) (UL ie ea (b::bs)):=λpos pins s σ H Q I ⟨e,q⟩=>
 bB h r hs pos pins s σ H Q I ⟨e,λH1 G=>⟨e,λH2 F=>q H2 λA=>(G A).trans (F A)⟩⟩
theorem A6{A:P.Av}{H:Hp}:∀(bs:List Bool),P.RepL A H (bs.map .bl) (bs.map .bl)
 | []=>.nil
 | _::bs=>.cons (.bl _) (A6 bs)
theorem vU{es:List Expr}{pos:Pos}{ie:Nat}{ea:Addr}{bs:List Bool}(h:PA X es (UL ie ea bs))(hz:bs.length<=XQ):PE X (.List es pos) (UU ie ea (.lst (bs.map .bl))):=
 P.PE.mono (HX h) λσ H Q ⟨e,q⟩=>⟨e,λH1 G=>⟨by rw[XR];exact hz,λp F=>q _ _ λA J=>by
  have N:¬ A p:=λz=>by
   cases ho:H p with
   | none=>exact J p z ho
   | some o=>have:=(G A).ow p o z ho;rw[F]at this;cases this
  exact⟨(G A).trans (P.Ext.new F),.lst N (.of aN) (A6 bs)⟩⟩⟩
theorem oC{ea:Addr}{ie:Nat}{a b:Expr}{p pos:Pos}(N:PE X a (tE ie ea false))(J:PE X b (tE ie ea true)):PE X (.BoolOp .Or [a,.UnaryOp .Not b p] pos) (tE ie ea false):=
 P.PE.mono (SX N (HE (IL J))) λσ H Q ⟨e,q⟩=>⟨e,λH1 G=>⟨false,rfl,by
  simp;exact⟨e,λH2 F=>⟨true,rfl,q H2 λA=>(G A).trans (F A)⟩⟩⟩⟩
inductive HR(X:Cx)(ie:Nat)(ea:Addr):List Stmt->List (Nat×P.D)->Prop
 | nil:HR X ie ea [] []
 | cons {st:Stmt} {sts:List Stmt} {i:Nat} {d:P.D} {l:List (Nat×P.D)}:PS X st (I0 (UU ie ea d) (rH i))->i≠ie->HR X ie ea sts l->HR X ie ea (st::sts) ((i,d)::l)
end
end My
namespace P
open PySem PySem.Spec PyProof.Rows L2
def B8:List (Nat×D)->cL->cL
 | [],ρ=>ρ
 | p::l,ρ=>B8 l (ρ.set p.1 (some p.2))
theorem QA{X:Cx}{ie:Nat}{ea:Addr}{G:List Stmt}{l:List (Nat×D)}(h:My.HR X ie ea G l):PSs X G (λD σ H=>σ[ie]?=some (some (.ref ea))/\∃H0 A0 A E O ρ,ST H0 A0 A E O σ H ρ/\(∀p∈l,p.1∉O)/\∀F H' A',ST H0 A0 A' E O F H' (B8 l ρ)->D.nx F H'):=by
 induction h with
 | nil=>exact λpins s σ H D I ⟨_,H0,A0,A,E,O,ρ,st,_,q⟩=>BL pins s σ H D I (q σ H A st)
 | cons h1 hne _ ih=>
  intro pins s σ H D I ⟨e,H0,A0,A,E,O,ρ,st,J,q⟩;refine lL h1 ih pins s σ H D I ⟨e,λv H1 W=>?_⟩;obtain⟨N,Y⟩:=W A st.live;refine⟨by rw[ZX hne];exact e,H0,A0,A,E,O,_,(st.mono N).put Y (J _ (X8 ..)),λp U=>J p (YH _ U),q⟩
def uG(jv ie:Nat)(F:List D->Option D)(G:List D->Option Str)(tl:List (Str×List (Nat×D)))(fa:Lv):Sv:=λρ=>(fa ρ).bind λds=>match G ds with
 | some x=>(tl.lookup x).bind λl=>some (.nx ((B8 l (ρ.set ie none)).set ie none))
 | none=>(F ds).bind λd=>some (.nx (ρ.set jv (some d)))
theorem tT{q:Type}:∀ {tl:List (Str×q)} {x:Str} {l:q},tl.lookup x=some l->(x,l)∈tl
 | [],_,_,e=>nomatch e
 | (y,m)::tl,x,l,e=>by
  by_cases h:(x == y)=true
  ·rw[za0,h]at e;cases e;rw[eq_of_beq h];exact X8 ..
  ·rw[za0,Bool.eq_false_iff.mpr h]at e;exact YH _ (tT e)
section
variable {X:Cx}{L:Lp}{O O':List Nat}
theorem FZ{f y n v:Str}{vp:Pos}{jv:Nat}{ie k:Nat}{ps:List Str}{F:List D->Option D}{G:List D->Option Str}{e ad:Expr}{bt:Expr}{bp:Pos}{es:List Expr}{rest:List Stmt}{fa:Lv}{tl:List (Str×List (Nat×D))}{p cpos ab yp aj pos:Pos}
  (bc:∀e s,X.xe e s->False) (hc:X.calm=true) (al:X.stack=X.env::X.outer) (be:X.env.frame=some X.env.locals) (FX:FnX X.prog X.w X.K X.mg X.base f k ps F G) (hr:Room k X.A) (hg:Gl X f) (ha:sL X O (e::es) fa) (hl:∀ρ ds,fa ρ=some ds->ds.length=ps.length)
  (T:∀p∈tl,∃ys,My.TryAt X.K X.mg p.1 y ys/\∀C0 ea oe,oe.cls=.ref C0->X.mg p.1=some (.ref C0)->My.ExcK X.K C0->YG X.K (.ref C0) (.type "ValueError")=some true->(∀z∈ys,My.UP X.K X.mg C0 z)->My.HR (My.kF X ea oe) ie ea (.Assign [bt] ad bp::rest) p.2) (hy:Gl X y) (hN:X.N.Nodup) (bi:X.N[jv]?=some v) (ae:X.env.scope.names.lookup v=some .local) (bg:jv∉O) (af:X.N[ie]?=some n) (W:X.env.scope.names.lookup n=some .local) (hO:ie∉O) (ba:∀p∈tl,∀q∈p.2,q.1∉O)
  (h:Sub O' O=true:=by rfl) (bd:(f == ("__debug__" : Str))=false:=by decide) (ay:(y == ("__debug__" : Str))=false:=by decide)
  (he:XI (e::es) X.env=(false,eval e X.env)::XI es X.env:=by rfl) (aw:(X0 cpos (XI es X.env)).any (·.1)=false:=by rfl) (hs:YL (.Call (.Name f p) (e::es) [] cpos) (some (.Name v vp)) ab.line X.env=pure false:=by rfl) :
  PSD X L O (.Try [.Assign [.Name v vp] (.Call (.Name f p) (e::es) [] cpos) ab] [.ExceptHandler (some (.Name y yp)) (some n) (.Assign [bt] ad bp::rest) aj] [] [] pos) (uG jv ie F G tl fa) O':=by
 intro pins s σ H Td I ⟨H0,A0,A,E,ρ,cu,st,Y,ac⟩;obtain⟨ds,ed,Y⟩:=bind_some Y;obtain⟨fn,fd,hk,hb,hm,FO⟩:=FX.ex;refine zdl (zaF (zcW ?_ hs));refine zaR (eX I hg hm ?_ bd);refine zbB (h₀:=X.base) I.ok.mod.kin hk (X3 (ha cpos pins s σ H (λvs H1=>Ext A H H1/\RepL A H1 ds vs) I ⟨H0,A0,A,E,ρ,ds,st,ed,λvs H1 x1 r1=>⟨x1,r1.toL⟩⟩) (λus s1 U=>?_) λe s z=>(bc e s z).elim) he aw;obtain⟨vs,H1,I1,r,x1,rl⟩:=U;have lv:=(st.mono x1).live;have ag:vs.length=ps.length:=by rw[rl.length];exact hl ρ ds ed
 have az:us.length=ps.length:=by rw[<- r.length];exact ag
 have an:=λ(Q:VK) (Ev:XK) (a4:WP ps.length X.mg F G vs H1 Q Ev)=>FO.run X.A X.stack s1 H1 ⟨us,[]⟩ us vs Q Ev hr I1.env0 (by have:=hb s1 us I1.kIn (by rw[ZZ];exact az);rwa [ZZ]at this) r a4
 refine⟨I1.kIn,?_⟩;cases hG:G ds with
 | none=>
  rw[hG]at Y;obtain⟨d,eF,Y⟩:=bind_some Y;cases Y;refine za8 (zav (an (λv H2=>Ext A H1 H2/\Rep A H2 d v) (λ_ _ _=>False) ⟨ag,A,ds,lv,rl,.inl ⟨d,eF,λv H2 x2 r2=>⟨x2,r2⟩⟩⟩) λrr s2 U=>?_);cases rr with
  | error e=>
   obtain⟨_,_,_,_,_,_,_,_,_,_,_,_,_,_,z⟩:=U;exact z.elim
  | ok fl=>
   cases fl with
   | ret u=>
    obtain⟨v,H2,I2,rv,x2,r2⟩:=I1.after U;obtain⟨A',ah⟩:=((st.mono (x1.trans x2)).put r2 bg).shut (Sub.mem h);exact i5 I2 hN bi (.inl ae) rv (λs3 I3=>zby (zby ⟨_,H2,I3,ac A' _ H2 ah⟩)) (.inr ae)
   | next=>exact YF U
   | brk=>exact YF U
   | cont=>exact YF U
 | some x0=>
  rw[hG]at Y;obtain⟨l,bf,Y⟩:=bind_some Y;have ao:=tT bf;cases Y;obtain⟨ys,TA,hh⟩:=T _ ao;obtain⟨C0,Cy,h0,bb,ky,bl,sy,sv,ho⟩:=TA.ex;refine za8 (zav (an (λ_ _=>False) (λc _ H2=>c=.ref C0/\Ext A H1 H2) ⟨ag,A,ds,lv,rl,.inr ⟨x0,hG,λC a H2 hC _ x2=>⟨by rw[h0.bound]at hC;cases hC;rfl,x2⟩⟩⟩) λrr s2 U=>?_);cases rr with
  | ok fl=>
   cases fl with
   | ret u=>
    obtain⟨v,H2,I2,rv,x2⟩:=I1.after U;exact x2.elim
   | next=>exact YF U
   | brk=>exact YF U
   | cont=>exact YF U
  | error e=>
   refine My.xA (Good:=λ_ H2=>Ext A H1 H2) I1 al be U hy bb (My.AD sy ky bl) (λea oe _ H2 s6 ap x2 _ J=>?_) ay;refine i5 (X:=My.kF X ea oe) J hN af (.inl W) (v:=.ref ea) rfl (λs7 J7=>?_) (.inr W);have hi:ie<σ.length:=by rw[I.len];exact(List.getElem?_eq_some_iff.mp af).1
   refine X3 (QA (hh C0 ea oe ap h0.bound h0.k sv ho) pins s7 (σ.set ie (some (.ref ea))) H2 {nx:=λak H'=>∃A',ST H0 A0 A' E O ak H' (B8 l (ρ.set ie none)),rt:=λ_ _=>False} J7 ⟨by simp[hi],H0,A0,A,E,O,_,(st.mono (x1.trans x2)).blank (o:=some (.ref ea)) hO,ba _ ao,λak H' A' z=>⟨A',z⟩⟩) (λfl s8 q8=>?_) λ_ _ z=>z.elim
   cases fl with
   | next=>
    obtain⟨ci,H8,J8,A8,a2⟩:=q8;have I8:=My.AE J8 I.ok.hd;obtain⟨m,hn,as⟩:=I8.loc;refine wpAny_nameGoes_keeps W hn (by rw[I.ok.kind];rfl) λh9 v ax bh=>?_
    have I9:=My.pP (t':=s8.toks+1) I8 hN af hn as ax bh;obtain⟨A',ah⟩:=(a2.blank (o:=none) hO).shut (Sub.mem h);exact⟨_,H8,I9,ac A' _ H8 ah⟩
   | ret v=>obtain⟨_,_,_,_,_,q⟩:=q8;exact q.elim
   | brk=>obtain⟨_,_,_,q⟩:=q8;exact q.elim
   | cont=>obtain⟨_,_,_,q⟩:=q8;exact q.elim
end
end P
namespace My
open PySem PySem.Spec PyProof.Rows L2 PySem.SeqAt
section
variable {X:Cx}{ea C0:Addr}{oe:Obj}{n:Str}{ie:Nat}
structure Hd(X:Cx)(ea:Addr)(oe:Obj)(C0:Addr)(n:Str)(ie:Nat):Prop where
 hc:oe.cls=.ref C0
 k:ExcK X.K C0
 hie:X.N[ie]?=some n
 he:EJ X.env.scope n
 hg:Gl X "isinstance"
 hm:X.mg "isinstance" = none
 d1:(n == ("__debug__" : Str))=false
 d2:(n == ("__classdict__" : Str))=false
theorem Hd.v(h:Hd X ea oe C0 n ie)(p:Pos):PE (kF X ea oe) (.Name n p) (iN ie):=HG (X:=kF X ea oe) h.hie h.he h.d1 h.d2
theorem Hd.self(h:Hd X ea oe C0 n ie){x:Str}{G p2 F N:Pos}(J:Gl X x)(h0:X.mg x=some (.ref C0))(q:(x == ("__debug__" : Str))=false:=by decide):PE (kF X ea oe) (.Call (.Name "isinstance" G) [.Name n p2,.Name x F] [] N) (tE ie ea true):=
 uZ (X:=kF X ea oe) (cv:=.ref C0) (X8 ..) h.hc h.k (λu r=>by cases r;exact F8) h.hg h.hm (h.v _) (lX (X:=kF X ea oe) (v:=.ref C0) J h0 rfl q)
theorem Hd.oth(h:Hd X ea oe C0 n ie){z:Str}{N p2 G W:Pos}(U:Gl X z)(o:UP X.K X.mg C0 z)(q:(z == ("__debug__" : Str))=false:=by decide):PE (kF X ea oe) (.Call (.Name "isinstance" N) [.Name n p2,.Name z G] [] W) (tE ie ea false):=by
 obtain⟨C,J,k,ne,F⟩:=o;exact uZ (X:=kF X ea oe) (cv:=.ref C) (X8 ..) h.hc h.k (λu r=>by cases r;exact BC ne F k) h.hg h.hm (h.v _) (lX (X:=kF X ea oe) (v:=.ref C) U J rfl q)
theorem Hd.val(h:Hd X ea oe C0 n ie){G p2 q N:Pos}(J:Gl X "ValueError")(F:X.mg "ValueError" = none)(sv:YG X.K (.ref C0) (.type "ValueError")=some true):PE (kF X ea oe) (.Call (.Name "isinstance" G) [.Name n p2,.Name "ValueError" q] [] N) (tE ie ea true):=
 uZ (X:=kF X ea oe) (cv:=.ty "ValueError") (X8 ..) h.hc h.k (λu r=>by cases r;exact K6 (by decide +kernel) sv) h.hg h.hm (h.v _) (BD (X:=kF X ea oe) (v:=.ty "ValueError") J F (by decide +kernel) rfl (by decide) (by decide))
theorem Hd.tup(h:Hd X ea oe C0 n ie){es:List Expr}{x1}{G p2 q F:Pos}(p:PO (kF X ea oe) C0 es)(hz:es.length<=XQ):PE (kF X ea oe) (.Call (.Name "isinstance" G) [.Name n p2,.Tuple es x1 q] [] F) (tE ie ea false):=
 JY (X:=kF X ea oe) (X8 ..) h.hc h.k h.hg h.hm (h.v _) p hz
theorem eK{i:Nat}{v:Str}{e:Expr}{d:P.D}{p pos:Pos}{q:List Stmt}{l:List (Nat×P.D)}(G:X.N.Nodup)(hi:X.N[i]?=some v)(F:X.env.scope.names.lookup v=some .local)(J:i≠ie)(h:PE (kF X ea oe) e (UU ie ea d))(r:HR (kF X ea oe) ie ea q l)(hs:YL e (some (.Name v p)) pos.line X.env=pure false:=by rfl):HR (kF X ea oe) ie ea (.Assign [.Name v p] e pos::q) ((i,d)::l):=
 .cons (qQ (X:=kF X ea oe) G hi (.inl F) h hs (.inr F)) J r
theorem oF(n:Str){q:List Stmt}{l:List (Nat×P.D)}(h:Hd X ea oe C0 n ie->HR (kF X ea oe) ie ea q l)(F:Hd X ea oe C0 n ie):HR (kF X ea oe) ie ea q l:=h F
end
structure Ce(K:XF)(z:Str)(C:Addr):Prop where
 a:zar K YK z=some (some (.ref C))
 c:∃cd,zcN K C=some cd
 t:PySem.W.typeIn K (.ref C)=some (.type "type")
inductive Ces(K:XF):List (Str×Addr)->Prop
 | nil:Ces K []
 | cons {z:Str} {C:Addr} {cd:ClassData} {l:List (Str×Addr)} (a:zar K YK z=some (some (.ref C))) (c:zcN K C=some cd) (t:PySem.W.typeIn K (.ref C)=some (.type "type")) (r:Ces K l):Ces K ((z,C)::l)
theorem Ces.at{K:XF}{l:List (Str×Addr)}(h:Ces K l):∀p∈l,Ce K p.1 p.2:=by
 induction h with
 | nil=>exact λp q=>nomatch q
 | cons a c t _ ih=>exact List.forall_mem_cons.mpr ⟨⟨a,⟨_,c⟩,t⟩,ih⟩
structure Exq(K:XF)(C:Addr):Prop where
 e:zcM K C WN "ValueError.__new__" = true
 ga:za7 K (.ref C) "__getattribute__" = some (some (.builtin "BaseException.__getattribute__"))
 gt:za7 K (.ref C) "__getattr__" = some none
 cl:za7 K (.ref C) "__class__" = some (some (.builtin "object.__class__"))
 ob:YG K (.ref C) (.type "object")=some true
 be:YG K (.ref C) (.type "BaseException")=some true
 gg:PySem.W.specialIn K (.builtin "object.__class__") "__get__" = some (some (.builtin "getset_descriptor.__get__"))
 tk:PySem.W.takesIn K (.builtin "object.__class__")=some true
 sv:YG K (.ref C) (.type "ValueError")=some true
inductive Sus(K:XF)(C0:Addr):List (Str×Addr)->Prop
 | nil:Sus K C0 []
 | cons {z:Str} {C:Addr} {l:List (Str×Addr)} (b:YG K (.ref C0) (.ref C)=some false) (n:(C0 == C)=false) (r:Sus K C0 l):Sus K C0 ((z,C)::l)
theorem Sus.at{K:XF}{C0:Addr}{l:List (Str×Addr)}(h:Sus K C0 l):∀p∈l,YG K (.ref C0) (.ref p.2)=some false/\(C0 == p.2)=false:=by
 induction h with
 | nil=>exact λp q=>nomatch q
 | cons b n _ ih=>exact List.forall_mem_cons.mpr ⟨⟨b,n⟩,ih⟩
theorem rA{K:XF}{h:Heap}{mg:Str->Option Value}(X:K.In h)(G:h.Ns YK mg){l J:List (Str×Addr)}(cl:Ces K l){N y:Str}{C0 q:Addr}(ex:Exq K C0)(yb:YG K (.ref q) (.type "BaseException")=some true)(sy:YG K (.ref C0) (.ref q)=some true)(su:Sus K C0 J)
  (m0:(N,C0)∈l) (W:(y,q)∈l) (ml:∀p∈J,p∈l):TryAt K mg N y (J.map (·.1)):=by
 have c0:=cl.at _ m0;have F:=cl.at _ W;refine⟨⟨C0,q,⟨za2 X G c0.a,ex.e,⟨ex.ga,ex.gt,ex.cl,ex.ob,ex.be,c0.t,by obtain⟨cd,e⟩:=c0.c;rw[e];rfl,ex.gg,ex.tk⟩⟩,za2 X G F.a,⟨F.c,F.t⟩,yb,sy,ex.sv,λz hz=>?_⟩⟩;obtain⟨p,U,e⟩:=List.mem_map.mp hz;subst e;have c:=cl.at p (ml p U);obtain⟨Y,s2⟩:=su.at p U;exact⟨p.2,za2 X G c.a,⟨c.c,c.t⟩,s2,Y⟩
end My
namespace P
open PySem PySem.Spec PyProof.Rows L2
def JA(P:XM)(w:World)(K:XF)(mg:Str->Option Value)(base:Heap)(N:List Str)(x:Str)(st:Stmt)(k:Nat)(g:Xv):Prop:=
 ∀(fa:Addr) (cdv:Value) (A:XS) (outer:List Env) (s:XE) (H:Hp) (E:XK),Room k (A.deeper (YW x (aF st) s.heap.objs.size fa cdv))->∃g',MZ (c6 (My.rQ P w) P w K mg base N x (aF st) fa cdv A outer s H E) [] (bO st) g'/\g'=g
theorem gA{P:XM}{w:World}{K:XF}{mg:Str->Option Value}{base:Heap}{x:Str}{st:Stmt}{N ps:List Str}{k:Nat}{b:Sv}{g:Xv}(U:My.DefAt K mg x st ps)(S:FnScope N ps (aF st))(h:EL P w K mg base N x st k b)(J:JA P w K mg base N x st k g):FnX P w K mg base x (k+1) ps (bT N.length b) (gC N.length g):=
 OB (O':=[]) U S (λF q A outer s H E G=>h F q A outer s H E G) J
end P
namespace P
open PySem PySem.Spec PyProof.Rows L2 PySem.SeqAt
section
variable {X:Cx}{O:List Nat}{pins:List (Addr×Obj)}{σ:L2.St}{H:Hp}{s:XE}
def MO:D->D->Option D
 | .lst a,.lst b=>(rN a).bind λx=>(rN b).map λy=>.bl (decide (x=y))
 | _,_=>none
theorem lP:∀ {bs:List Bool} {us:List Value},L2.Vals (bs.map V.bl) us->us=bs.map YV
 | [],us,r=>by cases r;rfl
 | b::bs,us,r=>by
  cases r with
  | cons r1 r2=>cases r1;rw[lP r2];rfl
theorem J3:∀(a b:List Bool),a.length=b.length->((Y9 a.length).all λj=>a.getD j false == b.getD j false)=decide (a=b):=by
 intro a b F;by_cases h:a=b
 ·subst h;simp
 ·rw[decide_eq_false h,zdb]
  intro q;rw[zbg]at q;refine h (zbI F λi h1 h2=>?_);have:=eq_of_beq (q i (List.mem_range.mpr h1));simpa[Z8,h1,h2]using this
theorem QD(hu:X.A.units+64<cLine):jK X (XY .Eq) MO:=by
 intro pins s σ H x y v u Q I rx ry h;obtain⟨A,dx,dy,d,lv,r1,r2,e,q⟩:=h;have F:X.A.units<cLine:=by lia
 cases dx with
 | lst a=>
  cases dy with
  | lst b=>
   obtain⟨p,ep,e⟩:=bind_some e;obtain⟨r,er,rfl⟩:=map_some e;obtain⟨J,xs,rfl,h1,k1⟩:=r1.lst_inv;obtain⟨N,ys,rfl,h2,k2⟩:=r2.lst_inv;have ex:=gR ep k1;have ey:=gR er k2;subst ex ey;cases rx;cases ry;obtain⟨_,U,n1,v1,_,o1⟩:=Inv.lstR I h1;obtain⟨_,W,n2,v2,_,o2⟩:=Inv.lstR I h2;have w1:=lP v1;have w2:=lP v2;subst w1 w2;have Y:s.heap.IsList J (p.map YV).toArray:=⟨_,o1,rfl,_,rfl⟩;have i2:s.heap.IsList N (r.map YV).toArray:=⟨_,o2,rfl,_,rfl⟩
   suffices a:RcAt X.A s (.ref J) (.ref N) (decide (p=r))from a X.prog X.w X.xe _ ⟨.bl _,H,I,rfl,q _ H (Ext.refl _ _) (.bl _)⟩
   by_cases G:p.length=r.length
   ·have a:=RcAt.lists (A:=X.A) (e:=λj=>p.getD j false == r.getD j false) Y i2 (by simp[G]) F λj h1 h2=>by
     have j1:j<p.length:=by simpa using h1
     have j2:j<r.length:=by simpa using h2
     have e1:(p.map YV).toArray[j]=.bool (p.getD j false):=by simp[Z8,j1]
     have e2:(r.map YV).toArray[j]=.bool (r.getD j false):=by simp[Z8,j2]
     rw[e1,e2];exact EqAt.bool_bool _ _
    rw[XX,XR,J3 p r G]at a;exact a
   ·rw[decide_eq_false λz=>G (by rw[z])]
    exact RcAt.lists_lengths Y i2 (by simpa using G) F
  | _=>cases e
 | _=>cases e
def fN(d x:D):Option D:=match d,x with
 | .lst l,.bl b=>(rN l).bind λbs=>if aW l.length=true then(bs.findIdx? λc=>c == b).map λ(j:Nat)=>.int (j:Int)else none
 | _,_=>none
theorem C7(hu:X.A.units+64<cLine):US X "list.index" (λv vs H Q=>∃A d x y d',vs=[y]/\Live A H/\RepB A H d v/\RepB A H x y/\fN d x=some d'/\∀v H',Ext A H H'->Rep A H' d' v->Q v H'):=by
 intro pins s σ H v vs u us Q I rv ru h;obtain⟨A,d,x,y,d',rfl,lv,rd,rx,e,q⟩:=h;obtain⟨w,rfl,G⟩:=ru.one;cases d with
 | lst l=>
  cases x with
  | bl b=>
   obtain⟨bs,eb,e⟩:=bind_some e;split at e
   case isFalse=>cases e
   rename_i hz;obtain⟨j,ej,rfl⟩:=map_some e;obtain⟨a,xs,rfl,h1,r1⟩:=rd.lst_inv;cases rv;have J:=gR eb r1;subst J;obtain⟨_,ah,n,r,ab,eo⟩:=Inv.lstR I h1;have wi:=lP r;subst wi;have:=rx.bl_inv;subst this;cases G;obtain⟨hj,N,W⟩:=List.findIdx?_eq_some_iff_getElem.mp ej;have hsz:=fM hz;have ll:l.length=bs.length:=by have:=r1.length;simpa using this.symm
   have aa:(j:Int)<2^63-1:=by
    have:(XQ:Nat)<2^62:=by decide
    lia
   have at_:∀(m:Nat) (U:m<bs.length),(bs.map YV).toArray[m]'(by simpa using U)=.bool bs[m]:=λm U=>by simp
   refine zbH F.slot_list_index ⟨_,eo,rfl⟩ F.entry_list_index (F.args_list_index_2 _ _) (PySem.SeqAt.list_indexAt a (bs.map YV).toArray n none #[] (.bool b) (λz=>match z with | .bool c=>c == b|_=>false) j (by simpa using hj) aa ?_ ?_) ⟨eo,λz hz=>?_,?_⟩
   ·rw[at_ j hj];exact N
   ·intro m U Y
    rw[at_ m (by lia)];have:=W m Y;simpa using this
   ·obtain⟨c,_,rfl⟩:=List.mem_map.mp (by simpa using hz:z∈bs.map YV)
    exact EqAt.bool_bool _ _
   ·exact⟨.int j,H,I.tok _,⟨_,rfl⟩,q _ H (Ext.refl _ _) (.int _)⟩
  | _=>cases e
 | _=>cases e
theorem CY{o e:Expr}{apos cpos:Pos}{f g:Ev}(hu:X.A.units+64<cLine)(ho:PB X O o f)(he:PB X O e g)
  (W:∀ {r:V->List V->Hp->VK->Prop} {to:TE} {t:TA},MtR X "list.index" r->PE X o to->PA X [e] t->PE X (.Call (.Attribute o "index" apos) [e] [] cpos) (UZ X.K "list" r to t)) (hs:XI [e] X.env=(false,eval e X.env)::XI [] X.env:=by rfl) :
  PD X O (.Call (.Attribute o "index" apos) [e] [] cpos) (aQ fN f g):=PE.mono (W (C7 hu) ho (bB he dX hs)) λσ H Q ⟨H0,A0,A,E,ρ,d,st,e,q⟩=>by
 obtain⟨x,ex,e⟩:=bind_some e;obtain⟨y,ey,e⟩:=bind_some e;refine⟨H0,A0,A,E,ρ,x,st,ex,λv H1 F J=>⟨?_,H0,A0,A,E,ρ,y,st.mono F,ey,λw H2 G Y=>⟨A,x,y,w,d,rfl,(st.mono (F.trans G)).live,J.ext G,Y,e,λv H3 U N=>q v H3 ((F.trans G).trans U) N⟩⟩⟩;cases x with
 | lst l=>obtain⟨a,xs,rfl,h1,_⟩:=J.lst_inv;exact .inl ⟨rfl,xs,.inl h1⟩
 | _=>cases e
@[simp] theorem q_eqBs{a b:List D}:MO (.lst a) (.lst b)=(rN a).bind λx=>(rN b).map λy=>.bl (decide (x=y)):=rfl
end
end P
namespace P
open PySem PySem.Spec PyProof.Rows L2
section
variable {X:Cx}{L:Lp}{O O' O2:List Nat}
def MU(n:Nat)(f:Sv)(ds:List D):Option D:=(f (aD n ds)).bind λo=>match o with
 | .rt d=>some d
 | _=>none
end
section
variable {X:Cx}{L:Lp}{O O' O2:List Nat}{Z:List Nat}
end
end P
namespace My
open PySem PySem.Spec PyProof.Rows L2
section
variable {X:Cx}
end
end My
namespace P
open PySem PySem.Spec PyProof.Rows L2
section
variable {X:Cx}
end
section
variable {X:Cx}{L:Lp}{O O':List Nat}{Z:List Nat}
mutual
def noL:D->Bool
 | .non=>true | .bl _=>true | .int _=>true | .str _=>true
 | .tup l=>MV l
 | _=>false
def MV:List D->Bool
 | []=>true
 | d::l=>noL d && MV l
end
mutual
theorem Rep.noL{A A':Av}{H H':Hp}(tp:∀b xs,H b=some (.tup xs)->H' b=some (.tup xs)){d:D}{v:V}:Rep A H d v->noL d=true->Rep A' H' d v
 | .non,_=>.non
 | .bl b,_=>.bl b
 | .int i,_=>.int i
 | .str s,_=>.str s
 | .tup h r,n=>.tup (tp _ _ h) (RepL.noL tp r (by rw[P.noL]at n;exact n))
 | .lst _ _ _,n=>by rw[P.noL]at n <;> first|cases n|simp
 | .dK _ _ _ _,n=>by rw[P.noL]at n <;> first|cases n|simp
 | .dT _ _ _ _,n=>by rw[P.noL]at n <;> first|cases n|simp
theorem RepL.noL{A A':Av}{H H':Hp}(tp:∀b xs,H b=some (.tup xs)->H' b=some (.tup xs)){ds:List D}{vs:List V}:RepL A H ds vs->MV ds=true->RepL A' H' ds vs
 | .nil,_=>.nil
 | .cons h t,n=>by
  rw[P.MV,YU]at n;exact .cons (Rep.noL tp h n.1) (RepL.noL tp t n.2)
end
end
end P
namespace My
open PySem PySem.Spec PyProof.Rows L2
def D5(i j:Int):Prop:=QZ i j\/(-(2^64)<i/\i<2^64)\/(-(2^64)<j/\j<2^64)
theorem JQ{X:Cx}:OpR X (YT .Mult) (rI D5 λi j=>.int (i*j)):=UO λ_ _ _ _ _ _ _ F q=>mul_int q (by
 rcases F with h|h|h
 ·exact IntMulOk.of_bits (xX h.1.1 h.1.2) (xX h.2.1 h.2.2)
 ·exact .of_left (intBits_le_64 h.1 h.2)
 ·exact .of_right (intBits_le_64 h.1 h.2))
end My
namespace P
open PySem PySem.Spec PyProof.Rows L2
instance:∀i j,Decidable (My.D5 i j):=λi j=>by unfold My.D5;infer_instance
def HU:D->D->Option D:=JB λi j=>if My.D5 i j then some (.int (i*j))else none
open Classical in
def bD:D->D->Option D:=JB λi j=>if My.D5 i j then some (.int (i*j))else none
theorem AU:bD=HU:=by
 unfold bD HU;congr 1
theorem bH{X:Cx}:jK X (YT .Mult) bD:=by rw[AU];exact vR My.JQ
theorem G9{i j:Int}(h:My.D5 i j):bD (.int i) (.int j)=some (.int (i*j)):=by
 rw[AU];exact if_pos h
theorem jV{i j:Int}(h:-(2^64)<i)(h2:i<2^64):bD (.int i) (.int j)=some (.int (i*j)):=G9 (.inr (.inl ⟨h,h2⟩))
theorem D7{i j:Int}(h:-(2^64)<j)(h2:j<2^64):bD (.int i) (.int j)=some (.int (i*j)):=G9 (.inr (.inr ⟨h,h2⟩))
structure SO(z:Nat)(A:Av)(a:Addr)(l:List D)(σ:L2.St)(H:Hp)(ρ:cL):Prop where
 live:Live A H
 len:σ.length=ρ.length
 aa:A a
 sz:σ[z]?=some (some (.ref a))
 rz:ρ[z]?=some (some (.lst l))
 own:Own A H (.lst l) a
 val:∀i d,ρ[i]?=some (some d)->i≠z->∃v,σ[i]?=some (some v)/\Rep A H d v
section
variable {X:Cx}{z:Nat}{A:Av}{a:Addr}{l:List D}{σ:L2.St}{H H':Hp}{ρ:cL}
theorem SO.mono(s:SO z A a l σ H ρ)(x:Ext A H H'):SO z A a l σ H' ρ:=
 ⟨(λb q => by
   cases e:H b with
   | none=>exact absurd e (s.live b q)
   | some u=>rw[x.ow b u q e];exact λw=>nomatch w),s.len,s.aa,s.sz,s.rz,Own.ext x s.aa s.own,(λi d h n=>by obtain⟨v,e,r⟩:=s.val i d h n;exact⟨v,e,r.ext x⟩)⟩
def eL(z:Nat)(f:Ev):Ev:=λρ=>f (ρ.set z none)
theorem SO.st(s:SO z A a l σ H ρ):ST H A A [] [] σ H (ρ.set z none):=
 ⟨Ext.refl _ _, λ_ h => h, s.live, s.live, by rw[zbc];exact s.len, λi d h _ => by
  by_cases q:i=z
  ·subst q
   have lt:i<ρ.length:=by
    have:=(List.getElem?_eq_some_iff.mp h).1
    rwa [zbc]at this
   rw[zb6 lt]at h;cases h
  ·rw[ZX (X5 q)]at h
   exact s.val i d h q,(λj d _ h=>nomatch h),(λj k d d' a h=>nomatch h),(λq F=>nomatch F)⟩
theorem SO.put(s:SO z A a l σ H ρ){i:Nat}{d:D}{v:V}(r:Rep A H d v)(n:i≠z):SO z A a l (σ.set i (some v)) H (ρ.set i (some d)):=
 ⟨s.live,(by rw[zbc,zbc];exact s.len),s.aa,(by rw[iG (X5 n)];exact s.sz),(by rw[ZX n];exact s.rz),s.own,(λj e h F=>by
   by_cases q:j=i
   ·subst q
    have lt:j<ρ.length:=by
     have:=(List.getElem?_eq_some_iff.mp h).1
     rwa [zbc]at this
    rw[zb6 lt]at h;cases h;exact⟨v,sig_set (by rw[s.len];exact lt),r⟩
   ·rw[ZX (X5 q)]at h
    rw[iG q];exact s.val j e h F)⟩
inductive tO(z:Nat)(f:Sv)(T:Ends)(σ:L2.St)(H:Hp):Prop
 | mk (A:Av) (a:Addr) (l:List D) (ρ:cL) (d:D) (so:SO z A a l σ H ρ) (e:f ρ=some (.rt d)) (q:∀v H',Ext A H H'->Rep A H' d v->T.rt v H'):tO z f T σ H
theorem PY{e:Expr}{pos:Pos}{f:Ev}(N:PD X [] e f):PSs X [.Return (some e) pos] (tO z (CA (eL z f))):=PSs.mono (BZ (HD N)) <| by
 rintro T σ H ⟨A,a,l,ρ,d,J,e,q⟩;obtain⟨d',G,F⟩:=map_some e;cases F;exact⟨H,A,A,[],_,d,J.st,G,q⟩
theorem qM{y:Str}{e:Expr}{i:Nat}{f:Ev}{g:Sv}{rest:List Stmt}{pos pos':Pos}(hN:X.N.Nodup)(hi:X.N[i]?=some y)(hx:Loc X.env.scope y)(n:i≠z)(U:PD X [] e f)(hr:PSs X rest (tO z g))(hs:YL e (some (.Name y pos')) pos.line X.env=pure false:=by rfl)
  (W:X.fn y=true\/X.env.scope.names.lookup y=some .local:=by first|exact .inl rfl|exact .inr rfl):PSs X (.Assign [.Name y pos'] e pos::rest) (tO z (bE (cF i (eL z f)) g)):=
 PSs.mono (lL (qQ hN hi hx U hs W) hr) <| by
  rintro T σ H ⟨A,a,l,ρ,d,G,e,q⟩;obtain⟨o,eo,e⟩:=bind_some e;obtain⟨d1,J,rfl⟩:=map_some eo;exact⟨H,A,A,[],_,d1,G.st,J,λv H1 F r1=>⟨A,a,l,_,d,(G.mono F).put r1 n,e,λw H2 Y r2=>q w H2 (F.trans Y) r2⟩⟩
def vW(i z:Nat)(F:List D->Option D)(f0 G q:Ev)(g:Sv):Sv:=λρ=>(eL z f0 ρ).bind λd0=>(aA z ρ).bind λdz=>(eL z G ρ).bind λd2=>(eL z q ρ).bind λd3=>(F [d0,dz,d2,d3]).bind λd=>if noL d=true then g (ρ.set i (some d))else none
theorem JX{x y:Str}{k:Nat}{ps:List Str}{F:List D->Option D}{e0 U J G:Expr}{rest:List Stmt}{f0 f2 f3:Ev}{i:Nat}{g:Sv}{p cpos pos pos':Pos}(FD:Fn X.prog X.w X.K X.mg X.base x k ps F)(al:ps.length=4)(hr:Room k X.A)(hg:Gl X x)(h0:PD X [] e0 f0)(h1:PE X U (iN z))(h2:PD X [] J f2)(h3:PD X [] G f3)
  (hN:X.N.Nodup) (hi:X.N[i]?=some y) (hx:Loc X.env.scope y) (n:i≠z) (Y:PSs X rest (tO z g)) (ao:(x == ("__debug__" : Str))=false:=by decide)
  (q0:XI [e0,U,J,G] X.env=(false,eval e0 X.env)::XI [U,J,G] X.env:=by rfl) (q1:XI [U,J,G] X.env=(false,eval U X.env)::XI [J,G] X.env:=by rfl) (q2:XI [J,G] X.env=(false,eval J X.env)::XI [G] X.env:=by rfl) (q3:XI [G] X.env=(false,eval G X.env)::XI [] X.env:=by rfl)
  (am:(X0 cpos (XI [U,J,G] X.env)).any (·.1)=false:=by rfl) (hs:YL (.Call (.Name x p) [e0,U,J,G] [] cpos) (some (.Name y pos')) pos.line X.env=pure false:=by rfl) (hf:X.fn y=true\/X.env.scope.names.lookup y=some .local:=by first|exact .inl rfl|exact .inr rfl) :
  PSs X (.Assign [.Name y pos'] (.Call (.Name x p) [e0,U,J,G] [] cpos) pos::rest) (tO z (vW i z F f0 f2 f3 g)):=
 PSs.mono (lL (qQ hN hi hx (My.lF FD hr hg (bB h0 (bB h1 (bB h2 (bB h3 dX q3) q2) q1) q0) ao q0 am) hs hf) Y) <| by
  rintro T σ H ⟨A,a,l,ρ,d,so,e,q⟩;obtain⟨d0,e0,ea⟩:=bind_some e;obtain⟨dz,ez,eb⟩:=bind_some ea;obtain⟨d2,J,ec⟩:=bind_some eb;obtain⟨d3,G,ed⟩:=bind_some ec;obtain⟨r,eF,ef⟩:=bind_some ed;clear e ea eb ec ed;by_cases nl:noL r=true
  case neg=>rw[if_neg nl]at ef;cases ef
  rw[if_pos nl]at ef;have ae:=bQ ez;rw[so.rz]at ae;cases ae;refine⟨H,A,A,[],_,d0,so.st,e0,λv0 H1 x1 r0=>⟨_,so.sz,H1,A,A,[],_,d2,(so.mono x1).st,J,λv2 H2 x2 r2=>⟨H2,A,A,[],_,d3,((so.mono x1).mono x2).st,G,λv3 H3 x3 r3=>?_⟩⟩⟩;have ac:=((so.mono x1).mono x2).mono x3;have up:∀b,(A b/\b≠a)->A b\/H3 b=none:=λb W=>.inl W.1
  refine⟨λb=>A b/\b≠a,[d0,.lst l,d2,d3],r,λb W=>ac.live b W.1,.cons ((r0.ext (x2.trans x3)).av up) (.cons ((ac.own.av up).rep (λw=>w.2 rfl)) (.cons ((r2.ext x3).av up) (.cons (r3.av up) .nil))),by rw[al];rfl,eF,λv H4 x4 r4=>?_⟩;have an:Ext A H3 H4:=⟨x4.rd,x4.kp,λb u W hu=>by
   by_cases w:b=a
   ·subst w
    cases ac.own with
    | lst h _=>rw[h]at hu;cases hu;exact x4.kp _ _ trivial h
   ·exact x4.ow b u ⟨W,w⟩ hu,x4.fz⟩
  have ap:Rep A H4 r v:=r4.noL (λb xs W=>W) nl;have ad:=(x1.trans x2).trans (x3.trans an);exact⟨A,a,l,_,d,(so.mono ad).put ap n,ef,λw H5 x5 r5=>q w H5 (ad.trans x5) r5⟩
def WR(F:List D->Option D):Sp:=λvs H Q _=>∃(A:Av) (a:Addr) (l:List D) (v0 v1 v2 v3:V) (d0 d1 d2 d3 d:D),vs=[v0,v1,v2,v3,.ref a]/\Live A H/\A a/\Own A H (.lst l) a/\Rep A H d0 v0/\Rep A H d1 v1/\Rep A H d2 v2/\Rep A H d3 v3/\F [d0,d1,d2,d3,.lst l]=some d/\∀v H',Ext A H H'->Rep A H' d v->Q v H'
def WI(P:XM)(w:World)(K:XF)(mg:Str->Option Value)(base:Heap)(x:Str)(k:Nat)(ps:List Str)(F:List D->Option D):Prop:=ps.length=5/\My.Ok P w K mg base x k ps (WR F)
theorem NX{P:XM}{w:World}{K:XF}{mg:Str->Option Value}{base:Heap}{x U N Y W y4:Str}{st:Stmt}{M:List Str}{k:Nat}{f:Sv}(Df:My.DefAt K mg x st [U,N,Y,W,y4])(S:FnScope (U::N::Y::W::y4::M) [U,N,Y,W,y4] (aF st))
  (h:∀(fa:Addr) (G:Value) (A:XS) (outer:List Env) (s:XE) (H:Hp) (E:XK),Room k (A.deeper (YW x (aF st) s.heap.objs.size fa G))->∃g,PSs (c6 AA P w K mg base (U::N::Y::W::y4::M) x (aF st) fa G A outer s H E).nox (bO st) (tO 4 g)/\g=f) :
  WI P w K mg base x (k+1) [U,N,Y,W,y4] (MU (M.length+5) f):=by
 refine⟨rfl,My.BodyOk.ok (λfa G A outer s H vs Q E hr J=>?_) Df S (λvs H Q E J=>by obtain⟨A,a,l,v0,v1,v2,v3,d0,d1,d2,d3,d,rfl,_⟩:=J;rfl)⟩;obtain⟨A1,a,l,v0,v1,v2,v3,d0,d1,d2,d3,d,rfl,lv,aa,ow,r0,r1,r2,r3,eF,q⟩:=J;obtain⟨o,eo,e2⟩:=bind_some eF;cases o with
 | nx _=>cases e2
 | bk _=>cases e2
 | ct _=>cases e2
 | rt d'=>
  cases e2;obtain⟨g,hg,rfl⟩:=h fa G A outer s H E hr;have es:L2.start (U::N::Y::W::y4::M) [v0,v1,v2,v3,.ref a]=some v0::some v1::some v2::some v3::some (.ref a)::YE M.length none:=by
   unfold L2.start;simp
  have er:aD (M.length+5) [d0,d1,d2,d3,.lst l]=some d0::some d1::some d2::some d3::some (.lst l)::YE M.length none:=by
   unfold aD;simp
  rw[er]at eo;refine⟨_,hg,A1,a,l,_,d,?_,eo,q⟩;rw[es];refine⟨lv,by simp,aa,rfl,rfl,ow,λi dd F n=>?_⟩
  match i,F,n with
  | 0,F,_=>cases F;exact⟨v0,rfl,r0⟩
  | 1,F,_=>cases F;exact⟨v1,rfl,r1⟩
  | 2,F,_=>cases F;exact⟨v2,rfl,r2⟩
  | 3,F,_=>cases F;exact⟨v3,rfl,r3⟩
  | 4,_,n=>exact absurd rfl n
  | i+5,F,_=>
   have F:(YE M.length (none:Option D))[i]?=some (some dd):=F;rw[zcZ]at F;split at F
   ·cases F
   ·cases F
noncomputable def NI:List D->Bool
 | [_,_,_,_,.lst _]=>true
 | _=>false
def zU(F:List D->Option D)(q:Lv):Ev:=λρ=>(q ρ).bind λds=>if NI ds=true then F ds else none
theorem FQ{O:List Nat}{x:Str}{k:Nat}{ps:List Str}{F:List D->Option D}{e0 e1 e2 J G:Expr}{f0 f1 f2 f3:Ev}{p cpos:Pos}(FO:WI X.prog X.w X.K X.mg X.base x k ps F)(hr:Room k X.A)(hg:Gl X x)(h0:PD X O e0 f0)(h1:PD X O e1 f1)(h2:PD X O e2 f2)(h3:PD X O J f3)(h4:PE X G (iN z))(hO:mem O z=true)(am:(x == ("__debug__" : Str))=false:=by decide)
  (q0:XI [e0,e1,e2,J,G] X.env=(false,eval e0 X.env)::XI [e1,e2,J,G] X.env:=by rfl) (q1:XI [e1,e2,J,G] X.env=(false,eval e1 X.env)::XI [e2,J,G] X.env:=by rfl) (q2:XI [e2,J,G] X.env=(false,eval e2 X.env)::XI [J,G] X.env:=by rfl) (q3:XI [J,G] X.env=(false,eval J X.env)::XI [G] X.env:=by rfl) (q4:XI [G] X.env=(false,eval G X.env)::XI [] X.env:=by rfl)
  (aj:(X0 cpos (XI [e1,e2,J,G] X.env)).any (·.1)=false:=by rfl) :
  PD X O (.Call (.Name x p) [e0,e1,e2,J,G] [] cpos) (zU F (aB f0 (aB f1 (aB f2 (aB f3 (aB (aA z) aJ)))))):=
 PE.mono (My.lF FO.2 hr hg (bB h0 (bB h1 (bB h2 (bB h3 (bB h4 dX q4) q3) q2) q1) q0) am q0 aj) <| by
  rintro σ H Q ⟨H0,A0,A,E,ρ,d,st,e,q⟩;obtain⟨ds,el,eF⟩:=bind_some e;obtain⟨d0,e0,el⟩:=bind_some el;obtain⟨l1,U,el⟩:=bind_some el;cases el;obtain⟨d1,e1,U⟩:=bind_some U;obtain⟨l2,W,U⟩:=bind_some U;cases U;obtain⟨d2,e2,W⟩:=bind_some W;obtain⟨l3,Y,W⟩:=bind_some W;cases W;obtain⟨d3,J,Y⟩:=bind_some Y;obtain⟨l4,N,Y⟩:=bind_some Y;cases Y;obtain⟨d4,G,N⟩:=bind_some N;obtain⟨l5,ao,N⟩:=bind_some N;cases N;cases ao;by_cases hF:NI [d0,d1,d2,d3,d4]=true
  case neg=>rw[if_neg hF]at eF;cases eF
  rw[if_pos hF]at eF;obtain⟨l,rfl⟩:∃l,d4=.lst l:=by
   cases d4 with
   | lst l=>exact⟨l,rfl⟩
   | _=>cases hF
  obtain⟨a,a1,a2,a3,a4⟩:=st.own z _ (bQ G) (fZ hO);refine⟨H0,A0,A,E,ρ,d0,st,e0,λv0 H1 x1 r0=>⟨H0,A0,A,E,ρ,d1,st.mono x1,e1,λv1 H2 x2 r1=>⟨H0,A0,A,E,ρ,d2,(st.mono x1).mono x2,e2,λv2 H3 x3 r2=>⟨H0,A0,A,E,ρ,d3,((st.mono x1).mono x2).mono x3,J,λv3 H4 x4 r3=>⟨_,a1,?_⟩⟩⟩⟩⟩;have ac:=(x1.trans x2).trans (x3.trans x4);exact⟨A,a,l,v0,v1,v2,v3,d0,d1,d2,d3,d,rfl,(st.mono ac).live,a2,Own.ext ac a2 a4,r0.ext (x2.trans (x3.trans x4)),r1.ext (x3.trans x4),r2.ext x4,r3,eF,λv H5 x5 r5=>q v H5 (ac.trans x5) r5⟩
end
end P
namespace My
open PySem PySem.Spec PyProof.Rows L2
end My
namespace P
open PySem PySem.Spec PyProof.Rows L2
section
variable {X:Cx}{O:List Nat}
end
end P
namespace My
open PySem PySem.Spec PyProof.Rows L2
section
variable {X:Cx}
end
end My
namespace P
open PySem PySem.Spec PyProof.Rows L2
section
variable {X:Cx}{O:List Nat}
end
variable {X:Cx}{O:List Nat}{e:Expr}
theorem vd(i:Nat)(h:PE X e (iN i):=by exact pv _)(n:i∉O:=by decide):PD X O e (aA i):=cX i h n
end P
namespace My
open PySem PySem.Spec PyProof.Rows L2
section
variable {prog:XM}{w:World}{A:XS}{E:Value->XE->Prop}{s:XE}
end
end My
namespace P
open PySem PySem.Spec PyProof.Rows L2
def Fe(K:XF)(x:Str)(st:Stmt)(f:Addr):Prop:=∃fd,Fun K x x st f fd
theorem Fe.mk{K:XF}{x:Str}{st:Stmt}{f:Addr}{J:Value}{od U:Option Addr}{G:Array (Option Value)}{kV F N q ct:Value}(l:K.lookup f=some ⟨J,od,.func (Z0 x x (d7 st) (bO st) (aF st) .none kV F N U q ct),G⟩)(c:zba K q x=true)(k:zaw K (.ref f)=true):Fe K x st f:=⟨_,HW l c k⟩
theorem Fe.d{K:XF}{mg:Str->Option Value}{x:Str}{st:Stmt}{f:Addr}{ps:List Str}(h:Fe K x st f)(a:mg x=some (.ref f))(q:∀(kV doc pm:Value) (an:Option Addr) (cdv ct:Value) (us:List Value),us.length=ps.length->bindArgs (Z0 x x (d7 st) (bO st) (aF st) .none kV doc pm an cdv ct) ⟨us,[]⟩=pure (ps.zip us)):My.DefAt K mg x st ps:=let ⟨fd,F⟩:=h;⟨⟨f,fd,F,F.binds q,a⟩⟩
section
variable {X:Cx}{L:Lp}{O O':List Nat}
theorem c0{O1 O3:List Nat}{st:Stmt}{q:List Stmt}{f g:Sv}(h:PSD X L O1 st f [])(k:PSDs X L [] q g O3):PSDs X L O1 (st::q) (bE f g) O3:=cn h k
theorem ss(i:Nat)(F:X.N.Nodup)(J:PD X O e f)(hi:X.N[i]?=some x:=by rfl)(G:Loc X.env.scope x:=by exact YR rfl)(h:Sub O' (O.filter (· != i))=true:=by rfl)(hs:YL e (some (.Name x pos')) pos.line X.env=pure false:=by rfl)(q:X.fn x=true\/X.env.scope.names.lookup x=some .local:=by first|exact .inl rfl|exact .inr rfl):PSD X L O (.Assign [.Name x pos'] e pos) (cF i f) O':=AL F hi G J h hs q
theorem gc(h1:yL X O e g)(h2:z9 X O es k)(a:(ZA (e::es) X.env).map (·.2)=ZO e X.env::(ZA es X.env).map (·.2):=by rfl):z9 X O (e::es) (aR g k):=C9 (λx y=>FS x y a) h1 h2
theorem gu(n:Nat)(h:z9 X O es k)(q:X.calm=true:=by rfl)(a:(ZA es X.env).length=n:=by rfl)(b:List.findIdx? (λx=>x.fst) (ZA es X.env)=none:=by rfl):yL X O (.Tuple es j pos) (dF n k):=LF (IH q h a b)
theorem tc(F:jK X (XY op) g)(G:PB X O a fa)(q:PB X O b fb)(h1:op≠CmpOp.In:=by decide)(h2:op≠CmpOp.NotIn:=by decide):rO X O (.Compare a [op] [b] pos) (bZ (aQ g fa fb)):=u3 F G q (vZ _ h1 h2)
end
end P
namespace My
open PySem PySem.Spec PyProof.Rows L2
section
variable {X:Cx}
end
end My
namespace P
open PySem PySem.Spec PyProof.Rows L2
section
variable {X:Cx}
end
end P
namespace HT
open PySem PySem.Spec PyProof.Rows
section
open PySem.SeqAt
open PySem.AutoSeq1 (wpAny_loadPart')
open PySem.MeetsSeq PySem.MeetsSeq2 PySem.MeetsSeq3
end
section
variable {prog:XM}{w:World}{A:XS}{E:Value->XE->Prop}{s:XE}
end
end HT
namespace P
open PySem PySem.Spec PyProof.Rows L2
section
variable {X:Cx}
end
section
variable {X:Cx}
end
noncomputable def mon:List Int->List Int->Int
 | e::es,v::vs=>v^e.toNat*mon es vs
 | _,_=>1
def ev(vs:List Int)(F:List My.Tm):Int:=(F.map λt=>t.2*mon t.1 vs).sum
noncomputable def pw(S:Nat->Int)(a:Int):Nat->Int
 | 0=>0
 | n+1=>pw S a n+a^n*S n
noncomputable def la(k:List Int):Int:=(k.getLast?).getD 0
section
variable {X:Cx}{L:Lp}{O O':List Nat}
theorem cO(O2:List Nat){O1 O3:List Nat}{st:Stmt}{q:List Stmt}{f g:Sv}(h:PSD X L O1 st f O2)(k:PSDs X L O2 q g O3):PSDs X L O1 (st::q) (bE f g) O3:=cn h k
theorem vM(i:Nat)(h:X.N[i]?=some x:=by eq_refl)(n:i∉O:=by decide)(q:EJ X.env.scope x:=by first|exact YR rfl|exact Z7 (YR rfl)|exact Z7 (Z7 rfl))(F:(x == ("__debug__" : Str))=false:=by eq_refl)(G:(x == ("__classdict__" : Str))=false:=by eq_refl):PD X O (.Name x p) (aA i):=cX i (pv i h q F G) n
theorem gN(i:Nat){x:Str}{pos:Pos}(F:X.N.Nodup:=by assumption)(hi:X.N[i]?=some x:=by eq_refl)(G:Loc X.env.scope x:=by first|exact YR rfl|exact Z7 rfl)(q:X.fn x=true\/X.env.scope.names.lookup x=some .local:=by first|exact .inl rfl|exact .inr rfl|assumption)(n:O.contains i=false:=by rfl):yL X O (.Name x pos) (aH i):=w9 (BR F hi G q) n
theorem wt{x1}(h:sL X O es g)(F:Len g es.length)(q:Nat.ble es.length 100=true:=by rfl):PD X O (.Tuple es x1 pos) (c8 g):=qP h (λρ ds k=>by rw[F ρ ds k];exact zdm q)
theorem wl(h:sL X O es g)(F:Len g es.length)(q:Nat.ble es.length 100=true:=by rfl):PF X O (.List es pos) (mU g):=QP h (λρ ds k=>by rw[F ρ ds k];exact zdm q)
theorem wE(O':Fn X.prog X.w X.K X.mg X.base x k ps F)(U:Room j X.A)(J:sL X O (e::es) f)(G:Len f ps.length)(Y:k<=j)(W:Gl X x:=by rfl)(q:(x == ("__debug__" : Str))=false:=by decide)(hs:isStar e=false:=by rfl)(N:(es.all λe=>!isStar e)=true:=by rfl):PD X O (.Call (.Name x p) (e::es) [] pos) (aI F f):=cD O' (U.mono Y) J G W q hs N
theorem U2{e:Expr}{es:List Expr}{f:Lv}{p pos:Pos}(F:X.mg "len" = none)(G:oG X O (e::es) f)(J:Gl X "len")(hs:isStar e=false)(q:((es:List Expr).all λe=>!isStar e)=true):PD X O (.Call (.Name "len" p) (e::es) [] pos) (aI dY f):=cB IF F My.boot_len G J (by decide) (by decide) hs q
theorem VB{e:Expr}{es:List Expr}{f:Lv}{p pos:Pos}(F:X.mg "tuple" = none)(G:oG X O (e::es) f)(J:Gl X "tuple")(hs:isStar e=false)(q:((es:List Expr).all λe=>!isStar e)=true):PD X O (.Call (.Name "tuple" p) (e::es) [] pos) (aI cT f):=UM lN F My.boot_tuple G J (by decide) (by decide) hs q
theorem V0{e:Expr}{es:List Expr}{f:Lv}{p pos:Pos}(F:X.mg "list" = none)(G:oG X O (e::es) f)(J:Gl X "list")(hs:isStar e=false)(q:((es:List Expr).all λe=>!isStar e)=true):PF X O (.Call (.Name "list" p) (e::es) [] pos) (aI fO f):=WQ ML F My.boot_list G J (by decide) (by decide) hs q
theorem U7{e:Expr}{es:List Expr}{f:Lv}{p pos:Pos}(N:X.calm=true)(G:X.mg "all" = none)(q:oG X O (e::es) f)(J:Gl X "all")(hs:isStar e=false)(F:((es:List Expr).all λe=>!isStar e)=true):PD X O (.Call (.Name "all" p) (e::es) [] pos) (aI EB f):=cB (G0 N) G My.boot_all q J (by decide) (by decide) hs F
theorem S3{q:Expr}{e:Expr}{es:List Expr}{f:Lv}{p pos:Pos}(N:X.calm=true)(J:X.mg "min" = none)(F:oG X O [e,q] f)(U:Gl X "min")(hs:isStar e=false)(G:(([q]:List Expr).all λe=>!isStar e)=true):PD X O (.Call (.Name "min" p) [e,q] [] pos) (aI IP f):=cB (LO N) J My.boot_min F U (by decide) (by decide) hs G
theorem R6{q:Expr}{e:Expr}{es:List Expr}{f:Lv}{p pos:Pos}(N:X.calm=true)(J:X.mg "max" = none)(F:oG X O [e,q] f)(U:Gl X "max")(hs:isStar e=false)(G:(([q]:List Expr).all λe=>!isStar e)=true):PD X O (.Call (.Name "max" p) [e,q] [] pos) (aI B9 f):=cB (JI N) J My.boot_max F U (by decide) (by decide) hs G
theorem RX{e:Expr}{es:List Expr}{f:Lv}{p pos:Pos}(N:X.calm=true)(G:X.mg "max" = none)(q:oG X O [e] f)(J:Gl X "max")(hs:isStar e=false)(F:(([]:List Expr).all λe=>!isStar e)=true):PD X O (.Call (.Name "max" p) [e] [] pos) (aI kA f):=cB (LD N) G My.boot_max q J (by decide) (by decide) hs F
theorem R5{e:Expr}{f:Ev}{p p2 pos:Pos}(U:PB X O e f)(J:X.mg "isinstance" = none)(q:X.mg "int" = none)(N:Gl X "isinstance")(F:Gl X "int")(h1:XI [e,.Name "int" p2] X.env=(false,eval e X.env)::XI [.Name "int" p2] X.env)(h2:(X0 pos (XI [.Name "int" p2] X.env)).any (·.1)=false)(G:XI [.Name "int" p2] X.env=(false,eval (.Name "int" p2) X.env)::XI [] X.env):PD X O (.Call (.Name "isinstance" p) [e,.Name "int" p2] [] pos) (z8 "int" f):=v5 JK N J F q My.boot_int U (by decide) (by decide) h1 h2 G
theorem QG{e:Expr}{f:Ev}{p p2 pos:Pos}(U:PB X O e f)(J:X.mg "isinstance" = none)(q:X.mg "bool" = none)(N:Gl X "isinstance")(F:Gl X "bool")(h1:XI [e,.Name "bool" p2] X.env=(false,eval e X.env)::XI [.Name "bool" p2] X.env)(h2:(X0 pos (XI [.Name "bool" p2] X.env)).any (·.1)=false)(G:XI [.Name "bool" p2] X.env=(false,eval (.Name "bool" p2) X.env)::XI [] X.env):PD X O (.Call (.Name "isinstance" p) [e,.Name "bool" p2] [] pos) (z8 "bool" f):=v5 GH N J F q My.boot_bool U (by decide) (by decide) h1 h2 G
theorem JL{e:Expr}{f:Ev}{p p2 pos:Pos}(U:PB X O e f)(J:X.mg "isinstance" = none)(q:X.mg "tuple" = none)(N:Gl X "isinstance")(F:Gl X "tuple")(h1:XI [e,.Name "tuple" p2] X.env=(false,eval e X.env)::XI [.Name "tuple" p2] X.env)(h2:(X0 pos (XI [.Name "tuple" p2] X.env)).any (·.1)=false)(G:XI [.Name "tuple" p2] X.env=(false,eval (.Name "tuple" p2) X.env)::XI [] X.env):PD X O (.Call (.Name "isinstance" p) [e,.Name "tuple" p2] [] pos) (z8 "tuple" f):=v5 kit_tuple N J F q My.boot_tuple U (by decide) (by decide) h1 h2 G
theorem SG{e:Expr}{f:Ev}{p p2 pos:Pos}(U:PB X O e f)(J:X.mg "isinstance" = none)(q:X.mg "str" = none)(N:Gl X "isinstance")(F:Gl X "str")(h1:XI [e,.Name "str" p2] X.env=(false,eval e X.env)::XI [.Name "str" p2] X.env)(h2:(X0 pos (XI [.Name "str" p2] X.env)).any (·.1)=false)(G:XI [.Name "str" p2] X.env=(false,eval (.Name "str" p2) X.env)::XI [] X.env):PD X O (.Call (.Name "isinstance" p) [e,.Name "str" p2] [] pos) (z8 "str" f):=v5 K2 N J F q My.boot_str U (by decide) (by decide) h1 h2 G
theorem W8{e:Expr}{lo hi:Option Expr}{p2 pos:Pos}{f:Ev}{a b:Ov}(q:PB X O e f)(F:JC X O lo a)(G:JC X O hi b):PD X O (.Subscript e (.Slice lo hi none p2) pos) (wB iM f a b):=xW TR q F G
theorem WT{a b:Expr}{pos:Pos}{F q:Ev}(N:X.A.units+1<cLine)(J:PB X O a F)(G:PB X O b q)(hs:u6 b:=by exact λ_ _=>rfl):PD X O (.Subscript a b pos) (aQ a6 F q):=BQ N J G hs
theorem VI{a b:Expr}{pos:Pos}{F q:Ev}{j:Nat}(N:Room j X.A)(J:PB X O a F)(G:PB X O b q)(U:zau .In b=false):rO X O (.Compare a [.In] [b] pos) (bZ (aQ rM F q)):=u3 (G1 N.units) J G U
theorem WV{a b:Expr}{op:CmpOp}{pos:Pos}{g:D->D->Option D}{F q:Ev}(N:jK X (XY op) g)(J:PB X O a F)(G:PB X O b q)(h1:op≠CmpOp.In)(h2:op≠CmpOp.NotIn):PD X O (.Compare a [op] [b] pos) (aQ g F q):=zQ N J G (vZ _ h1 h2)
theorem WY{o:Expr}{f:Ev}{p pos apos cpos:Pos}{j:Nat}(G:Room j X.A)(J:X.mg "sorted" = none)(N:PB X O o f)(U:X.calm=true)(W:Gl X "sorted")(h1:zbe o "items" X.env (eval o X.env)=eval o X.env)(h2:(apos.endLine == cpos.line)=true)(Y:XI [.Call (.Attribute o "items" apos) [] [] cpos] X.env=(false,eval (.Call (.Attribute o "items" apos) [] [] cpos) X.env)::XI [] X.env)(q:(X0 pos (XI [] X.env)).any (·.1)=false):PF X O (.Call (.Name "sorted" p) [.Call (.Attribute o "items" apos) [] [] cpos] [] pos) (uJ pY f):=zB U G.units W J N (λh=>NU PySem.F.slot_dict_items PySem.F.type_dict_items My.GG h h1 h2) Y q
theorem WU{j:Nat}(q:Room j X.A):jK X (XY .Eq) mV:=R0 q.units
theorem W2{j:Nat}(q:Room j X.A):jK X (XY .NotEq) yK:=SI q.units
theorem WZ{j:Nat}(q:Room j X.A):jK X (XY .Lt) k7:=G2 q.units0
def At(l:List Str)(x:Str)(i:Nat):Prop:=l[i]?=some x
theorem at_(i:Nat){l:List Str}{x:Str}(h:l[i]?=some x:=by eq_refl):At l x i:=h
theorem vB{i:Nat}{x:Str}{p:Pos}(h:At X.N x i)(q:EJ X.env.scope x)(F:(x == ("__debug__" : Str))=false)(G:(x == ("__classdict__" : Str))=false):PB X O (.Name x p) (aA i):=fE i (pv i h q F G)
theorem vD{i:Nat}{x:Str}{p:Pos}(h:At X.N x i)(n:O.contains i=false)(q:EJ X.env.scope x)(F:(x == ("__debug__" : Str))=false)(G:(x == ("__classdict__" : Str))=false):PD X O (.Name x p) (aA i):=cX i (pv i h q F G) (by simpa using n)
theorem gV{i:Nat}{x:Str}{pos:Pos}(h:At X.N x i)(n:O.contains i=false)(F:X.N.Nodup)(G:Loc X.env.scope x)(q:X.fn x=true\/X.env.scope.names.lookup x=some .local):yL X O (.Name x pos) (aH i):=w9 (BR F h G q) n
theorem aY(i:Nat)(J:PD X O e f:=by trivial)(F:X.N.Nodup:=by assumption)(hi:X.N[i]?=some x:=by rfl)(G:Loc X.env.scope x:=by first|exact YR rfl|exact Z7 rfl)(h:Sub O' (O.filter (· != i))=true:=by rfl)(hs:YL e (some (.Name x pos')) pos.line X.env=pure false:=by rfl)(q:X.fn x=true\/X.env.scope.names.lookup x=some .local:=by first|exact .inl rfl|exact .inr rfl):PSD X L O (.Assign [.Name x pos'] e pos) (cF i f) O':=AL F hi G J h hs q
theorem cS(i:Nat)(J:PF X O e f:=by trivial)(F:X.N.Nodup:=by assumption)(hi:X.N[i]?=some x:=by rfl)(G:Loc X.env.scope x:=by first|exact YR rfl|exact Z7 rfl)(h:Sub O' (i::O)=true:=by rfl)(U:O.contains i=false:=by rfl)(hs:YL e (some (.Name x pos')) pos.line X.env=pure false:=by rfl)(q:X.fn x=true\/X.env.scope.names.lookup x=some .local:=by first|exact .inl rfl|exact .inr rfl):PSD X L O (.Assign [.Name x pos'] e pos) (cF i f) O':=ES F hi G J h U hs q
theorem jE(i:Nat)(J:PD X O e f:=by trivial)(G:PE X o (iN i):=by exact pv _)(W:mem O i=true:=by rfl)(Y:zbe o "append" X.env (eval o X.env)=eval o X.env:=by rfl)(a2:((((X0 cpos (XI [e] X.env)).all λx=>!x.fst) && (backToKw cpos (zcm [] X.env)).all λx=>x.fst.isSome) && decide (([e].length+([]:List zax).length+if([]:List zax).isEmpty=true then 0 else 1)<30))=true:=by rfl)(U:(apos.endLine == cpos.line)=true:=by rfl)(q:XI [e] X.env=(false,eval e X.env)::XI [] X.env:=by rfl)(N:((X0 cpos (XI [] X.env)).any λx=>x.fst)=false:=by rfl)(hs:YL (.Call (.Attribute o "append" apos) [e] [] cpos) none pos.line X.env=pure false:=by rfl)(h:Sub O' O=true:=by rfl):PSD X L O (.Expr (.Call (.Attribute o "append" apos) [e] [] cpos) pos) (mR i f) O':=zL G J W (B5 zcO PySem.F.slot_list_append PySem.F.type_list_append mI G (bB (PD.pe J) dX (hs:=q)) Y a2 U q N) hs h
theorem aZ(q:PD X O e f:=by trivial):PSDs X L O [.Return (some e) pos] (CA f) O':=aK (JR q)
theorem V4(F:PSDs X L O a f O')(q:PSDs X L O b k O')(G:rO X O c g:=by trivial):PSD X L O (.If c a b pos) (eR g f k) O':=zM G F q
theorem bJ(q:PSDs X L O a f O')(F:rO X O c g:=by trivial)(h:Sub O' O=true:=by rfl):PSD X L O (.If c a [] pos) (eR g f gF) O':=zM F q (AH h)
theorem VC{st:Stmt}:PSDs X L O [st] eI O':=aK DT
theorem bI{c:Expr}{st:Stmt}{pos:Pos}{g:Bv}(q:rO X O c g:=by trivial)(h:Sub O' O=true:=by rfl):PSD X L O (.If c [st] [] pos) (eR g eI gF) O':=zM q VC (AH h)
theorem dH(O1 q:List Nat)(G:PSDs X ⟨q,O1⟩ O1 body b O1)(hi:PDI X O tg iter f:=by trivial)(N:yL X O1 tg g:=by trivial)(J:PassesOwn (model X.prog X.w) X.A X.env X.xe:=by exact PassesOwn.never)(U:X.calm=true:=by rfl)(h1:Sub O1 O=true:=by rfl)(h2:Sub O' O1=true:=by rfl)(F:Sub O' q=true:=by rfl)(hs:∀x,zaf iter X.env x=pure x:=by intro _;rfl):PSD X L O (.For tg iter body [] pos) (nU f g b) O':=L6 J U hi N G h1 h2 F hs
theorem gW(i:Nat)(U:PD X O value fe:=by trivial)(G:PB X O k fk:=by trivial)(W:X.A.units+1<cLine:=by assumption)(J:PE X o (iN i):=by exact pv _)(F:mem O i=true:=by rfl)(h:Sub O' O=true:=by rfl)(hs:YL value (some (.Subscript o k pos')) pos.line X.env=pure false:=by rfl)(q:zb7 [.Subscript o k pos'] value pos.line X.env=pure false:=by rfl)(hw:zb8 [.Subscript o k pos'] value X.env=pure none:=by rfl)
  (N:∀ {to ti:TE} {t:IY},PE X o to->PE X k ti->MN X t->PG X (.Subscript o k pos') (Q0 to ti t):=by intro _ _ _ a b c;exact HQ a b c):PSD X L O (.Assign [.Subscript o k pos'] value pos) (jH i fk fe) O':=LU W J G U F h hs q hw N
theorem fF(q:PB X O e f:=by trivial)(hs:YL e none pos.line X.env=pure false:=by rfl)(h:Sub O' O=true:=by rfl):PSD X L O (.Expr e pos) (l6 f) O':=FC q hs h
theorem mQ(σ:XE)(N:List Str)(ms:List (Option Nat))(hi:PDI X O tg iter it:=by trivial)(W:∀C s H fp,N.Nodup->yL (My.bA X N scope (jJ X.env.cells scope.names []) C s H fp) [] tg g:=by intros;trivial)(J:∀C s H fp,My.EI (My.bA X N scope (jJ X.env.cells scope.names []) C s H fp) ifs (tDT [] c):=by intros;trivial)(he:∀C s H fp,PD (My.bA X N scope (jJ X.env.cells scope.names []) C s H fp) [] elt f:=by intros;trivial)
  (U:X.env.cells=za9 (σ.heap.objs.size+1) X.env.scope.names []:=by rfl) (q:eW X scope N ms:=by repeat' first|exact Z5|exact rfl|exact YR rfl|constructor) (G:N.Nodup:=by decide)
  (Y:X.calm=true:=by rfl) (F:scope.kind=.function:=by rfl) (h:IU scope.names X.env.scope.names=true:=by rfl) (hn:(ms.all λo=>match o with|some i=>!O.contains i|none=>true)=true:=by rfl) (hs:∀x,zaf iter X.env x=pure x:=by intro _;rfl):PF X O (.ListComp elt [⟨tg,iter,ifs,0⟩] scope pos) (gY ms it g c f):=LJ Y (G8 F h U) q hn hi (λC s H fp=>W C s H fp G) J he hs
theorem NV(i:Nat)(σ:XE)(N:List Str)(ms:List (Option Nat))(hi:PDI X O tg iter it:=by trivial)(hg:∀C s H fp,N.Nodup->yL (My.bA X N scope (jJ X.env.cells scope.names []) C s H fp) [] tg g:=by intros;trivial)(ht:∀C s H fp,My.EI (My.bA X N scope (jJ X.env.cells scope.names []) C s H fp) ifs (tDT [] c):=by intros;trivial)(he:∀C s H fp,PD (My.bA X N scope (jJ X.env.cells scope.names []) C s H fp) [] elt f:=by intros;trivial)
  (hx:X.env.cells=za9 (σ.heap.objs.size+1) X.env.scope.names []:=by rfl) (G:eW X scope N ms:=by repeat' first|exact Z5|exact rfl|exact YR rfl|constructor) (hN:N.Nodup:=by decide)
  (hc:X.calm=true:=by rfl) (Y:scope.kind=.function:=by rfl) (h:IU scope.names X.env.scope.names=true:=by rfl) (hn:(ms.all λo=>match o with|some i=>!O.contains i|none=>true)=true:=by rfl) (hs:∀x,zaf iter X.env x=pure x:=by intro _;rfl)
  (hX:X.N.Nodup:=by assumption) (F:X.N[i]?=some x:=by rfl) (U:Loc X.env.scope x:=by first|exact YR rfl|exact Z7 rfl) (q:Sub O' (O.filter (· != i))=true:=by rfl) (J:YL (.ListComp elt [⟨tg,iter,ifs,0⟩] scope pos) (some (.Name x pos')) spos.line X.env=pure true:=by rfl) (W:X.fn x=true\/X.env.scope.names.lookup x=some .local:=by first|exact .inl rfl|exact .inr rfl) :
  PSD X L O (.Assign [.Name x pos'] (.ListComp elt [⟨tg,iter,ifs,0⟩] scope pos) spos) (cF i (gY ms it g c f)) O':=GI hX F U hc (G8 Y h hx) G hn hi (λC s H fp=>hg C s H fp hN) ht he q hs J W
end
theorem fx{Q:XM}{w:World}{K:XF}{mg:Str->Option Value}{base:Heap}{x:Str}{k:Nat}{ps:List Str}{F:List D->Option D}(B:List D->Option D)(h:Fn Q w K mg base x k ps F)(e:F=B:=by rfl):Fn Q w K mg base x k ps B:=e ▸ h
noncomputable def Q3:List Str->(List Value->Prop)->Prop
 | [],Q=>Q []
 | _::ps,Q=>∀u,Q3 ps λus=>Q (u::us)
theorem J4{ps:List Str}{Q:List Value->Prop}(h:Q3 ps Q){q:List Value}(e:q.length=ps.length):Q q:=by
 induction ps generalizing q Q with
 | nil=>rw[List.length_eq_zero_iff.mp e];exact h
 | cons a ps ih=>
  cases q with
  | nil=>cases e
  | cons u q=>exact ih (h u) (Nat.succ.inj e)
def Bd(st:Stmt)(x:Str)(ps:List Str):Prop:=∀(kV doc pm:Value) (an:Option Addr) (cdv ct:Value),Q3 ps λq=>bindArgs (Z0 x x (d7 st) (bO st) (aF st) .none kV doc pm an cdv ct) ⟨q,[]⟩=pure (ps.zip q)
def De(K:XF)(x:Str)(st:Stmt):Prop:=∃f,zar K YK x=some (some (.ref f))/\Fe K x st f
def Des(K:XF)(tp:Nat->Stmt)(t:List (Str×Nat×List Str)):Prop:=∀p∈t,De K p.1 (tp p.2.1)
theorem Des.nil{K:XF}{tp:Nat->Stmt}:Des K tp []:=λ_ h=>nomatch h
theorem Des.cons{K:XF}{tp:Nat->Stmt}{x:Str}{i:Nat}{ps:List Str}{t:List (Str×Nat×List Str)}{f:Addr}{J:Value}{od U:Option Addr}{G:Array (Option Value)}{kV F N q ct:Value}(a:zar K YK x=some (some (.ref f)))(l:K.lookup f=some ⟨J,od,.func (Z0 x x (d7 (tp i)) (bO (tp i)) (aF (tp i)) .none kV F N U q ct),G⟩)(c:zba K q x=true)(k:zaw K (.ref f)=true)(r:Des K tp t):Des K tp ((x,i,ps)::t):=
 zcP.2 ⟨⟨f,a,Fe.mk l c k⟩,r⟩
def Bds(tp:Nat->Stmt)(t:List (Str×Nat×List Str)):Prop:=∀p∈t,Bd (tp p.2.1) p.1 p.2.2
theorem Bds.nil:Bds tp []:=λ_ h=>nomatch h
theorem Bds.cons(a:Bd (tp i) x ps)(r:Bds tp t):Bds tp ((x,i,ps)::t):=zcP.2 ⟨a,r⟩
theorem Des.d{K:XF}{h:Heap}{mg:Str->Option Value}{tp:Nat->Stmt}{t:List (Str×Nat×List Str)}(X:K.In h)(G:h.Ns YK mg)(D:Des K tp t)(B:Bds tp t):∀p∈t,My.DefAt K mg p.1 (tp p.2.1) p.2.2:=λp J=>let ⟨_,a,e⟩:=D p J;e.d (za2 X G a) λkV F N U q ct W=>J4 (B p J kV F N U q ct)
def Nos(K:XF)(t:List Str):Prop:=∀x∈t,zar K YK x=some none
theorem Nos.nil{K:XF}:Nos K []:=λ_ h=>nomatch h
theorem Nos.cons{K:XF}{x:Str}{t:List Str}(a:zar K YK x=some none)(r:Nos K t):Nos K (x::t):=zcP.2 ⟨a,r⟩
def Gis(K:XF)(t:List (Str×Int)):Prop:=∀p∈t,∃k,zar K YK p.1=some (some (.int p.2 k))
theorem Gis.nil{K:XF}:Gis K []:=λ_ h=>nomatch h
theorem Gis.cons{K:XF}{x:Str}{n:Int}{k:Tok}{t:List (Str×Int)}(a:zar K YK x=some (some (.int n k)))(r:Gis K t):Gis K ((x,n)::t):=zcP.2 ⟨⟨k,a⟩,r⟩
theorem Gis.d{K:XF}{h:Heap}{mg:Str->Option Value}{t:List (Str×Int)}(X:K.In h)(G:h.Ns YK mg)(D:Gis K t):∀p∈t,GInt mg p.1 p.2:=λp q=>let ⟨_,a⟩:=D p q;⟨⟨_,za2 X G a⟩⟩
theorem iF{w:List D}{c:Int}(h0:0<=c)(h1:c<=(w.length:Int)):cutD w none (some c)=w.take c.toNat/\cutD w (some c) none=w.drop c.toNat:=by
 have F:HT.sIx w.length w.length (some c)=c.toNat:=by
  show(if c<0 then _ else min c.toNat w.length)=_;rw[if_neg (by lia)];lia
 have q:HT.sIx w.length 0 (some c)=c.toNat:=by
  show(if c<0 then _ else min c.toNat w.length)=_;rw[if_neg (by lia)];lia
 have J:HT.sIx w.length 0 none=0:=rfl;have G:HT.sIx w.length w.length none=w.length:=rfl;unfold cutD;rw[F,q,J,G];constructor
 ·simp
 ·rw[List.take_of_length_le (by simp)]
section
variable {ρ ρ':cL}{f g:Ev}{a b:Bv}{l:Lv}{x y d r:D}{xs:List D}{i j:Int}{k:Nat}{s t:Sv}{o:Option Out}
theorem QJ(h:ρ[k]?=some (some x)):aA k ρ=some x:=by unfold aA;rw[h];rfl
theorem VF:eC x ρ=some x:=rfl
theorem yH{w:D->D->Option D}(q:f ρ=some x)(G:g ρ=some y)(F:w x y=some r):aQ w f g ρ=some r:=by unfold aQ;rw[q,aC,G,aC,F]
theorem KD{F:List D->Option D}(h:l ρ=some xs)(k:F xs=some r):aI F l ρ=some r:=by unfold aI;rw[h,aC,k]
theorem JP(h:f ρ=some x)(k:l ρ=some xs):aB f l ρ=some (x::xs):=by unfold aB;rw[h,aC,k,aC]
theorem NT(h:l ρ=some xs):c8 l ρ=some (.tup xs):=by unfold c8;rw[h,aE]
theorem P8(h:l ρ=some xs):mU l ρ=some (.lst xs):=by unfold mU;rw[h,aE]
theorem IV(h:f ρ=some (.int i)):eN f ρ=some (some i):=by unfold eN;rw[h,aC];rfl
theorem IM{w:D->Option Int->Option Int->Option D}{u v:Ov}{p q:Option Int}(F:f ρ=some x)(N:u ρ=some p)(J:v ρ=some q)(G:w x p q=some r):wB w f u v ρ=some r:=by unfold wB;rw[F,aC,N,aC,J,aC,G]
theorem PR(h:f ρ=some (.int i)):D6 f ρ=some (.int (-i)):=by unfold D6;rw[h,aC];rfl
theorem NY{c:Bool}(h:f ρ=some (.bl c)):bZ f ρ=some c:=by unfold bZ;rw[h,aC];rfl
theorem NW{c:Bool}(h:a ρ=some c):dG a ρ=some (!c):=by unfold dG;rw[h,aE]
noncomputable def UH{α:Type}(c:Bool)(u v:α):α:=if c=true then u else v
theorem UD{q:Type}{c:Bool}{u v w:q}(h:c=true)(k:u=w):UH c u v=w:=(if_pos h).trans k
theorem TL{q:Type}{c:Bool}{u v w:q}(h:c=false)(k:v=w):UH c u v=w:=(if_neg (by rw[h];exact nofun)).trans k
theorem P5{c:Bool}{z:Option Bool}(h:a ρ=some c)(k:UH c (b ρ) (some false)=z):sJ a b ρ=z:=by unfold sJ;rw[h,aC];exact k
theorem TJ{c:Bool}{z:Option Bool}(h:a ρ=some c)(k:UH c (some true) (b ρ)=z):EH a b ρ=z:=by unfold EH;rw[h,aC];exact k
theorem RO{c:Bool}(h:a ρ=some c)(k:UH c (s ρ) (t ρ)=o):eR a s t ρ=o:=by unfold eR;rw[h,aC];exact k
def sq(p:Out)(t:Sv):Option Out:=match p with
 | .nx ρ=>t ρ
 | p=>some p
theorem PL{p:Out}(h:s ρ=some p)(k:sq p t=o):bE s t ρ=o:=by unfold bE;rw[h,aC];exact k
theorem SK(k:t ρ=o):sq (.nx ρ) t=o:=k
theorem M9(h:f ρ=some x):CA f ρ=some (.rt x):=VZ h
theorem OI{w:Gv}(h:f ρ=some x)(k:w x ρ=some ρ'):MY f w ρ=some (.nx ρ'):=by unfold MY;rw[h,aC,k,aE]
theorem PQ(h:aA k ρ=some (.lst xs))(e:f ρ=some x)(z:xs.length<=1000000):mR k f ρ=some (.nx (ρ.set k (some (.lst (xs++[x]))))):=by
 unfold mR;rw[h,aC];show(f ρ).bind _=_;rw[e,aC];exact if_pos (decide_eq_true z)
theorem vT{u v:List D}(z:u.length+v.length<=1000000):a8 (.lst u) (.lst v)=some (.lst (u++v)):=if_pos (decide_eq_true z)
theorem KL{u:List D}(z:u.length+1<=1000000):a8 (.lst u) (.lst [x])=some (.lst (u++[x])):=vT z
theorem S0(h:fS xs i=some x):a6 (.lst xs) (.int i)=some x:=h
theorem P2(h:fS xs i=some x):a6 (.tup xs) (.int i)=some x:=h
theorem L7{ms:List (Option Nat)}{w:Gv}{ds:List D}(h:l ρ=some xs)(z:xs.length<=1000000)(e:cE w a f xs (oJ ms ρ)=some ds):gY ms l w a f ρ=some (.lst ds):=by unfold gY;rw[h,aC];exact(if_pos (decide_eq_true z)).trans (by rw[e,aE])
theorem N8{w:Gv}:cE w a f [] ρ=some []:=rfl
theorem MA{w:Gv}{ds:List D}(h:w x ρ=some ρ')(k:a ρ'=some true)(e:f ρ'=some y)(r:cE w a f xs ρ'=some ds):cE w a f (x::xs) ρ=some (y::ds):=by rw[cE,h,aC,k,aC,if_pos rfl,e,aC,r,aC]
theorem SC{w:Gv}(h:w x ρ=some ρ')(k:s ρ'=o):turn w s x ρ=o:=by unfold turn;rw[h,aC,k]
theorem O9{w:Gv}(h:l ρ=some xs)(k:gE w s xs ρ=o):nU l w s ρ=o:=by unfold nU;rw[h,aC,k]
theorem OH{w:Gv}:gE w s [] ρ=some (.nx ρ):=rfl
theorem MK{w:Gv}(h:turn w s x ρ=some (.nx ρ'))(k:gE w s xs ρ'=o):gE w s (x::xs) ρ=o:=by
 unfold turn at h;obtain⟨ρ1,q,F⟩:=bind_some h;unfold gE;rw[q,aC,F,aC];exact k
theorem K7{ys:List D}(h:l ρ=some [x])(e:(uB x).map (fQ 0)=some ys):yF l ρ=some ys:=by unfold yF;rw[h,aC];exact e
theorem OY(h:f ρ=some (.lst xs)):dE f ρ=some xs:=by unfold dE;rw[h,aC]
theorem R7{w:List D->Option (List D)}{ys:List D}(h:l ρ=some xs)(k:w xs=some ys):lR w l ρ=some ys:=by unfold lR;rw[h,aC,k]
theorem OW{u:Ev}{w:List D}(q:f ρ=some (.lst w))(F:g ρ=some (.int i))(G:u ρ=some (.lst [x]))(h0:0<=i)(h1:i<w.length)(J:w.length<=1000) :
  aQ a8 (aQ a8 (wB iM f fP (eN g)) u) (wB iM f (eN (aQ a8 g (eC (.int 1)))) fP) ρ=some (.lst (w.take i.toNat++x::w.drop (i.toNat+1))):=by
 obtain⟨n,rfl⟩:=Int.eq_ofNat_of_zero_le h0;refine(yH (yH (IM q rfl (IV F) rfl) G (vT ?_)) (IM q (IV (yH F rfl rfl)) rfl rfl) (vT ?_)).trans ?_
 all_goals rw[(iF h0 (by lia)).1]
 ·simp;lia
 ·rw[(iF (by lia) (by lia)).2];simp;lia
 ·rw[(iF (by lia) (by lia)).2];simp
end
def hide(p:Addr)(H:Hp):Hp:=λb=>if b=p then none else H b
section
variable {A A0:Av}{H H0 H':Hp}{p:Addr}
theorem hide_ne{b:Addr}(n:b≠p):hide p H b=H b:=if_neg n
theorem n5{b:Addr}{u:HO}(n:b≠p)(h:Rd H b u):Rd (hide p H) b u:=by
 rcases h with h|⟨o,h⟩
 ·exact .inl (by rw[hide_ne n];exact h)
 ·exact .inr ⟨o,by rw[hide_ne n];exact h⟩
mutual
theorem Rep.hide(q:A p)(F:∀xs,H p≠some (.tup xs)){d:D}{v:V}:Rep A H d v->Rep A (hide p H) d v
 | .non=>.non
 | .bl b=>.bl b
 | .int i=>.int i
 | .str s=>.str s
 | .tup h r=>.tup (by rw[hide_ne (λz=>by subst z;exact F _ h)];exact h) (RepL.hide q F r)
 | .lst n h r=>.lst n (n5 (λz=>n (z ▸ q)) h) (RepL.hide q F r)
 | .dK n h e r=>.dK n (n5 (λz=>n (z ▸ q)) h) e (RepL.hide q F r)
 | .dT n h e r=>.dT n (n5 (λz=>n (z ▸ q)) h) e (RepL.hide q F r)
theorem RepL.hide(F:A p)(q:∀xs,H p≠some (.tup xs)){ds:List D}{vs:List V}:RepL A H ds vs->RepL A (hide p H) ds vs
 | .nil=>.nil
 | .cons h t=>.cons (Rep.hide F q h) (RepL.hide F q t)
end
abbrev W3(A:Av)(p:Addr):Av:=λb=>A b/\b≠p
abbrev VM(A:Av)(p:Addr)(H H':Hp):Prop:=Ext (W3 A p) (hide p H) H'
end
inductive OutQ where
 | nx (ρ:cL)|rt (d l:D)
abbrev Qv:=cL->Option OutQ
section
variable {X:Cx}{z:Nat}
def XB(n:Nat)(F:List D->Option (D×D)):Sp:=λvs H Q _=>∃(A:Av) (p:Addr) (v0:V) (us:List V) (d0:D) (es:List D) (l d l':D),vs=v0::.ref p::us/\us.length+2=n/\Live A H/\A p/\Rep A H d0 v0/\RepL A H es us/\Own A H l p/\F (d0::l::es)=some (d,l') /\
 ∀v H',VM A p H H'->Own A H' l' p->Rep A H' d v->Q v H'
def FnQ(P:XM)(w:World)(K:XF)(mg:Str->Option Value)(base:Heap)(x:Str)(k:Nat)(ps:List Str)(F:List D->Option (D×D)):Prop:=My.Ok P w K mg base x k ps (XB ps.length F)
theorem FnQ.mono{P:XM}{w:World}{K:XF}{mg:Str->Option Value}{base:Heap}{x:Str}{j k:Nat}{ps:List Str}{F:List D->Option (D×D)}(h:FnQ P w K mg base x j ps F)(l:j<=k):FnQ P w K mg base x k ps F:=My.Ok.mono h l
end
section
variable {A A0:Av}{H H0 H':Hp}{p D':Addr}{E:List Fact}{z zc:Nat}{σ:L2.St}{ρ:cL}
end
section
variable {X:Cx}{z:Nat}
end
section
variable {X:Cx}{L:Lp}{O:List Nat}
end
section
variable {X:Cx}{O:List Nat}
theorem ST.add{H0:Hp}{A0 A:Av}{E:List Fact}{σ:L2.St}{H H':Hp}{ρ:cL}{a:Addr}(s:ST H0 A0 A E O σ H ρ)(x:Ext A H H')(n:H a=none)(h:H' a≠none):ST H0 A0 (λb=>A b\/b=a) E O σ H' ρ:=by
 have F:∀b,(A b\/b=a)->A b\/H b=none:=λb q=>q.imp id λz=>by rw[z];exact n
 have G:Ext (λb=>A b\/b=a) H H':=⟨x.rd,x.kp,λb u m e=>m.elim (λm=>x.ow b u m e) (λm=>by subst m;rw[n]at e;cases e),x.fz⟩;have s':=s.mono x;refine⟨s'.ex,λb q=>.inl (s.sub b q),s.l0,λb q=>?_,s.len,λi d e k=>?_,λi d e k=>?_,s.inj,λp U=>Fact.ext G (Fact.av F (s.ext p U))⟩
 ·rcases q with q|q
  ·exact s'.live b q
  ·rw[q];exact h
 ·obtain⟨v,h1,h2⟩:=s.val i d e k
  exact⟨v,h1,(h2.av F).ext G⟩
 ·obtain⟨b,h1,h2,J,N⟩:=s.own i d e k
  exact⟨b,h1,.inl h2,J,(N.av F).ext G (.inl h2)⟩
def HF(F:List D->Option (D×D))(f0 fl:Ev)(fs:Lv):Ev:=λρ=>(f0 ρ).bind λd0=>(fl ρ).bind λl=>(fs ρ).bind λes=>match l with
 | .lst _=>(F (d0::l::es)).map (·.1)
 | _=>none
theorem F2{x:Str}{k:Nat}{ps:List Str}{F:List D->Option (D×D)}{J el:Expr}{es:List Expr}{f0 fl:Ev}{fs:Lv}{p pos:Pos}(O':FnQ X.prog X.w X.K X.mg X.base x k ps F)(hr:Room k X.A)(hg:Gl X x)(h0:PD X O J f0)(hp:PF X O el fl)(ha:sL X O es fs)(hl:∀ρ ds,fs ρ=some ds->ds.length+2=ps.length)(ad:(x == ("__debug__" : Str))=false:=by decide)
  (he:XI (J::el::es) X.env=(false,eval J X.env)::XI (el::es) X.env:=by rfl) (ac:XI (el::es) X.env=(false,eval el X.env)::XI es X.env:=by rfl) (aa:(X0 pos (XI (el::es) X.env)).any (·.1)=false:=by rfl) :
  PD X O (.Call (.Name x p) (J::el::es) [] pos) (HF F f0 fl fs):=PE.mono (My.lF O' hr hg (bB h0 (bB hp ha ac) he) ad he aa) λσ H Q ⟨H0,A0,A,E,ρ,d,st,e,q⟩=>by
 obtain⟨d0,J,e⟩:=bind_some e;obtain⟨l,e1,e⟩:=bind_some e;obtain⟨ds,e2,e⟩:=bind_some e;cases l with
 | lst l=>
  obtain⟨⟨d',l'⟩,e3,rfl⟩:=map_some e;refine⟨H0,A0,A,E,ρ,d0,st,J,λv0 H1 W r1=>⟨H0,A0,A,E,ρ,.lst l,st.mono W,e1,λa H2 G n na o=>?_⟩⟩;cases o with
  | @lst _ _ xs h r=>
   have s2:=(st.mono W).add G n (by rw[h];exact nofun);refine⟨H0,A0,_,E,ρ,ds,s2,e2,λus H3 N r3=>?_⟩;have n0:H a=none:=W.free n;have Y:Ext (λb=>A b\/b=a) H1 H2:=⟨G.rd,G.kp,λb u m e=>m.elim (λm=>G.ow b u m e) (λm=>by subst m;rw[n]at e;cases e),G.fz⟩;have r0:Rep (λb=>A b\/b=a) H3 d0 v0:=((r1.av λb hb=>hb.imp id λz=>by rw[z];exact n).ext Y).ext N;have h3:H3 a=some (.lst xs):=N.ow a _ (.inr rfl) h;refine⟨λb=>A b\/b=a,a,v0,us,d0,ds,.lst l,d',l',rfl,by rw[r3.length];exact hl ρ ds e2,(s2.mono N).live,.inr rfl,r0,r3.toL,.lst h3 (r.ext N),e3,λv H' x o r=>?_⟩
   ·have U:=(W.trans G).trans (N.mono λ_ h=>.inl h)
    have ne:∀ {b u},H b=some u->b≠a:=λh z=>by rw[z,n0]at h;cases h
    refine q v H' ⟨λb u h=>?_,λb u k h=>?_,λb u m h=>?_,λb o u h=>?_⟩ (r.av λb hb=>.inl (.inl hb))
    ·exact x.rd b u (n5 (by rcases h with h|⟨_,h⟩ <;> exact ne h) (U.rd b u h))
    ·exact x.kp b u k (by rw[hide_ne (ne h)];exact U.kp b u k h)
    ·exact x.ow b u ⟨.inl m,ne h⟩ (by rw[hide_ne (ne h)];exact U.ow b u m h)
    ·exact x.fz b o u (by rw[hide_ne (ne h)];exact U.fz b o u h)
 | _=>cases e
end
section
variable {X:Cx}{z:Nat}
theorem wN{O:List Nat}{x:Str}{k j m:Nat}{ps:List Str}{F:List D->Option (D×D)}{q el:Expr}{es:List Expr}{f0 fl:Ev}{fs:Lv}{p pos:Pos}(O':FnQ X.prog X.w X.K X.mg X.base x k ps F)(hr:Room j X.A)(h0:PD X O q f0)(hp:PF X O el fl)(W:sL X O es fs)(U:Len fs m)(hm:m+2=ps.length)(Y:k<=j)(hg:Gl X x:=by rfl)(G:(x == ("__debug__" : Str))=false:=by decide)
  (he:XI (q::el::es) X.env=(false,eval q X.env)::XI (el::es) X.env:=by rfl) (N:XI (el::es) X.env=(false,eval el X.env)::XI es X.env:=by rfl) (J:(X0 pos (XI (el::es) X.env)).any (·.1)=false:=by rfl) :
  PD X O (.Call (.Name x p) (q::el::es) [] pos) (HF F f0 fl fs):=F2 (O'.mono Y) hr hg h0 hp W (λρ ds h=>by rw[U ρ ds h];exact hm) G he N J
end
section
variable {ρ ρ':cL}{f f0:Ev}{a:Bv}{l fs:Lv}{x y d e:D}{xs es:List D}{i j z:Nat}{s t:Qv}{o:Option OutQ}
end
end P
namespace My
open PySem PySem.Spec PyProof.Rows L2 PySem.Builtin PySem.Builtin.Str
section
variable {X:Cx}
end
end My
namespace P
open PySem PySem.Spec PyProof.Rows L2
section
variable {X:Cx}{O:List Nat}
theorem VT{a b:Expr}{pos:Pos}{F q:Ev}{j:Nat}(N:Room j X.A)(J:PB X O a F)(G:PB X O b q)(U:zau .In b=false):PD X O (.Compare a [.In] [b] pos) (aQ rM F q):=zQ (G1 N.units) J G U
end
end P
namespace Law
open PySem PySem.Spec PyProof.Rows L2 P
local macro_rules | `(tactic|ac_rfl) => `(tactic|first
 | (with_reducible first|exact VF|exact N8|exact OH|exact rfl|assumption)
 | ((with_reducible apply QJ);exact rfl)
 | (with_reducible first|apply SK|apply PL|apply OW|apply yH|apply JP|apply KD|apply aP|apply NT|apply P8|apply IM|apply IV|apply OI|apply M9|apply RO|apply NY|apply PR|apply L7|apply MA|apply O9|apply MK|apply SC|apply K7|apply OY|apply R7|apply NW|apply P5|apply TJ|apply PQ) <;> ac_rfl
 | ((with_reducible apply UD);(with_reducible first|exact rfl|(apply decide_eq_true;assumption));ac_rfl)
 | ((with_reducible apply TL);(with_reducible first|exact rfl|(apply decide_eq_false;assumption));ac_rfl)
 | (with_reducible apply UD) <;> ac_rfl
 | (with_reducible apply TL) <;> ac_rfl
 | (with_reducible first|apply aO|apply a7|apply q_eqI|apply S0|apply P2|apply KL|apply vT|apply decide_eq_true|apply decide_eq_false) <;> ac_rfl
 | (show cE _ _ _ _ _=_;assumption)
 | exact rfl
 | exact zdm rfl
 | decide
 | lia)
local macro_rules | `(tactic|simp_all[$xs,*]) => `(tactic|simp[-XG, -XH, aC, aE, $xs,*])
noncomputable def top(i:Nat):Stmt:=PySem.Challenge.pw_chiefway_k13_books_refused.main.body.getD i (.Pass ⟨0,0,0,0⟩)
abbrev s_law:Stmt:=top 62
abbrev tb(x:Str)(i:Nat)(ps:List Str):=(x,i,ps)
def tab:List (Str×Nat×List Str):=[tb "_law_names" 45 ["cell", "more", "many"],tb "_law_mixed" 41 ["script", "k"],tb "_law_wheel" 43 ["cell"],tb "_law_number" 42 ["cell"],tb "_law_road" 48 ["script", "at", "many"],tb "_law_deed" 47 ["names", "makes", "at", "n"],tb "_law_pairs" 46 ["script", "at", "n", "cell"],tb "_law_make" 49 ["script", "at", "many", "deeds", "makes"],tb "_law_raw" 50 ["script", "start"],tb "_law_bent_wheel" 55 ["cell"],tb "_law_no_name" 54 ["cell"],tb "_law_bent_kinds" 56 ["script", "cell", "kinds"],tb "_law_bent_roads" 57 ["cell", "many", "roads"],tb "_law_bent_pairs" 58 ["cell", "n"],tb "_law_bent_make" 59 ["cell", "many", "name"],tb "_law_bent_makes" 60 ["cell", "many", "name", "makes"],tb "_law_bend" 61 ["script", "raw"],tb "is_whole" 17 ["thing"],tb "wheel" 18 ["thing"],tb "is_name" 31 ["text"],tb "check_kinds" 33 ["kinds"],tb "is_price" 35 ["price"],tb "on" 19 ["M", "n"],tb "roads_of" 34 ["M", "many", "roads"],tb "check_deeds" 39 ["makes"],tb "check_make" 37 ["many", "name", "takes", "gives", "price"],tb "form_of" 23 ["M", "sums"],tb "check_exponents" 22 ["n", "exponents"],tb "form" 21 ["M", "n", "terms"],tb "make_form" 38 ["M", "n", "terms"],tb "makes_of" 36 ["M", "many", "makes"],tb "book" 32 ["M", "kinds", "roads", "makes"],tb "_law_whole" 44 ["found"],tb "_law_alike" 51 ["found", "due"],tb "_law_form" 52 ["M", "pairs"],tb "_law_due" 53 ["raw"]]
noncomputable def blt:List Str:=["ValueError", "all", "any", "bool", "enumerate", "int", "isinstance", "len", "list", "max", "min", "range", "sorted", "str", "tuple"]
noncomputable def WC:List (Str×Int):=[("MOST_KINDS",6),("MOST_MAKES",16),("MOST_OF_A_DEED",6),("MOST_POWER",2),("MOST_ROADS",12)]
theorem sc_law:FnScope ["script", "raw", "bent", "bits", "kinds", "roads", "makes", "found", "marks", "other", "another", "e", "first"] ["script"] (aF s_law):=⟨rfl,rfl,rfl,by decide +kernel,rfl,by decide +kernel,by decide +kernel⟩
structure Txt(K:XF)(mg:Str->Option Value):Prop where
 d:∀p∈tab,My.DefAt K mg p.1 (top p.2.1) p.2.2
 b:∀x∈blt,mg x=none
 g:∀p∈WC,GInt mg p.1 p.2
 g_WORDS:GTup K mg "WORDS" ["let", "in", "pick", "again"]
 t_NoForm:My.TryAt K mg "NoForm" "NoForm" []
 t_NoKind:My.TryAt K mg "NoKind" "ChiefError" ["NoDeed", "NoForm", "NoHead", "NoMake", "NoName", "NoNumber", "NoReading", "NoRoad", "NoText", "NoWheel", "OutOfSteps", "TooBig", "Uneven"]
 t_NoMake:My.TryAt K mg "NoMake" "ChiefError" ["NoDeed", "NoForm", "NoHead", "NoKind", "NoName", "NoNumber", "NoReading", "NoRoad", "NoText", "NoWheel", "OutOfSteps", "TooBig", "Uneven"]
 t_NoRoad:My.TryAt K mg "NoRoad" "ChiefError" ["NoDeed", "NoForm", "NoHead", "NoKind", "NoMake", "NoName", "NoNumber", "NoReading", "NoText", "NoWheel", "OutOfSteps", "TooBig", "Uneven"]
 t_NoWheel:My.TryAt K mg "NoWheel" "ChiefError" ["NoDeed", "NoForm", "NoHead", "NoKind", "NoMake", "NoName", "NoNumber", "NoReading", "NoRoad", "NoText", "OutOfSteps", "TooBig", "Uneven"]
theorem Txt.n{K:XF}{mg:Str->Option Value}(T:Txt K mg){x:Str}(h:x∈blt:=by decide +kernel):mg x=none:=T.b x h
abbrev Tx(P:XM)(w:World)(K:XF)(mg:Str->Option Value)(base:Heap):Prop:=Txt K mg
abbrev Zt(x:Str)(ps:List Str)(k n:Nat):Type:={b:Sv // ∀ {P:XM} {w:World} {K:XF} {mg:Str->Option Value} {base:Heap},Tx P w K mg base->Fn P w K mg base x k ps (bT n b)}
def nV(N:List Str)(i:Nat){x:Str}{ps:List Str}{k:Nat}{b:Sv}(h:∀ {P:XM} {w:World} {K:XF} {mg:Str->Option Value} {base:Heap} {F:Addr} {q:Value} {A:XS} {outer:List Env} {H:Hp} {E:XK} (T:Tx P w K mg base) (s:XE) (nd:N.Nodup) (G:Room k (A.deeper (YW x (aF (top i)) s.heap.objs.size F q))) (hu:(A.deeper (YW x (aF (top i)) s.heap.objs.size F q)).units+1<cLine),∃g,PSDs (c6 AA P w K mg base N x (aF (top i)) F q A outer s H E).nox ⟨[],[]⟩ [] (bO (top i)) g []/\g=b)(m:(x,i,ps)∈tab:=by decide +kernel)(sc:FnScope N ps (aF (top i)):=by exact⟨rfl,rfl,rfl,by decide +kernel,rfl,by decide +kernel,by decide +kernel⟩):Zt x ps (k+1) N.length:=⟨b,λT=>jC (T.d _ m) sc λF q A outer s H E G=>h T s sc.nd G (cP G)⟩
abbrev Zr(x:Str)(ps:List Str)(k n m:Nat):Type:={b:(List D->Option D)->Sv // ∀ {P:XM} {w:World} {K:XF} {mg:Str->Option Value} {base:Heap},Tx P w K mg base->Fn P w K mg base x (k+m+1) ps (z0 n b m)}
def TV(N:List Str)(i:Nat){x:Str}{ps:List Str}{k m:Nat}{b:(List D->Option D)->Sv}(h:∀ {P:XM} {w:World} {K:XF} {mg:Str->Option Value} {base:Heap} {fa:Addr} {cdv:Value} {A:XS} {outer:List Env} {H:Hp} {E:XK} (T:Tx P w K mg base) (R:List D->Option D) (j:Nat) (hj:k<=j) (ih:Fn P w K mg base x j ps R) (s:XE) (nd:N.Nodup) (hr:Room j (A.deeper (YW x (aF (top i)) s.heap.objs.size fa cdv))) (hu:(A.deeper (YW x (aF (top i)) s.heap.objs.size fa cdv)).units+1<cLine),∃g,PSDs (c6 AA P w K mg base N x (aF (top i)) fa cdv A outer s H E).nox ⟨[],[]⟩ [] (bO (top i)) g []/\g=b R)(me:(x,i,ps)∈tab:=by decide +kernel)(sc:FnScope N ps (aF (top i)):=by exact⟨rfl,rfl,rfl,by decide +kernel,rfl,by decide +kernel,by decide +kernel⟩):Zr x ps k N.length m:=⟨b,λT=>by
 induction m with
 | zero=>exact K8 (T.d _ me) sc
 | succ m ih=>exact jC (T.d _ me) sc λfa cdv A outer s H E hr=>h T _ (k+m+1) (by lia) ih s sc.nd hr (cP hr)⟩
local macro_rules | `(tactic|exists $x:ident) => `(tactic|(refine' (?f:∀y:(List D -> Option D) -> Sv, Subtype.val $x = y -> (List D -> Option D) -> Sv) _ ?h;(case h => unfold $x;(try unfold TV);(try dsimp only);try exact rfl);(case f => exact λy _ => y)))
local macro_rules | `(tactic|exists $x:ident) => `(tactic|(refine' (?f:∀y:Xv, Subtype.val $x = y -> Xv) _ ?h;(case h => unfold $x;(try dsimp only);try exact rfl);(case f => exact λy _ => y)))
local macro_rules | `(tactic|exists $x:ident) => `(tactic|(refine' (?f:∀y:Sv, Subtype.val $x = y -> Sv) _ ?h;(case h => unfold $x;(try unfold nV);(try dsimp only);try exact rfl);(case f => exact λy _ => y)))
theorem VU{X:Cx}{O:List Nat}{p:Pos}(T:Txt X.K X.mg)(q:Gl X "MOST_KINDS"):PD X O (.Name "MOST_KINDS" p) (eC (.int 6)):=lY (T.g ("MOST_KINDS",6) (by decide +kernel)) q
theorem VQ{X:Cx}{O:List Nat}{p:Pos}(T:Txt X.K X.mg)(q:Gl X "MOST_MAKES"):PD X O (.Name "MOST_MAKES" p) (eC (.int 16)):=lY (T.g ("MOST_MAKES",16) (by decide +kernel)) q
theorem V7{X:Cx}{O:List Nat}{p:Pos}(T:Txt X.K X.mg)(q:Gl X "MOST_OF_A_DEED"):PD X O (.Name "MOST_OF_A_DEED" p) (eC (.int 6)):=lY (T.g ("MOST_OF_A_DEED",6) (by decide +kernel)) q
theorem VV{X:Cx}{O:List Nat}{p:Pos}(T:Txt X.K X.mg)(q:Gl X "MOST_POWER"):PD X O (.Name "MOST_POWER" p) (eC (.int 2)):=lY (T.g ("MOST_POWER",2) (by decide +kernel)) q
theorem VO{X:Cx}{O:List Nat}{p:Pos}(T:Txt X.K X.mg)(q:Gl X "MOST_ROADS"):PD X O (.Name "MOST_ROADS" p) (eC (.int 12)):=lY (T.g ("MOST_ROADS",12) (by decide +kernel)) q
theorem gt_0{X:Cx}{O:List Nat}{e:Expr}{f:Ev}{p pos:Pos}(T:Txt X.K X.mg)(F:Gl X "WORDS")(q:PB X O e f):rO X O (.Compare e [.In] [.Name "WORDS" p] pos) (bZ (uJ (MR false ["let", "in", "pick", "again"]) f)):=KQ T.g_WORDS F q
local macro_rules | `(tactic|trivial) => `(tactic|first
 | (show PB _ _ _ _;first|(apply vB <;> trivial)|(apply PD.b <;> trivial))
 | (show PD _ _ _ _;first|(apply vD <;> trivial)|(apply wE <;> trivial)|((first|apply dB|apply aS|apply W8|apply WT|apply U2|apply wt|apply SQ|apply O6|apply QO|apply VB|apply U7|apply S3|apply R6|apply RX|apply VU|apply VQ|apply V7|apply VV|apply VO|apply R5|apply QG|apply JL|apply SG|apply VT|apply WV|apply OU|apply IJ|apply HC|apply ER|apply OQ|apply MG|apply PF.d) <;> trivial))
 | (show sL _ _ _ _;((first|apply jR|apply uL) <;> trivial))
 | (show oG _ _ _ _;((first|apply JM|apply NN) <;> trivial))
 | (show Len _ _;((first|apply l0|apply lc) <;> trivial))
 | (show jK _ _ _;((first|apply bL|apply dC|apply kX|apply qV|apply SS|apply P4|apply HS|apply WU|apply W2|apply WZ) <;> trivial))
 | (show At _ _ _;first|exact at_ 0|exact at_ 1|exact at_ 2|exact at_ 3|exact at_ 4|exact at_ 5|exact at_ 6|exact at_ 7|exact at_ 8|exact at_ 9|exact at_ 10|exact at_ 11|exact at_ 12)
 | (show rO _ _ _ _;first|((first|apply gt_0|apply VI|apply tc|apply CO|apply y6|apply BV) <;> trivial)|(apply PDW.pt <;> trivial)|(apply BM <;> trivial))
 | (show PDW _ _ _ _;((first|apply J2|apply O5|apply FI|apply KU) <;> trivial))
 | (show JC _ _ _ _;((first|apply lO|apply lI) <;> trivial))
 | (show PDI _ _ _ _ _;((first|apply zA|apply pH|apply FP|apply wW) <;> trivial))
 | (show yL _ _ _ _;first|(apply gV <;> trivial)|(apply gu 2 <;> trivial)|(apply gu 5 <;> trivial))
 | (show z9 _ _ _ _;((first|apply EX|apply gc) <;> trivial))
 | (show My.EI _ _ _;((first|apply EU|apply F4) <;> trivial))
 | (show PF _ _ _ _;((first|apply wl|apply V0|apply WY) <;> trivial))
 | rfl
 | assumption
 | exact Txt.n (by assumption)
 | exact .inl rfl
 | exact .inr rfl
 | exact .inr (.inl rfl)
 | exact .inr (.inr rfl)
 | exact λ_=>rfl
 | exact λ_ _=>rfl
 | (with_unfolding_all rfl)
 | (constructor <;> rfl)
 | exact XU _
 | (refine Y0 ?_ (by assumption);decide))
seal PD PB PF sL oG rO PDW PDI JC PSD PSDs Fn jK XY YT
def iW:Zt "_law_names" ["cell", "more", "many"] 1 12:=nV ["cell", "more", "many", "letters", "size", "spot", "stride", "some", "k", "word", "p", "number"] 45 λT s F q G=>by exact⟨_,(c0 (aY 3) (c0 (aY 4) (c0 (aY 5) (c0 (aY 6) (cO [7] (cS 7) (c0 (dH [7] [] (cO [7] (aY 9) (cO [7] (dH [7] [7] (cO [7] (aY 11 (aS bL (PD.b (aS bL (PD.b (aS bH (by trivial) (PD.b (aS bL (PD.b (aS bH (by trivial) (by trivial))) (by trivial))))) (PD.b (aS bH (by trivial) (by trivial))))) (PD.b (aS bH (PD.b (aS bH (by trivial) (by trivial))) (by trivial))))) (cO [7] (bJ (aK (aY 11 (aS bL (by trivial) (PD.b (aS bH (by trivial) (by trivial))))))) (aK (aY 9))))) (cO [7] (bJ (aK (aY 9))) (aK (jE 7)))))) aZ)))))),rfl⟩
def nN:Sv:=by exists iW
def iY:=bT 12 nN
def cG:Zt "_law_mixed" ["script", "k"] 1 3:=nV ["script", "k", "number"] 41 λT s G F q=>by exact⟨_,(c0 (bJ aZ) (c0 (aY 2 (aS bL (PD.b (aS bH (PD.b (aS bH (by trivial) (by trivial))) (by trivial))) (by trivial))) (c0 (bJ (aK (aY 2 (aS bL (by trivial) (PD.b (aS bH (PD.b (aS dC (PD.b (BQ q (by trivial) (PD.b (aS dC (PD.b (aS bH (by trivial) (by trivial))) (by trivial))) (λ_ _=>rfl))) (by trivial))) (by trivial))))))) (aZ (aS dC (PD.b (aS bH (by trivial) (by trivial))) (by trivial)))))),rfl⟩
def fK:Sv:=by exists cG
def aX:=bT 3 fK
def nF:Zt "_law_wheel" ["cell"] 1 1:=nV ["cell"] 43 λT s F q G=>by exact⟨_,(c0 (bJ (aZ (aS bL (by trivial) (PD.b (aS bH (by trivial) (by trivial)))))) (aZ (aS bL (by trivial) (PD.b (aS bH (by trivial) (PD.b (aS dC (by trivial) (PD.b (aS qV (PD.b (aS bH (by trivial) (by trivial))) (by trivial)))))))))),rfl⟩
def iS:Sv:=by exists nF
def nH:=bT 1 iS
def g8:Zt "_law_number" ["cell"] 1 1:=nV ["cell"] 42 λT s F q G=>by exact⟨_,(c0 (bJ aZ) (aZ (aS qV (PD.b (aS dC (by trivial) (PD.b (aS qV (PD.b (aS bH (by trivial) (by trivial))) (by trivial))))) (by trivial)))),rfl⟩
def g6:Sv:=by exists g8
def cW:=bT 1 g6
def pV:Zt "_law_road" ["script", "at", "many"] 2 8:=nV ["script", "at", "many", "cell", "j", "k", "a", "b"] 48 λT s F q G=>by have:=fx aX (cG.2 T);have:=fx cW (g8.2 T);exact⟨_,(c0 (aY 3) (c0 (aY 4) (c0 (aY 5) (c0 (aY 6) (c0 (aY 7) aZ))))),rfl⟩
def oZ:Sv:=by exists pV
def pD:=bT 8 oZ
def pB:Zt "_law_deed" ["names", "makes", "at", "n"] 1 6:=nV ["names", "makes", "at", "n", "k", "name"] 47 λT s F q G=>by exact⟨_,(c0 (dH [] [] (c0 (aY 5) (aK (bJ aZ (u3 (G2 q.units0) (PD.b (cB IF T.n My.boot_len (NN (PD.b (PF.d (mQ s ["make", "name", "n"] [none,some 5,some 3]))) (by trivial)))) (by trivial) (vZ _)))))) aZ),rfl⟩
def pU:Sv:=by exists pB
def fA:=bT 6 pU
def nC:Zt "_law_pairs" ["script", "at", "n", "cell"] 2 8:=nV ["script", "at", "n", "cell", "pairs", "t", "number", "digit"] 46 λT s F q G=>by have:=fx aX (cG.2 T);have:=fx cW (g8.2 T);exact⟨_,(cO [4] (cS 4) (cO [4] (bJ (c0 (dH [4] [] (cO [4] (aY 6 (aS bL (by trivial) (PD.b (aS bH (by trivial) (by trivial))))) (aK (jE 4)))) aZ)) (c0 (dH [4] [] (cO [4] (aY 7) (aK (jE 4)))) aZ))),rfl⟩
def iV:Sv:=by exists nC
def iU:=bT 8 iV
def kL:Sv:=(bE (cF 5 (eL 4 (aQ eY (aI aX (aB (aA 0) (aB (aA 1) aJ))) (eC (.int 2)))))
   (bE (cF 6 (eL 4 (aQ a8 (eC (.int 1)) (aQ cJ (aQ eY (aA 5) (eC (.int 3))) (eC (.int 2))))))
   (vW 7 4 fA (aA 3) (aQ cJ (aA 5) (eC (.int 3))) (aA 6)
   (bE (cF 8 (eL 4 (wB iM (c8 (aB (aQ cJ (aQ eY (aA 5) (eC (.int 6))) (aA 2)) (aB (aQ cJ (aQ eY (aA 5) (eC (.int 36))) (aA 2)) aJ))) fP (eN (aA 6)))))
   (bE (cF 9 (eL 4 (aI aX (aB (aA 0) (aB (aQ a8 (aA 1) (eC (.int 1))) aJ)))))
   (bE (cF 10 (eL 4 (aI iU (aB (aA 0) (aB (aA 1) (aB (aA 6) (aB (aA 9) aJ)))))))
   (CA (eL 4 (c8 (aB (aA 7) (aB (aA 8) (aB (aQ cJ (aQ eY (aA 5) (eC (.int 216))) (aA 2)) (aB (aA 10) (aB (aQ cJ (aQ eY (aA 9) (eC (.int 32))) (aQ a8 (aQ iL (eC (.int 10)) (eC (.int 30))) (eC (.int 1)))) aJ))))))))))))))
def g9:List D->Option D:=MU 11 kL
theorem wU{P:XM}{w:World}{K:XF}{mg:Str->Option Value}{base:Heap}(T:Tx P w K mg base):WI P w K mg base "_law_make" 3 ["script", "at", "many", "deeds", "makes"] g9:=NX (T.d ("_law_make",49,["script", "at", "many", "deeds", "makes"]) (by decide +kernel)) (⟨rfl,rfl,rfl,by decide +kernel,rfl,by decide +kernel,by decide +kernel⟩:FnScope ["script", "at", "many", "deeds", "makes", "cell", "n", "name", "takes", "more", "pairs"] ["script", "at", "many", "deeds", "makes"] (aF (top 49))) λJ G A outer s H E F=>by
  have N:=cP F;have q:(["script", "at", "many", "deeds", "makes", "cell", "n", "name", "takes", "more", "pairs"]:List Str).Nodup:=by decide
  refine⟨_,(qM (i:=5) q rfl (YR rfl) (by decide) (aS kX (PD.b (cD (fx aX (cG.2 T)) (F.mono (by decide)) (uL (cX 0 (pv 0) (by decide)) (uL (cX 1 (pv 1) (by decide)) jR)) (lc (lc l0)))) (PD.b dB))
   (qM (i:=6) q rfl (YR rfl) (by decide) (aS bL (PD.b dB) (PD.b (aS dC (PD.b (aS kX (fE 5 (pv 5)) (PD.b dB))) (PD.b dB))))
   (JX (i:=7) (fx fA (pB.2 T)) rfl (F.mono (by decide)) rfl (cX 3 (pv 3) (by decide)) (pv 4) (aS dC (fE 5 (pv 5)) (PD.b dB)) (cX 6 (pv 6) (by decide)) q rfl (YR rfl) (by decide)
   (qM (i:=8) q rfl (YR rfl) (by decide) (xW TR (PD.b (qP (uL (aS dC (PD.b (aS kX (fE 5 (pv 5)) (PD.b dB))) (fE 2 (pv 2))) (uL (aS dC (PD.b (aS kX (fE 5 (pv 5)) (PD.b dB))) (fE 2 (pv 2))) jR)) (λρ ds h=>by have:=(lc (lc l0)) ρ ds h;lia))) lO (lI (cX 6 (pv 6) (by decide))))
   (qM (i:=9) q rfl (YR rfl) (by decide) (cD (fx aX (cG.2 T)) (F.mono (by decide)) (uL (cX 0 (pv 0) (by decide)) (uL (aS bL (fE 1 (pv 1)) (PD.b dB)) jR)) (lc (lc l0)))
   (qM (i:=10) q rfl (YR rfl) (by decide) (cD (fx iU (nC.2 T)) (F.mono (by decide)) (uL (cX 0 (pv 0) (by decide)) (uL (cX 1 (pv 1) (by decide)) (uL (cX 6 (pv 6) (by decide)) (uL (cX 9 (pv 9) (by decide)) jR)))) (lc (lc (lc (lc l0)))))
   (PY (qP (uL (cX 7 (pv 7) (by decide)) (uL (cX 8 (pv 8) (by decide)) (uL (aS dC (PD.b (aS kX (fE 5 (pv 5)) (PD.b dB))) (fE 2 (pv 2))) (uL (cX 10 (pv 10) (by decide)) (uL (aS dC (PD.b (aS kX (fE 9 (pv 9)) (PD.b dB))) (PD.b (aS bL (PD.b (aS HS (PD.b dB) (PD.b dB))) (PD.b dB)))) jR))))) (λρ ds h=>by have:=(lc (lc (lc (lc (lc l0))))) ρ ds h;lia))))))))),?_⟩
  unfold kL
  with_reducible rfl
def sX:Zt "_law_raw" ["script", "start"] 4 9:=nV ["script", "start", "many", "kinds", "deeds", "roads", "makes", "items", "at"] 50 λT s F q G=>by have:=fx aX (cG.2 T);have:=fx iY (iW.2 T);have:=fx pD (pV.2 T);have:=fx nH (nF.2 T);exact⟨_,(c0 (aY 2) (c0 (aY 3) (c0 (aY 4) (cO [5] (cS 5) (cO [5,6] (cS 6) (cO [5,6] (aY 7) (c0 (dH [5,6] [] (aK (V4 (aK (jE 5)) (aK (bJ (aK (jE 6 (FQ (z:=6) (wU T) (q.mono (by decide)) rfl (by trivial) (by trivial) (by trivial) (by trivial) (pv 6) rfl))))))) (pH rfl T.n (NN (by trivial) (NN (PD.b (aS bL (by trivial) (PD.b (aS bH (by trivial) (by trivial))))) (by trivial))))) aZ))))))),rfl⟩
def tP:Sv:=by exists sX
def mG:=bT 9 tP
def gG:Zt "_law_bent_wheel" ["cell"] 1 1:=nV ["cell"] 55 λT s F q G=>by exact⟨_,(c0 (bJ (aZ (aS bH (by trivial) (PD.b (aS dC (by trivial) (PD.b (aS bH (by trivial) (by trivial)))))))) (c0 (bJ (aZ (aS qV (by trivial) (PD.b (aS bH (by trivial) (PD.b (aS dC (by trivial) (PD.b (aS bH (by trivial) (by trivial)))))))))) aZ)),rfl⟩
def cU:Sv:=by exists gG
def dI:=bT 1 cU
def fY:Zt "_law_no_name" ["cell"] 1 1:=nV ["cell"] 54 λT s F q G=>by exact⟨_,aZ,rfl⟩
def jY:Sv:=by exists fY
def fX:=bT 1 jY
def gP:Zt "_law_bent_kinds" ["script", "cell", "kinds"] 2 5:=nV ["script", "cell", "kinds", "way", "place"] 56 λT s F q G=>by have:=fx aX (cG.2 T);have:=fx iY (iW.2 T);have:=fx fX (fY.2 T);exact⟨_,(c0 (aY 3) (c0 (aY 4) (c0 (bJ aZ) (c0 (bJ aZ) (c0 (bJ aZ) aZ))))),rfl⟩
def b9:Sv:=by exists gP
def dN:=bT 5 b9
def gJ:Zt "_law_bent_roads" ["cell", "many", "roads"] 1 7:=nV ["cell", "many", "roads", "far", "last", "bent", "place"] 57 λT s F q G=>by exact⟨_,(c0 (aY 3) (c0 (aY 4) (c0 (aY 5) (c0 (aY 5) (c0 (aY 6) (c0 (bJ (aZ (aS bL (PD.b (aS bL (by trivial) (PD.b (PF.d (qW (by trivial) (by trivial)))))) (by trivial)))) aZ)))))),rfl⟩
def dM:Sv:=by exists gJ
def dO:=bT 7 dM
def gO:Zt "_law_bent_pairs" ["cell", "n"] 1 6:=nV ["cell", "n", "far", "good", "way", "pairs"] 58 λT s G q J=>by exact⟨_,(c0 (aY 2) (cO [3] (cS 3 (wY Q4 (by trivial) lO (lI (by trivial)))) (cO [3] (aY 4) (cO [3] (bJ (aK (jE 3))) (cO [3] (bJ (PSDs.pre (O1:=[]) (aK (cS 3 (wY Q4 (by trivial) (lI (by trivial)) lO))) rfl)) (cO [3] (bJ (aK (gW 3))) (cO [3] (bJ (aK (gW 3))) (c0 (bJ (aK (gW 3))) (cO [5] (cS 5) (c0 (zC (i:=5) (pv 5) (by trivial) (qP (uL (by trivial) (uL (aS bH (by trivial) (by trivial)) (by trivial))) (λρ ds h=>(by have:=(lc (lc l0)) ρ ds h;lia))) rfl (B5 zcO PySem.F.slot_list_insert PySem.F.type_list_insert My.DK (pv 5) (bB (PD.pe (by trivial)) (bB (PD.pe (qP (uL (by trivial) (uL (aS bH (by trivial) (by trivial)) (by trivial))) (λρ ds h=>(by have:=(lc (lc l0)) ρ ds h;lia)))) dX)))) aZ)))))))))),rfl⟩
def gI:Sv:=by exists gO
def gM:=bT 6 gI
def iK:Zt "_law_bent_make" ["cell", "many", "name"] 2 8:=nV ["cell", "many", "name", "far", "way", "takes", "odd", "pairs"] 59 λT s F q G=>by have:=fx gM (gO.2 T);have:=fx fX (fY.2 T);exact⟨_,(c0 (aY 3) (c0 (aY 4) (c0 (aY 5) (c0 (aY 6) (c0 (aY 7) (c0 (bJ aZ) (c0 (bJ aZ) (c0 (bJ aZ) (c0 (bJ aZ) (c0 (bJ aZ) (c0 (bJ aZ) aZ))))))))))),rfl⟩
def nQ:Sv:=by exists iK
def iJ:=bT 8 nQ
def gH:Zt "_law_bent_makes" ["cell", "many", "name", "makes"] 3 7:=nV ["cell", "many", "name", "makes", "place", "good", "other"] 60 λT s F q G=>by have:=fx iJ (iK.2 T);exact⟨_,(c0 (aY 4) (c0 (aY 5) (c0 (bJ (aZ (aS bL (PD.b (aS bL (by trivial) (PD.b (PF.d (qW (by trivial) (by trivial)))))) (by trivial)))) (c0 (bJ (c0 (aY 6) (aZ (aS bL (PD.b (aS bL (PD.b (aS bL (PD.b (aS bL (by trivial) (PD.b (PF.d (qW (by trivial) (by trivial)))))) (PD.b (PF.d (qW (by trivial) (by trivial)))))) (by trivial))) (PD.b (PF.d (qW (by trivial) (by trivial)))))))) aZ)))),rfl⟩
def mC:Sv:=by exists gH
def dJ:=bT 7 mC
def oX:Zt "_law_bend" ["script", "raw"] 4 6:=nV ["script", "raw", "cell", "many", "bits", "bent"] 61 λT s F q G=>by have:=fx dN (gP.2 T);have:=fx dJ (gH.2 T);have:=fx dO (gJ.2 T);have:=fx dI (gG.2 T);have:=fx aX (cG.2 T);exact⟨_,(c0 (aY 2) (c0 (aY 3) (c0 (aY 4) (cO [5] (cS 5) (cO [5] (bJ (aK (gW 5))) (cO [5] (bJ (aK (gW 5))) (cO [5] (bJ (aK (gW 5))) (c0 (bJ (aK (gW 5))) aZ)))))))),rfl⟩
def oP:Sv:=by exists oX
def pK:=bT 6 oP
def kJ:Zt "is_whole" ["thing"] 1 1:=nV ["thing"] 17 λT s F q G=>by exact⟨_,aZ,rfl⟩
def oW:Sv:=by exists kJ
def kR:=bT 1 oW
theorem sc_wheel:FnScope ["thing"] ["thing"] (aF (top 18)):=⟨rfl,rfl,rfl,by decide +kernel,rfl,by decide +kernel,by decide +kernel⟩
def u7:{b:Sv // ∀ {P:XM} {w:World} {K:XF} {mg:Str->Option Value} {base:Heap},Tx P w K mg base->EL P w K mg base ["thing"] "wheel" (top 18) 1 b}:=⟨_,λT J q A outer s H E F=>by have N:=cP F;have G:=sc_wheel.nd;have:=fx kR (kJ.2 T);exact⟨_,(c0 bI (c0 bI (c0 bI aZ))),rfl⟩⟩
def AV:Sv:=by exists u7
def n4:=bT 1 AV
def BP:{g:Xv // ∀ {P:XM} {w:World} {K:XF} {mg:Str->Option Value} {base:Heap},Tx P w K mg base->JA P w K mg base ["thing"] "wheel" (top 18) 1 g}:=⟨_,λT J q A outer s H E F=>by have N:=cP F;have G:=sc_wheel.nd;have:=fx kR (kJ.2 T);exact⟨_,(a9 (O2:=[]) (dD (by trivial) (aV (bF rfl rfl T.t_NoWheel.cls)) cI) bI (a9 (O2:=[]) (dD (by trivial) (aV (bF rfl rfl T.t_NoWheel.cls)) cI) bI (aV (dD (by trivial) (aV (bF rfl rfl T.t_NoWheel.cls)) cI)))),rfl⟩⟩
def nZ:Xv:=by exists BP
def iC:=gC 1 nZ
theorem BE{P:XM}{w:World}{K:XF}{mg:Str->Option Value}{base:Heap}(T:Tx P w K mg base):Fn P w K mg base "wheel" 2 ["thing"] n4:=jC (T.d ("wheel",18,["thing"]) (by decide +kernel)) sc_wheel (u7.2 T)
theorem EV{P:XM}{w:World}{K:XF}{mg:Str->Option Value}{base:Heap}(T:Tx P w K mg base):FnX P w K mg base "wheel" 2 ["thing"] n4 iC:=gA (T.d ("wheel",18,["thing"]) (by decide +kernel)) sc_wheel (u7.2 T) (BP.2 T)
def gQ:Zt "is_name" ["text"] 1 1:=nV ["text"] 31 λT s F q G=>by exact⟨_,(c0 (bJ aZ) (aZ (cB (G0 rfl) T.n My.boot_all (NN (PD.b (PF.d (mQ s ["sign"] [none]))) (by trivial))))),rfl⟩
def t8:Sv:=by exists gQ
def cA:=bT 1 t8
theorem sc_check_kinds:FnScope ["kinds", "number", "kind"] ["kinds"] (aF (top 33)):=⟨rfl,rfl,rfl,by decide +kernel,rfl,by decide +kernel,by decide +kernel⟩
def fU:{b:Sv // ∀ {P:XM} {w:World} {K:XF} {mg:Str->Option Value} {base:Heap},Tx P w K mg base->EL P w K mg base ["kinds", "number", "kind"] "check_kinds" (top 33) 1 b}:=⟨_,λT J q A outer s H E F=>by have N:=cP F;have G:=sc_check_kinds.nd;have:=fx cA (gQ.2 T);exact⟨_,(c0 bI (aK (dH [] [] (c0 bI (aK bI))))),rfl⟩⟩
def j3:Sv:=by exists fU
def d6:=bT 3 j3
def j4:{g:Xv // ∀ {P:XM} {w:World} {K:XF} {mg:Str->Option Value} {base:Heap},Tx P w K mg base->JA P w K mg base ["kinds", "number", "kind"] "check_kinds" (top 33) 1 g}:=⟨_,λT J q A outer s H E F=>by have N:=cP F;have G:=sc_check_kinds.nd;have:=fx cA (gQ.2 T);exact⟨_,(a9 (O2:=[]) (dD (by trivial) (aV (bF rfl rfl T.t_NoKind.cls)) cI) bI (aV (i8 (O1:=[]) zaN rfl (by trivial) (by trivial) (c0 bI (aK bI)) (a9 (O2:=[]) (dD (by trivial) (aV (bF rfl rfl T.t_NoKind.cls)) cI) bI (aV (dD (by trivial) (aV (bF rfl rfl T.t_NoKind.cls)) cI))) rfl))),rfl⟩⟩
def rW:Xv:=by exists j4
def cZ:=gC 3 rW
theorem jX{P:XM}{w:World}{K:XF}{mg:Str->Option Value}{base:Heap}(T:Tx P w K mg base):Fn P w K mg base "check_kinds" 2 ["kinds"] d6:=jC (T.d ("check_kinds",33,["kinds"]) (by decide +kernel)) sc_check_kinds (fU.2 T)
theorem oK{P:XM}{w:World}{K:XF}{mg:Str->Option Value}{base:Heap}(T:Tx P w K mg base):FnX P w K mg base "check_kinds" 2 ["kinds"] d6 cZ:=gA (T.d ("check_kinds",33,["kinds"]) (by decide +kernel)) sc_check_kinds (fU.2 T) (j4.2 T)
def e9:Zt "is_price" ["price"] 1 1:=nV ["price"] 35 λT s F q G=>by exact⟨_,aZ,rfl⟩
def fD:Sv:=by exists e9
def bU:=bT 1 fD
def MP:Zt "on" ["M", "n"] 1 2:=nV ["M", "n"] 19 λT s F q G=>by exact⟨_,aZ,rfl⟩
def TU:Sv:=by exists MP
def sH:=bT 2 TU
theorem sc_roads_of:FnScope ["M", "many", "roads", "told", "j", "k", "a", "b", "price"] ["M", "many", "roads"] (aF (top 34)):=⟨rfl,rfl,rfl,by decide +kernel,rfl,by decide +kernel,by decide +kernel⟩
def kK:{b:Sv // ∀ {P:XM} {w:World} {K:XF} {mg:Str->Option Value} {base:Heap},Tx P w K mg base->EL P w K mg base ["M", "many", "roads", "told", "j", "k", "a", "b", "price"] "roads_of" (top 34) 1 b}:=⟨_,λT J q A outer s H E F=>by have N:=cP F;have G:=sc_roads_of.nd;have:=fx bU (e9.2 T);have:=fx sH (MP.2 T);exact⟨_,(c0 bI (cO [3] (cS 3) (c0 (dH [3] [] (cO [3] bI (cO [3] bI (aK (jE 3))))) aZ))),rfl⟩⟩
def oV:Sv:=by exists kK
def kM:=bT 9 oV
def pJ:{g:Xv // ∀ {P:XM} {w:World} {K:XF} {mg:Str->Option Value} {base:Heap},Tx P w K mg base->JA P w K mg base ["M", "many", "roads", "told", "j", "k", "a", "b", "price"] "roads_of" (top 34) 1 g}:=⟨_,λT J q A outer s H E F=>by have N:=cP F;have G:=sc_roads_of.nd;have:=fx bU (e9.2 T);have:=fx sH (MP.2 T);exact⟨_,(a9 (O2:=[]) (dD (by trivial) (aV (bF rfl rfl T.t_NoRoad.cls)) cI) bI (a9 (O2:=[3]) uE (cS 3) (aV (i8 (O1:=[3]) zaN rfl (by trivial) (by trivial) (cO [3] bI (cO [3] bI (aK (jE 3)))) (a9 (O2:=[3]) (dD (by trivial) (aV (bF rfl rfl T.t_NoRoad.cls)) cI) bI (aV (dD (by trivial) (aV (bF rfl rfl T.t_NoRoad.cls)) cI))) rfl)))),rfl⟩⟩
def zF:Xv:=by exists pJ
def hU:=gC 9 zF
theorem pW{P:XM}{w:World}{K:XF}{mg:Str->Option Value}{base:Heap}(T:Tx P w K mg base):Fn P w K mg base "roads_of" 2 ["M", "many", "roads"] kM:=jC (T.d ("roads_of",34,["M", "many", "roads"]) (by decide +kernel)) sc_roads_of (kK.2 T)
theorem wH{P:XM}{w:World}{K:XF}{mg:Str->Option Value}{base:Heap}(T:Tx P w K mg base):FnX P w K mg base "roads_of" 2 ["M", "many", "roads"] kM hU:=gA (T.d ("roads_of",34,["M", "many", "roads"]) (by decide +kernel)) sc_roads_of (kK.2 T) (pJ.2 T)
theorem sc_check_deeds:FnScope ["makes", "counted", "name", "takes", "gives", "terms", "price", "deed"] ["makes"] (aF (top 39)):=⟨rfl,rfl,rfl,by decide +kernel,rfl,by decide +kernel,by decide +kernel⟩
def fW:{b:Sv // ∀ {P:XM} {w:World} {K:XF} {mg:Str->Option Value} {base:Heap},Tx P w K mg base->EL P w K mg base ["makes", "counted", "name", "takes", "gives", "terms", "price", "deed"] "check_deeds" (top 39) 0 b}:=⟨_,λT J q A outer s H E F=>by have N:=cP F;have G:=sc_check_deeds.nd;exact⟨_,(cO [1] (cS 1 i6) (aK (dH [1] [] (cO [1] (aY 7) (cO [1] (gW 1) (aK bI)))))),rfl⟩⟩
def j9:Sv:=by exists fW
def fV:=bT 8 j9
def jZ:{g:Xv // ∀ {P:XM} {w:World} {K:XF} {mg:Str->Option Value} {base:Heap},Tx P w K mg base->JA P w K mg base ["makes", "counted", "name", "takes", "gives", "terms", "price", "deed"] "check_deeds" (top 39) 0 g}:=⟨_,λT J q A outer s H E F=>by have N:=cP F;have G:=sc_check_deeds.nd;exact⟨_,(a9 (O2:=[1]) uE (cS 1 i6) (aV (i8 (O1:=[1]) zaN rfl (by trivial) (by trivial) (cO [1] (aY 7) (cO [1] (gW 1) (aK bI))) (a9 (O2:=[1]) uE (aY 7) (a9 (O2:=[1]) uE (gW 1) (aV (dD (by trivial) (aV (bF rfl rfl T.t_NoMake.cls)) cI)))) rfl))),rfl⟩⟩
def j7:Xv:=by exists jZ
def cK:=gC 8 j7
theorem sD{P:XM}{w:World}{K:XF}{mg:Str->Option Value}{base:Heap}(T:Tx P w K mg base):Fn P w K mg base "check_deeds" 1 ["makes"] fV:=jC (T.d ("check_deeds",39,["makes"]) (by decide +kernel)) sc_check_deeds (fW.2 T)
theorem oM{P:XM}{w:World}{K:XF}{mg:Str->Option Value}{base:Heap}(T:Tx P w K mg base):FnX P w K mg base "check_deeds" 1 ["makes"] fV cK:=gA (T.d ("check_deeds",39,["makes"]) (by decide +kernel)) sc_check_deeds (fW.2 T) (jZ.2 T)
theorem sc_check_make:FnScope ["many", "name", "takes", "gives", "price", "kind"] ["many", "name", "takes", "gives", "price"] (aF (top 37)):=⟨rfl,rfl,rfl,by decide +kernel,rfl,by decide +kernel,by decide +kernel⟩
def g7:{b:Sv // ∀ {P:XM} {w:World} {K:XF} {mg:Str->Option Value} {base:Heap},Tx P w K mg base->EL P w K mg base ["many", "name", "takes", "gives", "price", "kind"] "check_make" (top 37) 1 b}:=⟨_,λT J q A outer s H E F=>by have N:=cP F;have G:=sc_check_make.nd;have:=fx cA (gQ.2 T);have:=fx bU (e9.2 T);exact⟨_,(c0 bI (c0 bI (c0 (dH [] [] (aK bI)) (aK bI)))),rfl⟩⟩
def lA:Sv:=by exists g7
def cV:=bT 6 lA
def lC:{g:Xv // ∀ {P:XM} {w:World} {K:XF} {mg:Str->Option Value} {base:Heap},Tx P w K mg base->JA P w K mg base ["many", "name", "takes", "gives", "price", "kind"] "check_make" (top 37) 1 g}:=⟨_,λT J q A outer s H E F=>by have N:=cP F;have G:=sc_check_make.nd;have:=fx cA (gQ.2 T);have:=fx bU (e9.2 T);exact⟨_,(a9 (O2:=[]) (dD (by trivial) (aV (bF rfl rfl T.t_NoMake.cls)) cI) bI (a9 (O2:=[]) (dD (by trivial) (aV (bF rfl rfl T.t_NoMake.cls)) cI) bI (a9 (O2:=[]) (i8 (O1:=[]) zaN rfl (by trivial) (by trivial) (aK bI) (aV (dD (by trivial) (aV (bF rfl rfl T.t_NoMake.cls)) cI)) rfl) (dH [] [] (aK bI)) (aV (dD (by trivial) (aV (bF rfl rfl T.t_NoMake.cls)) cI))))),rfl⟩⟩
def uN:Xv:=by exists lC
def dA:=gC 6 uN
theorem lE{P:XM}{w:World}{K:XF}{mg:Str->Option Value}{base:Heap}(T:Tx P w K mg base):Fn P w K mg base "check_make" 2 ["many", "name", "takes", "gives", "price"] cV:=jC (T.d ("check_make",37,["many", "name", "takes", "gives", "price"]) (by decide +kernel)) sc_check_make (g7.2 T)
theorem sG{P:XM}{w:World}{K:XF}{mg:Str->Option Value}{base:Heap}(T:Tx P w K mg base):FnX P w K mg base "check_make" 2 ["many", "name", "takes", "gives", "price"] cV dA:=gA (T.d ("check_make",37,["many", "name", "takes", "gives", "price"]) (by decide +kernel)) sc_check_make (g7.2 T) (lC.2 T)
def tJ:Zt "form_of" ["M", "sums"] 2 2:=nV ["M", "sums"] 23 λT s F q G=>by have:=fx sH (MP.2 T);exact⟨_,(aZ (UM lN T.n My.boot_tuple (NN (PD.b (PF.d (mQ s ["exponents", "c", "M"] [none,none,some 0]))) (by trivial)))),rfl⟩
def t7:Sv:=by exists tJ
def uA:=bT 2 t7
theorem sc_check_exponents:FnScope ["n", "exponents", "exponent"] ["n", "exponents"] (aF (top 22)):=⟨rfl,rfl,rfl,by decide +kernel,rfl,by decide +kernel,by decide +kernel⟩
def c9:{b:Sv // ∀ {P:XM} {w:World} {K:XF} {mg:Str->Option Value} {base:Heap},Tx P w K mg base->EL P w K mg base ["n", "exponents", "exponent"] "check_exponents" (top 22) 0 b}:=⟨_,λT J q A outer s H E F=>by have N:=cP F;have G:=sc_check_exponents.nd;exact⟨_,(c0 bI (aK (dH [] [] (aK bI)))),rfl⟩⟩
def fI:Sv:=by exists c9
def b4:=bT 3 fI
def fJ:{g:Xv // ∀ {P:XM} {w:World} {K:XF} {mg:Str->Option Value} {base:Heap},Tx P w K mg base->JA P w K mg base ["n", "exponents", "exponent"] "check_exponents" (top 22) 0 g}:=⟨_,λT J q A outer s H E F=>by have N:=cP F;have G:=sc_check_exponents.nd;exact⟨_,(a9 (O2:=[]) (dD (by trivial) (aV (bF rfl rfl T.t_NoForm.cls)) cI) bI (aV (i8 (O1:=[]) zaN rfl (by trivial) (by trivial) (aK bI) (aV (dD (by trivial) (aV (bF rfl rfl T.t_NoForm.cls)) cI)) rfl))),rfl⟩⟩
def k9:Xv:=by exists fJ
def bP:=gC 3 k9
theorem fH{P:XM}{w:World}{K:XF}{mg:Str->Option Value}{base:Heap}(T:Tx P w K mg base):Fn P w K mg base "check_exponents" 1 ["n", "exponents"] b4:=jC (T.d ("check_exponents",22,["n", "exponents"]) (by decide +kernel)) sc_check_exponents (c9.2 T)
theorem kG{P:XM}{w:World}{K:XF}{mg:Str->Option Value}{base:Heap}(T:Tx P w K mg base):FnX P w K mg base "check_exponents" 1 ["n", "exponents"] b4 bP:=gA (T.d ("check_exponents",22,["n", "exponents"]) (by decide +kernel)) sc_check_exponents (c9.2 T) (fJ.2 T)
theorem sc_form:FnScope ["M", "n", "terms", "sums", "exponents", "c"] ["M", "n", "terms"] (aF (top 21)):=⟨rfl,rfl,rfl,by decide +kernel,rfl,by decide +kernel,by decide +kernel⟩
def zW:{b:Sv // ∀ {P:XM} {w:World} {K:XF} {mg:Str->Option Value} {base:Heap},Tx P w K mg base->EL P w K mg base ["M", "n", "terms", "sums", "exponents", "c"] "form" (top 21) 2 b}:=⟨_,λT J q A outer s H E F=>by have N:=cP F;have G:=sc_form.nd;have:=fH T;have:=fx uA (tJ.2 T);exact⟨_,(c0 bI (cO [3] (cS 3 i6) (c0 (dH [3] [] (cO [3] fF (aK (gW 3)))) aZ))),rfl⟩⟩
def ID:Sv:=by exists zW
def zO:=bT 6 ID
def HB:{g:Xv // ∀ {P:XM} {w:World} {K:XF} {mg:Str->Option Value} {base:Heap},Tx P w K mg base->JA P w K mg base ["M", "n", "terms", "sums", "exponents", "c"] "form" (top 21) 2 g}:=⟨_,λT J F A outer s H E q=>by have N:=cP q;have G:=sc_form.nd;have:=fH T;exact⟨_,(a9 (O2:=[]) (dD (by trivial) (aV (bF rfl rfl T.t_NoForm.cls)) cI) bI (a9 (O2:=[3]) uE (cS 3 i6) (aV (i8 (O1:=[3]) zaN rfl (by trivial) (by trivial) (cO [3] fF (aK (gW 3))) (aV (lU (kG T) (q.mono (by decide)) rfl (by trivial) (λρ ds h=>((lc (lc l0)) ρ ds h)))) rfl)))),rfl⟩⟩
def x_form:Xv:=by exists HB
def vS:=gC 6 x_form
theorem HY{P:XM}{w:World}{K:XF}{mg:Str->Option Value}{base:Heap}(T:Tx P w K mg base):Fn P w K mg base "form" 3 ["M", "n", "terms"] zO:=jC (T.d ("form",21,["M", "n", "terms"]) (by decide +kernel)) sc_form (zW.2 T)
theorem LQ{P:XM}{w:World}{K:XF}{mg:Str->Option Value}{base:Heap}(T:Tx P w K mg base):FnX P w K mg base "form" 3 ["M", "n", "terms"] zO vS:=gA (T.d ("form",21,["M", "n", "terms"]) (by decide +kernel)) sc_form (zW.2 T) (HB.2 T)
theorem sc_make_form:FnScope ["M", "n", "terms", "told", "e", "exponents", "c"] ["M", "n", "terms"] (aF (top 38)):=⟨rfl,rfl,rfl,by decide +kernel,rfl,by decide +kernel,by decide +kernel⟩
def iR:{b:Sv // ∀ {P:XM} {w:World} {K:XF} {mg:Str->Option Value} {base:Heap},Tx P w K mg base->EL P w K mg base ["M", "n", "terms", "told", "e", "exponents", "c"] "make_form" (top 38) 3 b}:=⟨_,λT J q A outer s H E F=>by have N:=cP F;have G:=sc_make_form.nd;have:=HY T;exact⟨_,(c0 (BY (λ_ _ z=>z) (aK (aY 3))) (c0 (dH [] [] (aK bI)) aZ)),rfl⟩⟩
def mX:Sv:=by exists iR
def d8:=bT 7 mX
def m9:{g:Xv // ∀ {P:XM} {w:World} {K:XF} {mg:Str->Option Value} {base:Heap},Tx P w K mg base->JA P w K mg base ["M", "n", "terms", "told", "e", "exponents", "c"] "make_form" (top 38) 3 g}:=⟨_,λT J F A outer s H E q=>by have N:=cP q;have G:=sc_make_form.nd;have:=HY T;exact⟨_,(a9 (O2:=[]) (LI (ie:=4) rfl rfl rfl (LQ T) (q.mono (by decide)) rfl (by trivial) (λρ ds h=>((lc (lc (lc l0))) ρ ds h)) T.t_NoForm rfl rfl rfl T.t_NoMake.cls rfl G rfl rfl) (BY (λ_ _ z=>z) (aK (aY 3))) (aV (i8 (O1:=[]) zaN rfl (by trivial) (by trivial) (aK bI) (aV (dD (by trivial) (aV (bF rfl rfl T.t_NoMake.cls)) cI)) rfl))),rfl⟩⟩
def wQ:Xv:=by exists m9
def eA:=gC 7 wQ
theorem nE{P:XM}{w:World}{K:XF}{mg:Str->Option Value}{base:Heap}(T:Tx P w K mg base):Fn P w K mg base "make_form" 4 ["M", "n", "terms"] d8:=jC (T.d ("make_form",38,["M", "n", "terms"]) (by decide +kernel)) sc_make_form (iR.2 T)
theorem uV{P:XM}{w:World}{K:XF}{mg:Str->Option Value}{base:Heap}(T:Tx P w K mg base):FnX P w K mg base "make_form" 4 ["M", "n", "terms"] d8 eA:=gA (T.d ("make_form",38,["M", "n", "terms"]) (by decide +kernel)) sc_make_form (iR.2 T) (m9.2 T)
theorem sc_makes_of:FnScope ["M", "many", "makes", "told", "name", "takes", "gives", "terms", "price"] ["M", "many", "makes"] (aF (top 36)):=⟨rfl,rfl,rfl,by decide +kernel,rfl,by decide +kernel,by decide +kernel⟩
def kW:{b:Sv // ∀ {P:XM} {w:World} {K:XF} {mg:Str->Option Value} {base:Heap},Tx P w K mg base->EL P w K mg base ["M", "many", "makes", "told", "name", "takes", "gives", "terms", "price"] "makes_of" (top 36) 4 b}:=⟨_,λT J q A outer s H E F=>by have N:=cP F;have G:=sc_makes_of.nd;have:=sD T;have:=lE T;have:=nE T;exact⟨_,(c0 bI (cO [3] (cS 3) (c0 (dH [3] [] (cO [3] fF (aK (jE 3)))) (c0 fF aZ)))),rfl⟩⟩
def pN:Sv:=by exists kW
def kN:=bT 9 pN
def pG:{g:Xv // ∀ {P:XM} {w:World} {K:XF} {mg:Str->Option Value} {base:Heap},Tx P w K mg base->JA P w K mg base ["M", "many", "makes", "told", "name", "takes", "gives", "terms", "price"] "makes_of" (top 36) 4 g}:=⟨_,λT J F A outer s H E q=>by have N:=cP q;have G:=sc_makes_of.nd;have:=lE T;have:=nE T;exact⟨_,(a9 (O2:=[]) (dD (by trivial) (aV (bF rfl rfl T.t_NoMake.cls)) cI) bI (a9 (O2:=[3]) uE (cS 3) (a9 (O2:=[]) (i8 (O1:=[3]) zaN rfl (by trivial) (by trivial) (cO [3] fF (aK (jE 3))) (a9 (O2:=[3]) (lU (sG T) (q.mono (by decide)) rfl (by trivial) (λρ ds h=>((lc (lc (lc (lc (lc l0))))) ρ ds h))) fF (aV (QL 3 (A4 (eD (by trivial) qY (eD (by trivial) qY (eD (by trivial) qY (eD (by trivial) (qB (uV T) (q.mono (by decide)) rfl (by trivial) (λρ ds h=>((lc (lc (lc l0))) ρ ds h))) G6)))))))) rfl) (dH [3] [] (cO [3] fF (aK (jE 3)))) (aV (lU (oM T) (q.mono (by decide)) rfl (by trivial) (λρ ds h=>((lc l0) ρ ds h))))))),rfl⟩⟩
def pR:Xv:=by exists pG
def dR:=gC 9 pR
theorem oY{P:XM}{w:World}{K:XF}{mg:Str->Option Value}{base:Heap}(T:Tx P w K mg base):Fn P w K mg base "makes_of" 5 ["M", "many", "makes"] kN:=jC (T.d ("makes_of",36,["M", "many", "makes"]) (by decide +kernel)) sc_makes_of (kW.2 T)
theorem wO{P:XM}{w:World}{K:XF}{mg:Str->Option Value}{base:Heap}(T:Tx P w K mg base):FnX P w K mg base "makes_of" 5 ["M", "many", "makes"] kN dR:=gA (T.d ("makes_of",36,["M", "many", "makes"]) (by decide +kernel)) sc_makes_of (kW.2 T) (pG.2 T)
theorem sc_book:FnScope ["M", "kinds", "roads", "makes"] ["M", "kinds", "roads", "makes"] (aF (top 32)):=⟨rfl,rfl,rfl,by decide +kernel,rfl,by decide +kernel,by decide +kernel⟩
def G3:{b:Sv // ∀ {P:XM} {w:World} {K:XF} {mg:Str->Option Value} {base:Heap},Tx P w K mg base->EL P w K mg base ["M", "kinds", "roads", "makes"] "book" (top 32) 5 b}:=⟨_,λT J q A outer s H E F=>by have N:=cP F;have G:=sc_book.nd;have:=jX T;have:=oY T;have:=pW T;have:=BE T;exact⟨_,(c0 fF (c0 fF aZ)),rfl⟩⟩
def IK:Sv:=by exists G3
def mM:=bT 4 IK
def GX:{g:Xv // ∀ {P:XM} {w:World} {K:XF} {mg:Str->Option Value} {base:Heap},Tx P w K mg base->JA P w K mg base ["M", "kinds", "roads", "makes"] "book" (top 32) 5 g}:=⟨_,λT J F A outer s H E q=>by have N:=cP q;have G:=sc_book.nd;have:=jX T;have:=oY T;have:=pW T;have:=BE T;exact⟨_,(a9 (O2:=[]) (lU (EV T) (q.mono (by decide)) rfl (by trivial) (λρ ds h=>((lc l0) ρ ds h))) fF (a9 (O2:=[]) (lU (oK T) (q.mono (by decide)) rfl (by trivial) (λρ ds h=>((lc l0) ρ ds h))) fF (aV (QN (A4 (eD (by trivial) qY (eD (by trivial) qY (eD (by trivial) (qB (wH T) (q.mono (by decide)) rfl (by trivial) (λρ ds h=>((lc (lc (lc l0))) ρ ds h))) (eD (by trivial) (qB (wO T) (q.mono (by decide)) rfl (by trivial) (λρ ds h=>((lc (lc (lc l0))) ρ ds h))) G6))))))))),rfl⟩⟩
def qS:Xv:=by exists GX
def c5:=gC 4 qS
theorem JG{P:XM}{w:World}{K:XF}{mg:Str->Option Value}{base:Heap}(T:Tx P w K mg base):FnX P w K mg base "book" 6 ["M", "kinds", "roads", "makes"] mM c5:=gA (T.d ("book",32,["M", "kinds", "roads", "makes"]) (by decide +kernel)) sc_book (G3.2 T) (GX.2 T)
def mY:Zt "_law_whole" ["found"] 1 1:=nV ["found"] 44 λT s F q G=>by exact⟨_,aZ,rfl⟩
def nM:Sv:=by exists mY
def nJ:=bT 1 nM
def nK:Zr "_law_alike" ["found", "due"] 1 3 10:=TV ["found", "due", "k"] 51 λT R j J ih s F q G=>by have:=fx nJ (mY.2 T);exact⟨_,(c0 (bJ (c0 (bJ aZ) (c0 (dH [] [] (aK (bJ aZ))) aZ))) (c0 (bJ aZ) aZ)),rfl⟩
def bK:(List D->Option D)->Sv:=by exists nK
def iT:=z0 3 bK 10
def pF:Zt "_law_form" ["M", "pairs"] 1 5:=nV ["M", "pairs", "sums", "exponents", "c"] 52 λT s F q G=>by exact⟨_,(cO [2] (cS 2 i6) (c0 (dH [2] [] (aK (gW 2))) (aZ (UM lN T.n My.boot_tuple (NN (PD.b (PF.d (mQ s ["exponents", "sums"] [none,some 2] (wW (PF.d (fB (yN rfl) T.n My.boot_sorted (by trivial))))))) (by trivial)))))),rfl⟩
def oS:Sv:=by exists pF
def kU:=bT 5 oS
def t9:Zt "_law_due" ["raw"] 2 4:=nV ["raw", "M", "roads", "makes"] 53 λT s F q G=>by have:=fx kU (pF.2 T);exact⟨_,(c0 (aY 1) (c0 (aY 2 (UM lN T.n My.boot_tuple (NN (PD.b (PF.d (mQ s ["j", "k", "a", "b", "cost", "M"] [none,none,none,none,none,some 1]))) (by trivial)))) (c0 (NV 3 s ["name", "takes", "gives", "pairs", "cost", "M"] [none,none,none,none,none,some 1]) aZ))),rfl⟩
def t5:Sv:=by exists t9
def mH:=bT 4 t5
def NF:{b:Sv // ∀ {P:XM} {w:World} {K:XF} {mg:Str->Option Value} {base:Heap},Tx P w K mg base->EL P w K mg base ["script", "raw", "bent", "bits", "kinds", "roads", "makes", "found", "marks", "other", "another", "e", "first"] "law" s_law 12 b}:=⟨_,λT Y U A outer s H E N=>by have hu:=cP N;have W:=sc_law.nd;have:=fx iT (nK.2 T);have:=fx pK (oX.2 T);have:=fx mH (t9.2 T);have:=fx mG (sX.2 T);exact⟨_,(c0 (aY 1) (c0 (JU (by trivial) (MC (My.N5 (n:=2) rfl (by trivial)))) (c0 (aY 4) (c0 (aY 5) (c0 (aY 6) (c0 (aY 7) (c0 (aY 8) (c0 (aY 9) (c0 (aY 10) (c0 (FZ (jv:=7) (ie:=11) (tl:=[("NoKind",[(8,.lst [.bl false,.bl true,.bl false,.bl false]),(9,.bl false),(10,.bl false)]),("NoMake",[(8,.lst [.bl false,.bl false,.bl false,.bl true]),(9,.bl false),(10,.bl false)]),("NoRoad",[(8,.lst [.bl false,.bl false,.bl true,.bl false]),(9,.bl false),(10,.bl false)]),("NoWheel",[(8,.lst [.bl true,.bl false,.bl false,.bl false]),(9,.bl false),(10,.bl false)])]) (λ_ _ z=>z) rfl rfl rfl (JG T) (N.mono (by decide)) rfl (by trivial) (λρ ds h=>((lc (lc (lc (lc l0)))) ρ ds h)) (List.forall_mem_cons.mpr ⟨⟨_,T.t_NoKind,λC0 ea oe J h0 k sv q=>My.oF "e" (λG=>(My.eK sc_law.nd rfl rfl (by decide) (My.vU (bs:=[false,true,false,false]) (My.b8 (G.oth rfl (q "NoWheel" (by decide))) (My.b8 (G.self rfl h0) (My.b8 (G.oth rfl (q "NoRoad" (by decide))) (My.b8 (G.oth rfl (q "NoMake" (by decide))) My.vY)))) (by decide)) (My.eK sc_law.nd rfl rfl (by decide) (My.nP (G.tup (My.aU rfl (q "NoDeed" (by decide)) (My.aU rfl (q "NoForm" (by decide)) (My.aU rfl (q "NoHead" (by decide)) (My.aU rfl (q "NoName" (by decide)) (My.aU rfl (q "NoNumber" (by decide)) (My.aU rfl (q "NoReading" (by decide)) (My.aU rfl (q "NoText" (by decide)) My.i9))))))) (by decide))) (My.eK sc_law.nd rfl rfl (by decide) (My.nP (My.oC (G.tup (My.aU rfl (q "OutOfSteps" (by decide)) (My.aU rfl (q "TooBig" (by decide)) (My.aU rfl (q "Uneven" (by decide)) My.i9))) (by decide)) (G.val rfl T.n sv))) My.HR.nil)))) ⟨J,k,rfl,YR rfl,rfl,T.n,rfl,rfl⟩⟩,List.forall_mem_cons.mpr ⟨⟨_,T.t_NoMake,λC0 ea oe J h0 k sv q=>My.oF "e" (λG=>(My.eK sc_law.nd rfl rfl (by decide) (My.vU (bs:=[false,false,false,true]) (My.b8 (G.oth rfl (q "NoWheel" (by decide))) (My.b8 (G.oth rfl (q "NoKind" (by decide))) (My.b8 (G.oth rfl (q "NoRoad" (by decide))) (My.b8 (G.self rfl h0) My.vY)))) (by decide)) (My.eK sc_law.nd rfl rfl (by decide) (My.nP (G.tup (My.aU rfl (q "NoDeed" (by decide)) (My.aU rfl (q "NoForm" (by decide)) (My.aU rfl (q "NoHead" (by decide)) (My.aU rfl (q "NoName" (by decide)) (My.aU rfl (q "NoNumber" (by decide)) (My.aU rfl (q "NoReading" (by decide)) (My.aU rfl (q "NoText" (by decide)) My.i9))))))) (by decide))) (My.eK sc_law.nd rfl rfl (by decide) (My.nP (My.oC (G.tup (My.aU rfl (q "OutOfSteps" (by decide)) (My.aU rfl (q "TooBig" (by decide)) (My.aU rfl (q "Uneven" (by decide)) My.i9))) (by decide)) (G.val rfl T.n sv))) My.HR.nil)))) ⟨J,k,rfl,YR rfl,rfl,T.n,rfl,rfl⟩⟩,List.forall_mem_cons.mpr ⟨⟨_,T.t_NoRoad,λC0 ea oe J h0 k sv q=>My.oF "e" (λG=>(My.eK sc_law.nd rfl rfl (by decide) (My.vU (bs:=[false,false,true,false]) (My.b8 (G.oth rfl (q "NoWheel" (by decide))) (My.b8 (G.oth rfl (q "NoKind" (by decide))) (My.b8 (G.self rfl h0) (My.b8 (G.oth rfl (q "NoMake" (by decide))) My.vY)))) (by decide)) (My.eK sc_law.nd rfl rfl (by decide) (My.nP (G.tup (My.aU rfl (q "NoDeed" (by decide)) (My.aU rfl (q "NoForm" (by decide)) (My.aU rfl (q "NoHead" (by decide)) (My.aU rfl (q "NoName" (by decide)) (My.aU rfl (q "NoNumber" (by decide)) (My.aU rfl (q "NoReading" (by decide)) (My.aU rfl (q "NoText" (by decide)) My.i9))))))) (by decide))) (My.eK sc_law.nd rfl rfl (by decide) (My.nP (My.oC (G.tup (My.aU rfl (q "OutOfSteps" (by decide)) (My.aU rfl (q "TooBig" (by decide)) (My.aU rfl (q "Uneven" (by decide)) My.i9))) (by decide)) (G.val rfl T.n sv))) My.HR.nil)))) ⟨J,k,rfl,YR rfl,rfl,T.n,rfl,rfl⟩⟩,List.forall_mem_cons.mpr ⟨⟨_,T.t_NoWheel,λC0 ea oe J h0 k sv q=>My.oF "e" (λG=>(My.eK sc_law.nd rfl rfl (by decide) (My.vU (bs:=[true,false,false,false]) (My.b8 (G.self rfl h0) (My.b8 (G.oth rfl (q "NoKind" (by decide))) (My.b8 (G.oth rfl (q "NoRoad" (by decide))) (My.b8 (G.oth rfl (q "NoMake" (by decide))) My.vY)))) (by decide)) (My.eK sc_law.nd rfl rfl (by decide) (My.nP (G.tup (My.aU rfl (q "NoDeed" (by decide)) (My.aU rfl (q "NoForm" (by decide)) (My.aU rfl (q "NoHead" (by decide)) (My.aU rfl (q "NoName" (by decide)) (My.aU rfl (q "NoNumber" (by decide)) (My.aU rfl (q "NoReading" (by decide)) (My.aU rfl (q "NoText" (by decide)) My.i9))))))) (by decide))) (My.eK sc_law.nd rfl rfl (by decide) (My.nP (My.oC (G.tup (My.aU rfl (q "OutOfSteps" (by decide)) (My.aU rfl (q "TooBig" (by decide)) (My.aU rfl (q "Uneven" (by decide)) My.i9))) (by decide)) (G.val rfl T.n sv))) My.HR.nil)))) ⟨J,k,rfl,YR rfl,rfl,T.n,rfl,rfl⟩⟩,λ_ z=>nomatch z⟩⟩⟩⟩) rfl W rfl rfl (by decide) rfl rfl (by decide) (by decide)) (c0 (bJ aZ) (c0 (bJ (aZ (IJ (HC (cB (HH rfl) T.n My.boot_any (by trivial))) (by trivial))) (BV (BM (cB (HH rfl) T.n My.boot_any (by trivial))))) (c0 (aY 12 (CY N.units (by trivial) (by trivial) (λm h k=>(B5 zcO PySem.F.slot_list_index PySem.F.type_list_index m h k)))) (aZ (zQ (QD N.units) (by trivial) (PD.b (PF.d (mQ s ["k", "first"] [none,some 12]))) (vZ _)))))))))))))))),rfl⟩⟩
def B7:Sv:=by exists NF
theorem A9(ns:List Int):∃f:Int->Int,∀k:Int,0<=k->k<=1000->aX [.lst (ns.map .int),.int k]=some (.int (f k)):=by
 have h:∀k:Int,∃c:Int,0<=k->k<=1000->aX [.lst (ns.map .int),.int k]=some (.int c):=λk=>by
  by_cases h0:0<=k
  ·by_cases h1:k<=1000
   ·by_cases F:k<(ns.length:Int)
    ·obtain⟨c,N,_⟩:=xY h0 F
     exact⟨c,λ_ _=>aM (by simp_all[fK,aD,F,N])⟩
    ·have Y:bD (.int 91) (.int k)=some (.int (91*k)):=jV (by decide) (by decide)
     have U:bD (.int (91*k)) (.int k)=some (.int (91*k*k)):=D7 (by lia) (by lia);have m5:bD (.int k) (.int 5)=some (.int (k*5)):=jV (by lia) (by lia);have kk:91*k*k<=91000*1000:=Int.mul_le_mul (by lia) h1 h0 (by decide);have k0:0<=91*k*k:=Int.mul_nonneg (by lia) h0;generalize 91*k*k=y at U kk k0;by_cases G:(0:Int)<(ns.length:Int)
     ·have q:0<ns.length:=by lia
      obtain⟨c,N,_⟩:=xY (ns:=ns) (k:=k*5%(ns.length:Int)) (X2 _ (Int.ne_of_gt G)) (X6 _ G);have c0:=X2 c (show(999999937:Int)≠0 by decide);have c1:=X6 c (show(0:Int)<999999937 by decide);have W:bD (.int (c%999999937)) (.int (k+3))=some (.int (c%999999937*(k+3))):=D7 (by lia) (by lia);have cm:c%999999937*(k+3)<=999999937*1003:=Int.mul_le_mul (by lia) (by lia) (by lia) (by decide);have cn:0<=c%999999937*(k+3):=Int.mul_nonneg c0 (by lia);generalize c%999999937*(k+3)=z at W cm cn;have J:bD (.int (y+17+z)) (.int (y+17+z))=some (.int ((y+17+z)*(y+17+z))):=jV (by lia) (by lia);exact⟨_,λ_ _=>aM (by simp_all[fK,aD,F,Y,U,m5,q,aO G,N,aO,W,J];rfl)⟩
     ·have q:¬ 0<ns.length:=by lia
      have J:bD (.int (y+17)) (.int (y+17))=some (.int ((y+17)*(y+17))):=jV (by lia) (by lia);exact⟨_,λ_ _=>aM (by simp_all[fK,aD,F,Y,U,q,aO,J];rfl)⟩
   ·exact⟨0,λ_ z=>absurd z h1⟩
  ·exact⟨0,λz=>absurd z h0⟩
 exact⟨λk=>(h k).choose,λk=>(h k).choose_spec⟩
abbrev Fx(ns:List Int)(f:Int->Int):Prop:=∀k:Int,0<=k->k<=1000->aX [.lst (ns.map .int),.int k]=some (.int (f k))
theorem GB{c:Int}:∃M,nH [.int c]=some (.int M)/\3<=M/\M<10^60/\M%2=1:=by
 have pw:iL (.int 10) (.int 59)=some (.int (10^59)):=fR (by decide) (by decide) (by decide +kernel);have G:bD (.int 5) (.int (10^59))=some (.int (5*10^59)):=jV (by decide) (by decide);have N:=X2 (c/4) (show(4:Int)≠0 by decide);have U:=X6 (c/4) (show(0:Int)<4 by decide);have b1:=X2 (c/4) (show(5*10^59-1:Int)≠0 by decide +kernel);have b2:=X6 (c/4) (show(0:Int)<5*10^59-1 by decide +kernel);have J:bD (.int 2) (.int (c/4%4))=some (.int (2*(c/4%4))):=jV (by decide) (by decide);have F:bD (.int 2) (.int (c/4%(5*10^59-1)))=some (.int (2*(c/4%(5*10^59-1)))):=jV (by decide) (by decide);have q:cJ (.int (c/4)) (.int (5*10^59-1))=some (.int (c/4%(5*10^59-1))):=aO (by decide +kernel);generalize hx:c/4%(5*10^59-1)=x at b1 b2 F q;by_cases h:c%4=0
 ·exact⟨3+2*(c/4%4),aM (by simp_all[iS,aD,aO,a7,h,J]),by lia,by lia,by lia⟩
 ·refine⟨3+2*x,aM ?_,by lia,by lia,by lia⟩
  simp only[zas,Int.reduceMul,Int.reduceSub]at pw G q;simp_all[iS,aD,aO,a7,h,pw,G,q,F]
theorem jM{c:Int}:∃n,cW [.int c]=some (.int n):=by
 have pw:iL (.int 10) (.int 60)=some (.int (10^60)):=fR (by decide) (by decide) (by decide +kernel);have F:bD (.int 2) (.int (10^60))=some (.int (2*10^60)):=jV (by decide) (by decide);have q:cJ (.int (c/3)) (.int (2*10^60-1))=some (.int (c/3%(2*10^60-1))):=aO (by decide +kernel);generalize hx:c/3%(2*10^60-1)=x at q;by_cases h:c%3=0
 ·exact⟨c/3%21-10,aM (by simp_all[g6,aD,aO,a7,h])⟩
 ·refine⟨x-(10^60-1),aM ?_⟩
  simp only[zas,Int.reduceMul,Int.reduceSub]at pw F q;simp_all[g6,aD,aO,a7,h,pw,F,q]
def EG(many:Int)(r:Ro):Prop:=(0<=r.j/\r.j<r.k/\r.k<many)/\0<=r.p/\r.p<=10^30
theorem KZ{ns:List Int}{f:Int->Int}{at_ many:Int}(q:Fx ns f)(h0:0<=at_)(h1:at_<=900)(hm:2<=many/\many<=6):∃r:Ro,pD [.lst (ns.map .int),.int at_,.int many]=some (cY r)/\EG many r:=by
 have f0:=q at_ h0 (by lia);have W:=q (at_+1) (by lia) (by lia);have f2:=q (at_+2) (by lia) (by lia);have Y:=q (at_+3) (by lia) (by lia);have f4:=q (at_+4) (by lia) (by lia);have f5:=q (at_+5) (by lia) (by lia);generalize f at_=c at f0;generalize f (at_+1)=c1 at W;have pw:iL (.int 10) (.int 30)=some (.int (10^30)):=fR (by decide) (by decide) (by decide +kernel);obtain⟨a,ea⟩:=jM (c:=f (at_+2)+f (at_+4));obtain⟨b,eb⟩:=jM (c:=f (at_+3)+f (at_+5));have U:=X2 (c/2) (show many-1≠0 by lia);have j1:=X6 (c/2) (show 0<many-1 by lia);have N:cJ (.int (c/2)) (.int (many-1))=some (.int (c/2%(many-1))):=aO (by lia);generalize c/2%(many-1)=j at U j1 N;have k0:=X2 (c/2/5) (show many-1-j≠0 by lia);have k1:=X6 (c/2/5) (show 0<many-1-j by lia);have G:cJ (.int (c/2/5)) (.int (many-1-j))=some (.int (c/2/5%(many-1-j))):=aO (by lia);generalize c/2/5%(many-1-j)=k at k0 k1 G;have J:=X2 c1 (show(10^30+1:Int)≠0 by decide +kernel);have p1:=X6 c1 (show(0:Int)<10^30+1 by decide +kernel);have F:cJ (.int c1) (.int (10^30+1))=some (.int (c1%(10^30+1))):=aO (by decide +kernel);generalize c1%(10^30+1)=pr at J p1 F;refine⟨⟨j,j+1+k,a,b,pr⟩,aM ?_,⟨U,by show j<j+1+k;lia,by show j+1+k<many;lia⟩,J,by show pr<=_;lia⟩;simp only[zas,Int.reduceAdd]at pw F;simp_all[oZ,aD,f0,W,f2,Y,f4,f5,a7,N,G,ea,eb,pw,F,cY]
noncomputable def sg(S:Str)(i:Int):Nat:=S.cps.toList.getD i.toNat 0
theorem LC(hz:z.length<=1000)(h0:0<=i)(h:i<(z.length:Int)):a6 (.str z) (.int i)=some (.str ⟨#[sg z i]⟩):=by
 obtain⟨j,rfl⟩:∃j:Nat,i=(j:Int):=⟨i.toNat,by lia⟩;have q:j<z.cps.toList.length:=by rw[ZJ];show j<z.length;lia
 have e:fS z.cps.toList (j:Int)=some z.cps.toList[j]:=lV (by simp_all[q]);have F:sg z (j:Int)=z.cps.toList[j]:=by
  unfold sg;rw[ZF,List.getD_eq_getElem?_getD,Y6 q];rfl
 rw[F];show(if aW z.length then(fS z.cps.toList (j:Int)).map (λc=>D.str ⟨#[c]⟩)else none)=_;rw[if_pos (show aW z.length=true from decide_eq_true (by lia)),e];rfl
noncomputable def low(c:Nat):Bool:=decide (97<=c) && decide (c<=122)
def cC(x:Str):Bool:=decide (1<=x.length) && decide (x.length<=8) && (x.cps.toList.all low) && !((["let", "in", "pick", "again"]:List Str).contains x)
theorem O4(c:Nat):(!decide ((⟨#[c]⟩:Str).cps.toList<("a" : Str).cps.toList))=decide (97<=c)/\(!decide (("z" : Str).cps.toList<(⟨#[c]⟩:Str).cps.toList))=decide (c<=122):=by
 have ea:("a" : Str).cps.toList=[97]:=by decide
 have F:("z" : Str).cps.toList=[122]:=by decide
 have q:(⟨#[c]⟩:Str).cps.toList=[c]:=rfl;rw[ea,F,q];have h1:([c]<[97])↔c<97:=by simp_all[List.cons_lt_cons_iff]
 have h2:([122]<[c])↔122<c:=by simp_all[List.cons_lt_cons_iff]
 constructor
 ·by_cases h:c<97
  ·rw[decide_eq_true (h1.mpr h),decide_eq_false (by lia)];rfl
  ·rw[decide_eq_false (λz=>h (h1.mp z)),decide_eq_true (by lia)];rfl
 ·by_cases h:122<c
  ·rw[decide_eq_true (h2.mpr h),decide_eq_false (by lia)];rfl
  ·rw[decide_eq_false (λz=>h (h2.mp z)),decide_eq_true (by lia)];rfl
theorem xM:∀(cs:List Nat) (o:Option D),cE (aH 0) z5 (bV gZ gZ (eC (.str "a")) (aA 0) (eC (.str "z"))) (cs.map λc=>.str ⟨#[c]⟩) [o]=some ((cs.map low).map .bl)
 | [],o=>rfl
 | c::cs,o=>by
  have ih:=xM cs (some (.str ⟨#[c]⟩));obtain⟨J,G⟩:=O4 c;have q:gZ (.str "a") (.str ⟨#[c]⟩)=some (.bl (decide (97<=c))):=by rw[q_leAS,J]
  have F:gZ (.str ⟨#[c]⟩) (.str "z")=some (.bl (decide (c<=122))):=by rw[q_leAS,G]
  by_cases h:97<=c
  ·simp_all[-ZH,-q_leAS,cE,bV,q,F,h,ih,low]
  ·simp_all[-ZH,-q_leAS,cE,bV,q,h,ih,low]
theorem jO(hl:x.length<=1000):cA [.str x]=some (.bl (cC x)):=by
 refine aM ?_;have hz:aW x.length=true:=decide_eq_true (by lia);have le:dY [.str x]=some (.int (x.length:Int)):=if_pos hz;have cm:=xM x.cps.toList none;have N:aW (P.signs x).length=true:=by
  have:(P.signs x).length=x.length:=by unfold P.signs;rw[XR,ZJ];rfl
  rw[this];exact hz
 have al:(List.map low x.cps.toList).all id=x.cps.toList.all low:=by rw[List.all_map];rfl
 unfold t8 cC;by_cases h1:x.length<1
 ·have q:(x.length:Int)<1:=by lia
  have h2:decide (1<=x.length)=false:=decide_eq_false (by lia);rw[h2];simp_all[aD,le,q]
 ·have q:¬ (x.length:Int)<1:=by lia
  have h2:decide (1<=x.length)=true:=decide_eq_true (by lia);rw[h2];by_cases h8:8<x.length
  ·have F:(8:Int)<(x.length:Int):=by lia
   have J:decide (x.length<=8)=false:=decide_eq_false (by lia);rw[J];simp_all[aD,le,q,F]
  ·have F:¬ (8:Int)<(x.length:Int):=by lia
   have J:decide (x.length<=8)=true:=decide_eq_true (by lia);rw[J];unfold P.signs at N;by_cases G:x = "let" \/ x = "in" \/ x = "pick" \/ x = "again"
   ·have W:(["let", "in", "pick", "again"]:List Str).contains x=true:=by simpa using G
    rw[W];simp_all[-ZH,aD,le,q,F,G]
   ·have W:(["let", "in", "pick", "again"]:List Str).contains x=false:=by simpa using G
    rw[W];have sg:P.signs x=x.cps.toList.map λc=>D.str ⟨#[c]⟩:=rfl
    have Y:EB [.lst ((x.cps.toList.map low).map .bl)]=some (.bl (x.cps.toList.all low)):=by rw[q_all,al]
    have U:aW x.cps.size=true:=hz;simp[-XG,-XH,aC,aE,-ZH,-q_all,aD,le,q,F,G,sg,U,oJ,cm]at Y ⊢;simp_all[-ZH,-q_all,Y]
theorem R1(h0:0<=i)(h:i<26):a6 (.str "abcdefghijklmnopqrstuvwxyz") (.int i)=some (.str ⟨#[97+i.toNat]⟩):=by
 have l:("abcdefghijklmnopqrstuvwxyz" : Str).length=26:=by decide +kernel
 rw[LC (by rw[l];decide) h0 (by rw[l];exact h)];have:∀j:Fin 26,sg "abcdefghijklmnopqrstuvwxyz" (j.val:Int)=97+j.val:=by decide +kernel
 have e:=this ⟨i.toNat,by lia⟩;have q:((i.toNat:Nat):Int)=i:=by lia
 rw[q]at e;rw[e]
theorem in_str{w:Str}{l:List Str}:rM (.str w) (.tup (l.map .str))=some (.bl (decide (w∈l))):=by
 have h1:(l.map D.str).all jT=true:=by
  rw[List.all_map];exact List.all_eq_true.mpr λx _=>rfl
 show RF (.str w) (.tup (l.map .str))=_;unfold RF IW;dsimp only;rw[if_pos ⟨rfl,h1⟩];simp only[aE];congr 2;rw[List.any_map];by_cases h:w∈l
 ·rw[decide_eq_true h]
  exact List.any_eq_true.mpr ⟨w,h,by simp[-XG,-XH,aC,aE]⟩
 ·rw[decide_eq_false h]
  refine List.any_eq_false.mpr λx q=>?_
  simp[-XG,-XH,aC,aE];rintro rfl;exact h q
noncomputable def zN(c:Int):Nat:=(1+c%8).toNat
noncomputable def sN(c:Int):Int:=c/8%(1+c%8)
noncomputable def tN(m:Int):Int:=1+2*(m%6)
def gN(c m k p:Int):Int:=(c/64*(2*p+1)+m/6*p+5*p*p+if p=sN c then tN m*k else 0)%26
def wL(c m k:Int):List Nat:=(Y9 (zN c)).map λp:Nat=>97+(gN c m k p).toNat
def w0(c m k:Int):Str:=⟨(wL c m k).toArray⟩
def wN(c m k:Int):Str:=if w0 c m k∈(["let", "in", "pick", "again"]:List Str)then w0 c m k ++ "x" else w0 c m k
theorem QY(c:Int):1<=zN c/\zN c<=8/\((zN c:Nat):Int)=1+c%8:=by
 unfold zN;have:=X2 c (show(8:Int)≠0 by decide);have:=X6 c (show(0:Int)<8 by decide)
 lia
theorem UC(c:Int):0<=sN c/\sN c<(zN c:Int):=by
 have z:=QY c;unfold sN;have:=X2 (c/8) (show 1+c%8≠0 by lia);have:=X6 (c/8) (show 0<1+c%8 by lia)
 lia
theorem qR(c m k:Int):(wL c m k).length=zN c:=by unfold wL;simp[-XG,-XH,aC,aE]
theorem HA(c m k:Int):(w0 c m k).length=zN c:=by
 show(wL c m k).toArray.size=_;rw[XX,qR]
theorem AX(a b:Str):(a++b).cps.toList=a.cps.toList++b.cps.toList:=by
 have e:(a++b).cps=a.cps++b.cps:=rfl;rw[e,Array.toList_append]
theorem IE{a b:Str}(h:a.cps.toList=b.cps.toList):a=b:=by
 cases a;cases b;congr 1;exact Array.toList_inj.mp h
theorem yJ(c m k:Int):(w0 c m k).cps.toList=wL c m k:=by simp_all[w0]
theorem uI(c m k:Int):cC (wN c m k)=true/\(wN c m k).length<=8:=by
 unfold wN;by_cases h:w0 c m k∈(["let", "in", "pick", "again"]:List Str)
 ·rw[if_pos h]
  simp only[Y7,Y8,or_false]at h;rcases h with h|h|h|h <;> rw[h] <;> exact⟨by decide +kernel,by decide +kernel⟩
 ·rw[if_neg h]
  have z:=QY c;have J:=HA c m k;refine⟨?_,by lia⟩;unfold cC;have G:(w0 c m k).cps.toList.all low=true:=by
   rw[yJ,zbg];intro x q;obtain⟨p,_,rfl⟩:=List.mem_map.mp q;have a:=X2 (c/64*(2*(p:Int)+1)+m/6*(p:Int)+5*(p:Int)*(p:Int)+if(p:Int)=sN c then tN m*k else 0) (show(26:Int)≠0 by decide);have b:=X6 (c/64*(2*(p:Int)+1)+m/6*(p:Int)+5*(p:Int)*(p:Int)+if(p:Int)=sN c then tN m*k else 0) (show(0:Int)<26 by decide);unfold low gN;have:97<=97+((c/64*(2*(p:Int)+1)+m/6*(p:Int)+5*(p:Int)*(p:Int)+if(p:Int)=sN c then tN m*k else 0)%26).toNat/\97+((c/64*(2*(p:Int)+1)+m/6*(p:Int)+5*(p:Int)*(p:Int)+if(p:Int)=sN c then tN m*k else 0)%26).toNat<=122:=by lia
   rw[decide_eq_true this.1,decide_eq_true this.2];rfl
  have F:(["let", "in", "pick", "again"]:List Str).contains (w0 c m k)=false:=by
   rw[<- ZV,zbW];exact h
  rw[F,G,decide_eq_true (show 1<=(w0 c m k).length by lia),decide_eq_true (show(w0 c m k).length<=8 by lia)];rfl
theorem HN{c m k j:Int}(k0:0<=k)(k1:k<8)(N:0<=j)(U:j<8)(e:w0 c m k=w0 c m j):k=j:=by
 have e:wL c m k=wL c m j:=by rw[<- yJ,<- yJ,e]
 obtain⟨W,F⟩:=UC c;have hs:((sN c).toNat:Int)=sN c:=by lia
 have q:=congrArg (λl:List Nat=>l[(sN c).toNat]?) e;unfold wL at q;simp only[YB,zbR (show(sN c).toNat<zN c by lia),XH,Option.some.injEq]at q;rw[hs]at q;unfold gN at q;rw[if_pos rfl,if_pos rfl]at q;generalize c/64*(2*sN c+1)+m/6*sN c+5*sN c*sN c=A at q;have J:=X2 m (show(6:Int)≠0 by decide);have G:=X6 m (show(0:Int)<6 by decide);unfold tN at q;have:m%6=0\/m%6=1\/m%6=2\/m%6=3\/m%6=4\/m%6=5:=by lia
 rcases this with h|h|h|h|h|h <;> rw[h]at q <;> omega
theorem qN{c m k j:Int}(k0:0<=k)(k1:k<8)(G:0<=j)(J:j<8)(e:wN c m k=wN c m j):k=j:=by
 have N:("x" : Str).cps.toList=[120]:=by decide
 have F:∀i,(w0 c m i ++ "x").cps.toList=wL c m i++[120]:=λi=>by rw[AX,yJ,N]
 unfold wN at e;by_cases h:w0 c m k∈(["let", "in", "pick", "again"]:List Str)
 ·rw[if_pos h]at e
  by_cases g:w0 c m j∈(["let", "in", "pick", "again"]:List Str)
  ·rw[if_pos g]at e
   have q:=congrArg (λs:Str=>s.cps.toList) e;simp only[F]at q;have U:=List.append_cancel_right q;exact HN k0 k1 G J (IE (by rw[yJ,yJ,U]))
  ·rw[if_neg g]at e
   have q:=congrArg (λs:Str=>s.cps.toList.length) e;simp only[F,yJ,Y3,qR,zco]at q
   lia
 ·rw[if_neg h]at e
  by_cases g:w0 c m j∈(["let", "in", "pick", "again"]:List Str)
  ·rw[if_pos g]at e
   have q:=congrArg (λs:Str=>s.cps.toList.length) e;simp only[F,yJ,Y3,qR,zco]at q
   lia
  ·rw[if_neg g]at e
   exact HN k0 k1 G J e
def cQ(c m:Int)(n:Nat):List Str:=(Y9 n).map λk:Nat=>wN c m k
theorem IR{b:Sv}{x:D}{ρ:cL}{i:Nat}:turn (aH i) b x ρ=b (ρ.set i (some x)):=by simp_all[turn]
theorem vI{c m many:Int}(h0:0<=many)(h:many<=7):iY [.int c,.int m,.int many]=some (.lst ((cQ c m many.toNat).map .str)):=by
 obtain⟨z1,z2,z3⟩:=QY c;obtain⟨s0,s1⟩:=UC c;have t0:=X2 m (show(6:Int)≠0 by decide);have t1:=X6 m (show(0:Int)<6 by decide);refine aM ?_;unfold nN;rw[aG (aP (d:=.str "abcdefghijklmnopqrstuvwxyz") (by simp[-XG,-XH,aC,aE]))];rw[aG (aP (d:=.int (zN c:Int)) (by simp_all[aD,aO,z3]))];rw[aG (aP (d:=.int (sN c)) (by simp_all[aD,a7,aO (show 0<1+c%8 by lia),sN,z3]))];have et:fS [D.int 1,.int 3,.int 5,.int 7,.int 9,.int 11] (m%6)=some (.int (tN m)):=by
  unfold tN;have:m%6=0\/m%6=1\/m%6=2\/m%6=3\/m%6=4\/m%6=5:=by lia
  rcases this with h|h|h|h|h|h <;> rw[h] <;> rfl
 rw[aG (aP (d:=.int (tN m)) (by simp_all[aD,aO,et]))];rw[aG (aP (d:=.lst []) (by simp[-XG,-XH,aC,aE]))];have hT:1<=tN m/\tN m<=11:=by unfold tN;lia
 refine iD (items:=bS 0 1 many.toNat) (by simp_all[aD,zI h0 (show many<=1000000 by lia)]) (λi ρ=>∃o8 o9 G F,ρ=[some (.int c),some (.int m),some (.int many),some (.str "abcdefghijklmnopqrstuvwxyz"),some (.int (zN c:Int)),some (.int (sN c)),some (.int (tN m)),some (.lst ((cQ c m i).map .str)),o8,o9,G,F]) ⟨none,none,none,none,by simp_all[aD,cQ]⟩ ?_ ?_
 ·rintro i x ρ hx ⟨o8,o9,G,F,rfl⟩
  obtain⟨aq,rfl⟩:=cR hx;have hI:(0:Int)+(i:Int)*1=(i:Int):=by lia
  rw[hI];have inner:∀G F,∃N J,gE (aH 10) (bE (cF 11 (aQ a8 (aQ a8 (aQ bD (aQ eY (aA 0) (eC (.int 64))) (aQ a8 (aQ bD (eC (.int 2)) (aA 10)) (eC (.int 1)))) (aQ bD (aQ eY (aA 1) (eC (.int 6))) (aA 10))) (aQ bD (aQ bD (eC (.int 5)) (aA 10)) (aA 10))))
   (bE (eR (bZ (aQ mV (aA 10) (aA 5))) (cF 11 (aQ a8 (aA 11) (aQ bD (aA 6) (aA 8)))) gF)
   (cF 9 (aQ a8 (aA 9) (aQ a6 (aA 3) (aQ cJ (aA 11) (eC (.int 26)))))))) (bS 0 1 (zN c)) [some (.int c),some (.int m),some (.int many),some (.str "abcdefghijklmnopqrstuvwxyz"),some (.int (zN c:Int)),some (.int (sN c)),some (.int (tN m)),some (.lst ((cQ c m i).map .str)),some (.int (i:Int)),some (.str ""),G,F]=some (.nx [some (.int c),some (.int m),some (.int many),some (.str "abcdefghijklmnopqrstuvwxyz"),some (.int (zN c:Int)),some (.int (sN c)),some (.int (tN m)),some (.lst ((cQ c m i).map .str)),some (.int (i:Int)),some (.str (w0 c m i)),N,J]):=by
   intro G F;obtain⟨ρ',e1,N,J,e2⟩:=jB (items:=bS 0 1 (zN c)) (g:=aH 10) (b:=bE (cF 11 (aQ a8 (aQ a8 (aQ bD (aQ eY (aA 0) (eC (.int 64))) (aQ a8 (aQ bD (eC (.int 2)) (aA 10)) (eC (.int 1)))) (aQ bD (aQ eY (aA 1) (eC (.int 6))) (aA 10))) (aQ bD (aQ bD (eC (.int 5)) (aA 10)) (aA 10))))
    (bE (eR (bZ (aQ mV (aA 10) (aA 5))) (cF 11 (aQ a8 (aA 11) (aQ bD (aA 6) (aA 8)))) gF)
    (cF 9 (aQ a8 (aA 9) (aQ a6 (aA 3) (aQ cJ (aA 11) (eC (.int 26)))))))) (ρ:=[some (.int c),some (.int m),some (.int many),some (.str "abcdefghijklmnopqrstuvwxyz"),some (.int (zN c:Int)),some (.int (sN c)),some (.int (tN m)),some (.lst ((cQ c m i).map .str)),some (.int (i:Int)),some (.str ""),G,F])
    (λq ρ => ∃N J, ρ = [some (.int c), some (.int m), some (.int many), some (.str "abcdefghijklmnopqrstuvwxyz"), some (.int (zN c:Int)), some (.int (sN c)), some (.int (tN m)), some (.lst ((cQ c m i).map .str)), some (.int (i:Int)), some (.str ⟨((wL c m i).take q).toArray⟩), N, J]) ⟨G, F, rfl⟩ (by
     rintro p y ρ hy ⟨N,J,rfl⟩;obtain⟨hp,rfl⟩:=cR hy;have hP:(0:Int)+(p:Int)*1=(p:Int):=by lia
     rw[hP];have m1:bD (.int 2) (.int (p:Int))=some (.int (2*(p:Int))):=jV (by decide) (by decide);have m2:bD (.int (c/64)) (.int (2*(p:Int)+1))=some (.int (c/64*(2*(p:Int)+1))):=D7 (by lia) (by lia);have m3:bD (.int (m/6)) (.int (p:Int))=some (.int (m/6*(p:Int))):=D7 (by lia) (by lia);have m4:bD (.int 5) (.int (p:Int))=some (.int (5*(p:Int))):=jV (by decide) (by decide);have m5:bD (.int (5*(p:Int))) (.int (p:Int))=some (.int (5*(p:Int)*(p:Int))):=D7 (by lia) (by lia);have m6:bD (.int (tN m)) (.int (i:Int))=some (.int (tN m*(i:Int))):=jV (by lia) (by lia);have eg:(wL c m i)[p]?=some (97+(gN c m i p).toNat):=by
      unfold wL;rw[YB,zbR hp];rfl
     have g0:0<=gN c m i p:=X2 _ (by decide);have g1:gN c m i p<26:=X6 _ (by decide);have ea:=R1 g0 g1;have sa:(⟨((wL c m i).take p).toArray⟩:Str)++(⟨#[97+(gN c m i p).toNat]⟩:Str)=⟨((wL c m i).take (p+1)).toArray⟩:=by
      refine IE ?_;rw[AX,zaD,eg];simp[-XG,-XH,aC,aE]
     have sz:aW ((⟨((wL c m i).take p).toArray⟩:Str).length+(⟨#[97+(gN c m i p).toNat]⟩:Str).length)=true:=by
      refine decide_eq_true ?_;show((wL c m i).take p).toArray.size+1<=_;rw[XX,zai,qR]
      lia
     by_cases hs:(p:Int)=sN c
     ·refine⟨[some (.int c),some (.int m),some (.int many),some (.str "abcdefghijklmnopqrstuvwxyz"),some (.int (zN c:Int)),some (.int (sN c)),some (.int (tN m)),some (.lst ((cQ c m i).map .str)),some (.int (i:Int)),some (.str ⟨((wL c m i).take (p+1)).toArray⟩),some (.int (p:Int)),some (.int (c/64*(2*(p:Int)+1)+m/6*(p:Int)+5*(p:Int)*(p:Int)+tN m*(i:Int)))],?_,_,_,rfl⟩
      have U:gN c m i p=(c/64*(2*(p:Int)+1)+m/6*(p:Int)+5*(p:Int)*(p:Int)+tN m*(i:Int))%26:=by unfold gN;rw[if_pos hs]
      rw[<- sa];rw[U]at ea sz ⊢;have ac:=eq_true hs;clear hs;simp_all[turn,a7,m1,m2,m3,m4,m5,m6,ac,aO,ea,sz]
     ·refine⟨[some (.int c),some (.int m),some (.int many),some (.str "abcdefghijklmnopqrstuvwxyz"),some (.int (zN c:Int)),some (.int (sN c)),some (.int (tN m)),some (.lst ((cQ c m i).map .str)),some (.int (i:Int)),some (.str ⟨((wL c m i).take (p+1)).toArray⟩),some (.int (p:Int)),some (.int (c/64*(2*(p:Int)+1)+m/6*(p:Int)+5*(p:Int)*(p:Int)))],?_,_,_,rfl⟩
      have U:gN c m i p=(c/64*(2*(p:Int)+1)+m/6*(p:Int)+5*(p:Int)*(p:Int))%26:=by unfold gN;rw[if_neg hs,Int.add_zero]
      rw[<- sa];rw[U]at ea sz ⊢;simp_all[turn,a7,m1,m2,m3,m4,m5,m6,hs,aO,ea,sz])
   refine⟨N,J,?_⟩;rw[e1,e2,dQ];have:(⟨((wL c m i).take (zN c)).toArray⟩:Str)=w0 c m i:=by
    unfold w0;rw[<- qR c m i,za3]
   rw[this]
  obtain⟨N,J,aa⟩:=inner G F;have rz:=jN (n:=zN c) (by lia);have ab:(cQ c m (i+1)).map D.str=(cQ c m i).map D.str++[.str (wN c m i)]:=by
   unfold cQ;rw[List.range_succ,zbr,zbr];rfl
  have W:aW (cQ c m i).length=true:=decide_eq_true (by unfold cQ;rw[XR,List.length_range];lia);have hw:=in_str (w:=w0 c m i) (l:=["let", "in", "pick", "again"]);refine⟨[some (.int c),some (.int m),some (.int many),some (.str "abcdefghijklmnopqrstuvwxyz"),some (.int (zN c:Int)),some (.int (sN c)),some (.int (tN m)),some (.lst ((cQ c m (i+1)).map .str)),some (.int (i:Int)),some (.str (wN c m i)),N,J],?_,_,_,_,_,rfl⟩;rw[IR];simp only[zbX,zbY];rw[aG (aP (d:=.str "") (by simp[-XG,-XH,aC,aE]))];simp only[zbX,zbY];have ef:lR cM (aB (aA 4) aJ) [some (.int c),some (.int m),some (.int many),some (.str "abcdefghijklmnopqrstuvwxyz"),some (.int (zN c:Int)),some (.int (sN c)),some (.int (tN m)),some (.lst ((cQ c m i).map .str)),some (.int (i:Int)),some (.str ""),G,F]=some (bS 0 1 (zN c)):=rz;rw[aG (by rw[q_for,ef];exact aa)];rw[ab];simp only[List.map]at hw;unfold wN;by_cases Y:w0 c m i∈(["let", "in", "pick", "again"]:List Str)
  ·have sz:aW ((w0 c m i).length+("x" : Str).length)=true:=by
    refine decide_eq_true ?_;rw[HA];show zN c+1<=_
    lia
   rw[decide_eq_true Y]at hw;rw[if_pos Y];simp_all[hw,sz,W]
  ·rw[decide_eq_false Y]at hw
   rw[if_neg Y];simp_all[hw,W]
 ·rintro ρ ⟨o8,o9,G,F,rfl⟩
  rw[dQ];simp[-XG,-XH,aC,aE]
theorem CM{g:Gv}{b:Sv}{x:D}{l:List D}{ρ:cL}:gE g b (x::l) ρ=(turn g b x ρ).bind λo=>match o with
  | .nx ρ2=>gE g b l ρ2
  | .ct ρ2=>gE g b l ρ2
  | .bk ρ2=>some (.nx ρ2)
  | .rt d=>some (.rt d):=by
 show(g x ρ).bind _=((g x ρ).bind b).bind _;cases g x ρ <;> rfl
structure Mk where
 nm:Str
 tk:List Int
 gv:Int
 ts:List My.Tm
 p:Int
def bY(m:Mk):D:=.tup [.str m.nm,tupI m.tk,.int m.gv,.lst (m.ts.map b6),.int m.p]
def OkT(n:Nat)(t:My.Tm):Prop:=t.1.length=n/\∀e∈t.1,0<=e/\e<=2
structure OkM(many:Int)(n:Nat)(m:Mk):Prop where
 nm:cC m.nm=true
 nl:m.nm.length<=8
 tk:(∃t,m.tk=[t])\/∃t u,m.tk=[t,u]
 tb:∀t∈m.tk,0<=t/\t<many
 gv:0<=m.gv/\m.gv<many
 tl:m.ts.length<=n
 tt:∀t∈m.ts,OkT m.tk.length t
 pr:0<=m.p/\m.p<=10^30
noncomputable def isD(nm:Str)(n:Nat)(m:Mk):Bool:=decide (m.nm=nm) && decide (m.tk.length=n)
def cnt(ms:List Mk)(nm:Str)(n:Nat):Nat:=(ms.filter (isD nm n)).length
theorem AS{a b c:Str}{n:Nat}(h1:a≠b)(h2:a≠c)(U:b≠c):∀ms:List Mk,cnt ms a n+cnt ms b n+cnt ms c n<=ms.length
 | []=>XU _
 | m::ms=>by
  have ih:=AS (n:=n) h1 h2 U ms;unfold cnt at ih ⊢;rw[zaV,zaV,zaV];by_cases e:m.tk.length=n
  ·by_cases ea:m.nm=a
   ·have F:isD a n m=true:=by unfold isD;rw[decide_eq_true ea,decide_eq_true e];rfl
    have q:isD b n m=false:=by unfold isD;rw[decide_eq_false (λz=>h1 (ea.symm.trans z))];rfl
    have G:isD c n m=false:=by unfold isD;rw[decide_eq_false (λz=>h2 (ea.symm.trans z))];rfl
    rw[F,q,G];simp[-XG,-XH,aC,aE];lia
   ·have F:isD a n m=false:=by unfold isD;rw[decide_eq_false ea];rfl
    by_cases J:m.nm=b
    ·have q:isD b n m=true:=by unfold isD;rw[decide_eq_true J,decide_eq_true e];rfl
     have G:isD c n m=false:=by unfold isD;rw[decide_eq_false (λz=>U (J.symm.trans z))];rfl
     rw[F,q,G];simp[-XG,-XH,aC,aE];lia
    ·have q:isD b n m=false:=by unfold isD;rw[decide_eq_false J];rfl
     rw[F,q];by_cases N:isD c n m=true
     ·rw[N];simp[-XG,-XH,aC,aE];lia
     ·rw[ZV]at N;rw[N];simp[-XG,-XH,aC,aE];lia
  ·have f:∀x,isD x n m=false:=λx=>by unfold isD;rw[decide_eq_false e,Bool.and_false]
   rw[f,f,f];simp[-XG,-XH,aC,aE];lia
theorem yA{nm:Str}{n:Nat}:∀(ms:List Mk) (o:Option D),cE (aH 0) (sJ (bZ (aQ mV (aQ a6 (aA 0) (eC (.int 0))) (aA 1))) (bZ (aQ mV (aI dY (aB (aQ a6 (aA 0) (eC (.int 1))) aJ)) (aA 2)))) (aA 0) (ms.map bY) [o,some (.str nm),some (.int (n:Int))]=some ((ms.filter (isD nm n)).map bY)
 | [],o=>rfl
 | m::ms,o=>by
  have ih:=yA (nm:=nm) (n:=n) ms (some (bY m));have F:a6 (bY m) (.int 0)=some (.str m.nm):=rfl;have G:a6 (bY m) (.int 1)=some (tupI m.tk):=rfl;have J:dY [tupI m.tk]=some (.int (m.tk.length:Int)):=by
   show some (D.int ((m.tk.map D.int).length:Int))=_;rw[XR]
  rw[XW,zaV];by_cases ea:m.nm=nm
  ·by_cases e:m.tk.length=n
   ·have q:isD nm n m=true:=by unfold isD;rw[decide_eq_true ea,decide_eq_true e];rfl
    rw[q];simp_all[cE,F,G,J,ea,e,ih]
   ·have q:isD nm n m=false:=by unfold isD;rw[decide_eq_false e,Bool.and_false]
    have N:¬ ((m.tk.length:Int)=(n:Int)):=by lia
    rw[q];simp_all[cE,F,G,J,ea,N,ih]
  ·have q:isD nm n m=false:=by unfold isD;rw[decide_eq_false ea];rfl
   rw[q];simp_all[cE,F,ea,ih]
theorem PH{a b c:Str}{ms:List Mk}{x:Int}{n:Nat}(h1:a≠b)(h2:a≠c)(h3:b≠c)(hl:ms.length<18)(x0:0<=x)(x1:x<3):∃nm,fA [.lst [.str a,.str b,.str c],.lst (ms.map bY),.int x,.int (n:Int)]=some (.str nm)/\(nm=a\/nm=b\/nm=c)/\cnt ms nm n<6:=by
 have hz:aW ms.length=true:=decide_eq_true (by lia);have cc:=λnm=>yA (nm:=nm) (n:=n) ms none
 have cs:=AS (n:=n) h1 h2 h3 ms;have r3:cM [.int 3]=some [.int 0,.int 1,.int 2]:=rfl
 -- one turn
 have W:∀(nm:Str) (k:Int) (l:List D) (q G:Option D),0<=k->a6 (.lst [.str a,.str b,.str c]) (.int ((x+k)%3))=some (.str nm)->
   gE (aH 4) (bE (cF 5 (aQ a6 (aA 0) (aQ cJ (aQ a8 (aA 2) (aA 4)) (eC (.int 3)))))
    (eR (bZ (aQ k7 (aI dY (aB (gY [none,some 5,some 3] (dE (aA 1)) (aH 0) (sJ (bZ (aQ mV (aQ a6 (aA 0) (eC (.int 0))) (aA 1))) (bZ (aQ mV (aI dY (aB (aQ a6 (aA 0) (eC (.int 1))) aJ)) (aA 2)))) (aA 0)) aJ)) (eC (.int 6)))) (CA (aA 5)) gF)) (.int k::l) [some (.lst [.str a,.str b,.str c]),some (.lst (ms.map bY)),some (.int x),some (.int (n:Int)),q,G] =
   if cnt ms nm n<6 then some (.rt (.str nm))else gE (aH 4) (bE (cF 5 (aQ a6 (aA 0) (aQ cJ (aQ a8 (aA 2) (aA 4)) (eC (.int 3)))))
    (eR (bZ (aQ k7 (aI dY (aB (gY [none,some 5,some 3] (dE (aA 1)) (aH 0) (sJ (bZ (aQ mV (aQ a6 (aA 0) (eC (.int 0))) (aA 1))) (bZ (aQ mV (aI dY (aB (aQ a6 (aA 0) (eC (.int 1))) aJ)) (aA 2)))) (aA 0)) aJ)) (eC (.int 6)))) (CA (aA 5)) gF)) l [some (.lst [.str a,.str b,.str c]),some (.lst (ms.map bY)),some (.int x),some (.int (n:Int)),some (.int k),some (.str nm)]:=by
  intro nm k l q G k0 hi;have Y:=cc nm;have tt:∀ρ',ρ'=[some (.lst [.str a,.str b,.str c]),some (.lst (ms.map bY)),some (.int x),some (.int (n:Int)),some (.int k),some (.str nm)]->(eR (bZ (aQ k7 (aI dY (aB (gY [none,some 5,some 3] (dE (aA 1)) (aH 0) (sJ (bZ (aQ mV (aQ a6 (aA 0) (eC (.int 0))) (aA 1))) (bZ (aQ mV (aI dY (aB (aQ a6 (aA 0) (eC (.int 1))) aJ)) (aA 2)))) (aA 0)) aJ)) (eC (.int 6)))) (CA (aA 5)) gF) ρ'=if cnt ms nm n<6 then some (.rt (.str nm))else some (.nx ρ'):=by
   rintro ρ' rfl;have lc:((ms.filter (isD nm n)).length:Int)=(cnt ms nm n:Int):=rfl;by_cases h:cnt ms nm n<6
   ·rw[if_pos h]
    have h':((ms.filter (isD nm n)).length:Int)<6:=by rw[lc];lia
    have h2:(ms.filter (isD nm n)).length<6:=h;simp_all[oJ,hz];simp_all[Y,h2,h']
   ·rw[if_neg h]
    have h':¬ ((ms.filter (isD nm n)).length:Int)<6:=by rw[lc];lia
    have h2:¬ (ms.filter (isD nm n)).length<6:=h;simp_all[oJ,hz];simp_all[Y,h2,h']
  rw[CM,IR];simp only[zbX,zbY];rw[aG (aP (d:=.str nm) (by simp_all[aO];exact hi))];simp only[zbX,zbY];rw[tt _ rfl];by_cases h:cnt ms nm n<6
  ·rw[if_pos h,if_pos h];rfl
  ·rw[if_neg h,if_neg h];rfl
 have fin:∀(F J N:Str),a6 (.lst [.str a,.str b,.str c]) (.int ((x+0)%3))=some (.str F)->a6 (.lst [.str a,.str b,.str c]) (.int ((x+1)%3))=some (.str J)->a6 (.lst [.str a,.str b,.str c]) (.int ((x+2)%3))=some (.str N)->cnt ms F n+cnt ms J n+cnt ms N n<=ms.length->∃nm,fA [.lst [.str a,.str b,.str c],.lst (ms.map bY),.int x,.int (n:Int)]=some (.str nm)/\(nm=F\/nm=J\/nm=N)/\cnt ms nm n<6:=by
  intro F J N e0 e1 e2 hs;have U:∀nm,(∀q G,gE (aH 4) _ [.int 0,.int 1,.int 2] [some (.lst [.str a,.str b,.str c]),some (.lst (ms.map bY)),some (.int x),some (.int (n:Int)),q,G]=some (.rt (.str nm)))->fA [.lst [.str a,.str b,.str c],.lst (ms.map bY),.int x,.int (n:Int)]=some (.str nm):=λnm h=>aM (by
   unfold pU;refine zV ?_;rw[q_for];show((cM [.int 3]).bind _)=_;rw[r3];exact h none none)
  by_cases c0:cnt ms F n<6
  ·exact⟨F,U F λq G=>by rw[W F 0 _ q G (by decide) e0,if_pos c0],.inl rfl,c0⟩
  ·by_cases Y:cnt ms J n<6
   ·exact⟨J,U J λq G=>by rw[W F 0 _ q G (by decide) e0,if_neg c0,W J 1 _ _ _ (by decide) e1,if_pos Y],.inr (.inl rfl),Y⟩
   ·have c2:cnt ms N n<6:=by lia
    exact⟨N,U N λq G=>by rw[W F 0 _ q G (by decide) e0,if_neg c0,W J 1 _ _ _ (by decide) e1,if_neg Y,W N 2 _ _ _ (by decide) e2,if_pos c2],.inr (.inr rfl),c2⟩
 have hx:x=0\/x=1\/x=2:=by lia
 rcases hx with rfl|rfl|rfl
 ·exact fin a b c rfl rfl rfl cs
 ·obtain⟨nm,e,h,k⟩:=fin b c a rfl rfl rfl (by lia)
  exact⟨nm,e,by rcases h with h|h|h <;> simp_all[h],k⟩
 ·obtain⟨nm,e,h,k⟩:=fin c a b rfl rfl rfl (by lia)
  exact⟨nm,e,by rcases h with h|h|h <;> simp_all[h],k⟩
noncomputable def iI(n:Nat)(e g:Int):List Int:=if n=1 then [e]else [e,g]
theorem uC{n:Nat}(q:n=1\/n=2)(e g:Int):iM (.tup [.int e,.int g]) none (some (n:Int))=some (tupI (iI n e g)):=by
 rcases q with rfl|rfl <;> rfl
theorem NG{n:Nat}(G:n=1\/n=2){e g v:Int}(F:0<=e/\e<=2)(J:0<=g/\g<=2):OkT n (iI n e g,v):=by
 rcases G with rfl|rfl
 ·exact⟨rfl,λx q=>by rw[List.mem_singleton.mp q];exact F⟩
 ·refine⟨rfl,λx q=>?_⟩
  have q:x∈[e,g]:=q;rcases List.mem_cons.mp q with rfl|q
  ·exact F
  ·rw[List.mem_singleton.mp q];exact J
theorem D9{q:Type}{P:q->Prop}{l:List q}{x:q}(h:∀y∈l,P y)(k:P x):∀y∈l++[x],P y:=λy F=>by
 rcases List.mem_append.mp F with z|z
 ·exact h y z
 ·rw[List.mem_singleton.mp z];exact k
theorem K4{ns:List Int}{f:Int->Int}{at_ c:Int}{n:Nat}(W:Fx ns f)(h0:0<=at_)(h1:at_<=900)(hn:n=1\/n=2):∃ts:List My.Tm,iU [.lst (ns.map .int),.int at_,.int (n:Int),.int c]=some (.lst (ts.map b6))/\ts.length<=9/\∀t∈ts,OkT n t:=by
 have f2:=W (at_+2) (by lia) (by lia);have f3:=W (at_+3) (by lia) (by lia);have f4:=W (at_+4) (by lia) (by lia);obtain⟨g,hg⟩:∃g:Int->Int,∀x,cW [.int x]=some (.int (g x)):=⟨λx=>(jM (c:=x)).choose,λx=>(jM (c:=x)).choose_spec⟩;have sl:=uC hn;by_cases hc:c/4%8=1
 ·obtain⟨ρ',Y,ts,U,o6,rfl,J,N⟩:=jB (items:=bS 0 1 9) (g:=aH 5) (b:=bE (cF 6 (aQ a8 (aI aX (aB (aA 0) (aB (aQ a8 (aA 1) (eC (.int 3))) aJ))) (aQ bD (aA 5) (aI aX (aB (aA 0) (aB (aQ a8 (aA 1) (eC (.int 4))) aJ))))))
   (mR 4 (c8 (aB (wB iM (c8 (aB (aQ cJ (aA 5) (eC (.int 3))) (aB (aQ eY (aA 5) (eC (.int 3))) aJ))) fP (eN (aA 2))) (aB (aI cW (aB (aA 6) aJ)) aJ))))) (ρ:=[some (.lst (ns.map .int)),some (.int at_),some (.int (n:Int)),some (.int c),some (.lst []),none,none,none])
   (λi ρ => ∃(ts:List My.Tm) (U o6:Option D), ρ = [some (.lst (ns.map .int)), some (.int at_), some (.int (n:Int)), some (.int c), some (.lst (ts.map b6)), U, o6, none] /\ ts.length = i /\ ∀t∈ts, OkT n t) ⟨[], none, none, rfl, rfl, (λt h => nomatch h)⟩ (by
    rintro i x ρ hx ⟨ts,U,o6,rfl,J,N⟩;obtain⟨aa,rfl⟩:=cR hx;have hI:(0:Int)+(i:Int)*1=(i:Int):=by lia
    rw[hI];have m1:bD (.int (i:Int)) (.int (f (at_+4)))=some (.int ((i:Int)*f (at_+4))):=jV (by lia) (by lia);have hz:aW ts.length=true:=decide_eq_true (by lia);refine⟨[some (.lst (ns.map .int)),some (.int at_),some (.int (n:Int)),some (.int c),some (.lst ((ts++[(iI n ((i:Int)%3) ((i:Int)/3),g (f (at_+3)+(i:Int)*f (at_+4)))]).map b6)),some (.int (i:Int)),some (.int (f (at_+3)+(i:Int)*f (at_+4))),none],?_,_,_,_,rfl,by simp_all[J],D9 N (NG hn (by lia) (by lia))⟩;simp_all[turn,f3,f4,m1,aO,a7,sl,hg,hz,b6])
  refine⟨ts,aM ?_,by rw[J,dQ];decide,N⟩;unfold iV;rw[aG (aP (d:=.lst []) (by simp[-XG,-XH,aC,aE]))];refine zV ?_;have r9:cM [.int 9]=some (bS 0 1 9):=jN (show 9<=1000000 by decide);have ei:∀F G:Sv,eR (bZ (aQ mV (aQ cJ (aQ eY (aA 3) (eC (.int 4))) (eC (.int 8))) (eC (.int 1)))) F G [some (.lst (ns.map .int)),some (.int at_),some (.int (n:Int)),some (.int c),some (.lst []),none,none,none]=F [some (.lst (ns.map .int)),some (.int at_),some (.int (n:Int)),some (.int c),some (.lst []),none,none,none]:=λF G=>by simp_all[a7,aO,hc]
  refine(ei _ _).trans ?_;rw[aG (by rw[q_for];show((cM [.int 9]).bind _)=_;rw[r9];exact Y)];simp[-XG,-XH,aC,aE]
 ·have c0:=X2 c (show(4:Int)≠0 by decide)
  have c1:=X6 c (show(0:Int)<4 by decide);obtain⟨k,hk⟩:∃k:Nat,c%4=(k:Int):=⟨(c%4).toNat,by lia⟩;obtain⟨ρ',Y,ts,U,o7,rfl,J,N⟩:=jB (items:=bS 0 1 k) (g:=aH 5) (b:=bE (cF 7 (aQ cJ (aQ eY (aI aX (aB (aA 0) (aB (aQ a8 (aA 1) (eC (.int 2))) aJ))) (aQ a6 (mU (aB (eC (.int 1)) (aB (eC (.int 9)) (aB (eC (.int 81)) aJ)))) (aA 5))) (eC (.int 9))))
   (mR 4 (c8 (aB (wB iM (c8 (aB (aQ cJ (aA 7) (eC (.int 3))) (aB (aQ eY (aA 7) (eC (.int 3))) aJ))) fP (eN (aA 2))) (aB (aI cW (aB (aI aX (aB (aA 0) (aB (aQ a8 (aQ a8 (aA 1) (eC (.int 3))) (aA 5)) aJ))) aJ)) aJ))))) (ρ:=[some (.lst (ns.map .int)),some (.int at_),some (.int (n:Int)),some (.int c),some (.lst []),none,none,none])
   (λi ρ => ∃(ts:List My.Tm) (U o7:Option D), ρ = [some (.lst (ns.map .int)), some (.int at_), some (.int (n:Int)), some (.int c), some (.lst (ts.map b6)), U, none, o7] /\ ts.length = i /\ ∀t∈ts, OkT n t) ⟨[], none, none, rfl, rfl, (λt h => nomatch h)⟩ (by
    rintro i x ρ hx ⟨ts,U,o7,rfl,J,N⟩;obtain⟨aa,rfl⟩:=cR hx;have hI:(0:Int)+(i:Int)*1=(i:Int):=by lia
    rw[hI];have hz:aW ts.length=true:=decide_eq_true (by lia);have fi:=W (at_+3+(i:Int)) (by lia) (by lia);obtain⟨q,q0,q1,eq⟩:∃q:Int,0<q/\q<1073741824/\fS [D.int 1,.int 9,.int 81] (i:Int)=some (.int q):=by
     have:i=0\/i=1\/i=2:=by lia
     rcases this with rfl|rfl|rfl
     ·exact⟨1,by decide,by decide,rfl⟩
     ·exact⟨9,by decide,by decide,rfl⟩
     ·exact⟨81,by decide,by decide,rfl⟩
    have w0:=X2 (f (at_+2)/q) (show(9:Int)≠0 by decide);have w1:=X6 (f (at_+2)/q) (show(0:Int)<9 by decide);have qd:=a7 (i:=f (at_+2)) q0 q1;have qm:cJ (.int (f (at_+2)/q)) (.int 9)=some (.int (f (at_+2)/q%9)):=aO (by decide);generalize f (at_+2)/q%9=w at w0 w1 qm;refine⟨[some (.lst (ns.map .int)),some (.int at_),some (.int (n:Int)),some (.int c),some (.lst ((ts++[(iI n (w%3) (w/3),g (f (at_+3+(i:Int))))]).map b6)),some (.int (i:Int)),none,some (.int w)],?_,_,_,_,rfl,by simp_all[J],D9 N (NG hn (by lia) (by lia))⟩;simp_all[turn,f2,fi,eq,qd,qm,aO,a7,sl,hg,hz,b6])
  refine⟨ts,aM ?_,by rw[J,dQ];lia,N⟩;unfold iV;rw[aG (aP (d:=.lst []) (by simp[-XG,-XH,aC,aE]))];rw[aG (f:=eR _ _ _) (ρ':=[some (.lst (ns.map .int)),some (.int at_),some (.int (n:Int)),some (.int c),some (.lst []),none,none,none]) (by simp_all[aD,a7,aO,hc])];have rk:=jN (n:=k) (by lia);have ek:lR cM (aB (aQ cJ (aA 3) (eC (.int 4))) aJ) [some (.lst (ns.map .int)),some (.int at_),some (.int (n:Int)),some (.int c),some (.lst []),none,none,none]=some (bS 0 1 k):=by simp_all[aO,hk,rk]
  rw[aG (by rw[q_for,ek];exact Y)];simp[-XG,-XH,aC,aE]
theorem LX{n:Nat}{f:Sv}{ds:List D}{d:D}(h:f (aD n ds)=some (.rt d)):MU n f ds=some d:=by unfold MU;rw[h];rfl
theorem GR{i z:Nat}{F:List D->Option D}{f0 J G:Ev}{g:Sv}{ρ:cL}{d0 dz d2 d3 d:D}{q:Option Out}(h0:eL z f0 ρ=some d0)(hz:aA z ρ=some dz)(h2:eL z J ρ=some d2)(N:eL z G ρ=some d3)(U:F [d0,dz,d2,d3]=some d)(Y:noL d=true)(W:g (ρ.set i (some d))=q):vW i z F f0 J G g ρ=q:=by
 unfold vW;rw[h0];show(aA z ρ).bind _=_;rw[hz];show(eL z J ρ).bind _=_;rw[h2];show(eL z G ρ).bind _=_;rw[N];show(F [d0,dz,d2,d3]).bind _=_;rw[U];show(if noL d=true then _ else none)=_;rw[if_pos Y,W]
theorem KY{ns:List Int}{f:Int->Int}{at_ many:Int}{a b c:Str}{ms:List Mk}(U:Fx ns f)(h0:0<=at_)(h1:at_<=900)(hm:1<=many/\many<=6)(n1:a≠b)(n2:a≠c)(n3:b≠c)(ok:∀x,x=a\/x=b\/x=c->cC x=true/\x.length<=8)(hl:ms.length<18) :
  ∃m:Mk,g9 [.lst (ns.map .int),.int at_,.int many,.lst [.str a,.str b,.str c],.lst (ms.map bY)]=some (bY m)/\OkM many 9 m/\cnt ms m.nm m.tk.length<6:=by
 have f0:=U at_ h0 (by lia);have f1:=U (at_+1) (by lia) (by lia);generalize f at_=w at f0;generalize f (at_+1)=mo at f1;have pw:iL (.int 10) (.int 30)=some (.int (10^30)):=fR (by decide) (by decide) (by decide +kernel);have k0:=X2 (w/2/3) (show(2:Int)≠0 by decide);have k1:=X6 (w/2/3) (show(0:Int)<2 by decide);obtain⟨n,en⟩:∃n:Nat,1+w/2/3%2=(n:Int):=⟨(1+w/2/3%2).toNat,by lia⟩;have N:n=1\/n=2:=by lia
 have x0:=X2 (w/2) (show(3:Int)≠0 by decide);have x1:=X6 (w/2) (show(0:Int)<3 by decide);obtain⟨nm,ed,J,G⟩:=PH (ms:=ms) (n:=n) n1 n2 n3 hl x0 x1;obtain⟨ts,et,tl,tt⟩:=K4 (c:=mo) U h0 h1 N;have F:0<many:=by lia
 have e0:=X2 (w/2/6) (show many≠0 by lia);have Y:=X6 (w/2/6) F;have g0:=X2 (w/2/36) (show many≠0 by lia);have g1:=X6 (w/2/36) F;have v0:=X2 (w/2/216) (show many≠0 by lia);have v1:=X6 (w/2/216) F;have p0:=X2 (mo/32) (show(10^30+1:Int)≠0 by decide +kernel);have p1:=X6 (mo/32) (show(0:Int)<10^30+1 by decide +kernel);have W:cJ (.int (mo/32)) (.int (10^30+1))=some (.int (mo/32%(10^30+1))):=aO (by decide +kernel);generalize mo/32%(10^30+1)=pr at p0 p1 W;have sl:=uC N (w/2/6%many) (w/2/36%many);have l5:∀k,(iI n k (w/2/36%many)).length=n:=λk=>by rcases N with rfl|rfl <;> rfl
 refine⟨⟨nm,iI n (w/2/6%many) (w/2/36%many),w/2/216%many,ts,pr⟩,LX ?_,⟨(ok nm J).1,(ok nm J).2,?_,?_,⟨v0,v1⟩,tl,?_,p0,by show pr<=_;lia⟩,?_⟩
 ·unfold kL
  simp only[zas,Int.reduceAdd]at pw W;rw[aG (aP (d:=.int (w/2)) (by simp_all[aD,eL,f0,a7]))];rw[aG (aP (d:=.int (n:Int)) (by simp_all[aD,eL,a7,aO,en]))];refine GR (d0:=.lst [.str a,.str b,.str c]) (dz:=.lst (ms.map bY)) (d2:=.int (w/2%3)) (d3:=.int (n:Int)) (d:=.str nm) (by simp_all[aD,eL]) (by simp_all[aD]) (by simp_all[aD,eL,aO]) (by simp_all[aD,eL]) ed rfl ?_;rw[aG (aP (d:=tupI (iI n (w/2/6%many) (w/2/36%many))) (by simp_all[aD,eL,a7,aO F,sl]))];rw[aG (aP (d:=.int mo) (by simp_all[aD,eL,f1]))];rw[aG (aP (d:=.lst (ts.map b6)) (by simp_all[aD,eL,et]))];simp_all[aD,eL,a7,aO F,pw,W,bY]
 ·rcases N with rfl|rfl
  ·exact .inl ⟨_,rfl⟩
  ·exact .inr ⟨_,_,rfl⟩
 ·intro t q
  rcases N with rfl|rfl
  ·have q:t∈[w/2/6%many]:=q
   rw[List.mem_singleton.mp q];exact⟨e0,Y⟩
  ·have q:t∈[w/2/6%many,w/2/36%many]:=q
   rcases List.mem_cons.mp q with rfl|q
   ·exact⟨e0,Y⟩
   ·rw[List.mem_singleton.mp q];exact⟨g0,g1⟩
 ·show ∀t∈ts,OkT (iI n (w/2/6%many) (w/2/36%many)).length t
  rw[l5];exact tt
 ·show cnt ms nm (iI n (w/2/6%many) (w/2/36%many)).length<6
  rw[l5];exact G
structure Rb where
 M:Int
 c:Int
 m:Int
 n:Nat
 rs:List Ro
 ms:List Mk
def oI(b:Rb):D:=.lst [.int b.M,.lst ((cQ b.c b.m b.n).map .str),.lst (b.rs.map cY),.lst (b.ms.map bY)]
structure OkB(b:Rb):Prop where
 hM:3<=b.M/\b.M<10^60/\b.M%2=1
 hn:1<=b.n/\b.n<=6
 rl:b.rs.length<=12
 ro:∀r∈b.rs,EG (b.n:Int) r
 ml:b.ms.length<=16
 mo:∀m∈b.ms,OkM (b.n:Int) 9 m
 mc:∀nm k,cnt b.ms nm k<=6
theorem JO{ms:List Mk}{m:Mk}(h:∀nm k,cnt ms nm k<=6)(h2:cnt ms m.nm m.tk.length<6):∀nm k,cnt (ms++[m]) nm k<=6:=by
 intro nm k;have:=h nm k;unfold cnt at this h2 ⊢;rw[zbZ,Y3,zaV];by_cases e:isD nm k m=true
 ·rw[e]
  have q:m.nm=nm/\m.tk.length=k:=by unfold isD at e;simpa using e
  obtain⟨rfl,rfl⟩:=q;simp[-XG,-XH,aC,aE];lia
 ·rw[ZV]at e
  rw[e];simp[-XG,-XH,aC,aE];lia
theorem SU(ns:List Int)(bt:ns.length<=63):∃b:Rb,mG [.lst (ns.map .int),.int 10]=some (oI b)/\OkB b:=by
 refine(show(∃d,mG [.lst (ns.map .int),.int 10]=some d/\∃b:Rb,d=oI b/\OkB b)->_ from λ⟨d,h1,b,h2,h3⟩=>⟨b,h2 ▸ h1,h3⟩) ?_;refine P3 ?_;unfold tP;obtain⟨f,N⟩:=A9 ns;have f0:=N 0 (by decide) (by decide);have f1:=N 1 (by decide) (by decide);have f2:=N 2 (by decide) (by decide);have f3:=N 3 (by decide) (by decide);have f4:=N 4 (by decide) (by decide);have f5:=N 5 (by decide) (by decide);have n0:=X2 (f 1) (show(6:Int)≠0 by decide);have n1:=X6 (f 1) (show(0:Int)<6 by decide);obtain⟨n,en⟩:∃n:Nat,1+f 1%6=(n:Int):=⟨(1+f 1%6).toNat,by lia⟩;have v1:=vI (c:=f 2) (m:=f 3) (many:=(n:Int)) (by lia) (by lia);have v2:=vI (c:=f 4) (m:=f 5) (many:=3) (by decide) (by decide);rw[ZF]at v1;have e3:(cQ (f 4) (f 5) (3:Int).toNat).map D.str=[.str (wN (f 4) (f 5) 0),.str (wN (f 4) (f 5) 1),.str (wN (f 4) (f 5) 2)]:=rfl;rw[e3]at v2;have ao:∀x,x=wN (f 4) (f 5) 0\/x=wN (f 4) (f 5) 1\/x=wN (f 4) (f 5) 2->cC x=true/\x.length<=8:=by
  rintro x (rfl|rfl|rfl) <;> exact uI _ _ _
 have d1:wN (f 4) (f 5) 0≠wN (f 4) (f 5) 1:=λz=>absurd (qN (by decide) (by decide) (by decide) (by decide) z) (by decide)
 have d2:wN (f 4) (f 5) 0≠wN (f 4) (f 5) 2:=λz=>absurd (qN (by decide) (by decide) (by decide) (by decide) z) (by decide)
 have d3:wN (f 4) (f 5) 1≠wN (f 4) (f 5) 2:=λz=>absurd (qN (by decide) (by decide) (by decide) (by decide) z) (by decide)
 generalize wN (f 4) (f 5) 0=a at *;generalize wN (f 4) (f 5) 1=b at *;generalize wN (f 4) (f 5) 2=c at *;obtain⟨M,vM,hM⟩:=GB (c:=f 0);have q0:=X2 (f 1/6) (show(29:Int)≠0 by decide);have q1:=X6 (f 1/6) (show(0:Int)<29 by decide);rw[aG (aP (d:=.int (n:Int)) (by simp_all[aD,f1,aO,en]))];rw[aG (aP (d:=.lst ((cQ (f 2) (f 3) n).map .str)) (by simp_all[aD,f2,f3,v1]))];rw[aG (aP (d:=.lst [.str a,.str b,.str c]) (by simp_all[aD,f4,f5,v2]))];rw[aG (aP (d:=.lst []) (by simp[-XG,-XH,aC,aE]))];rw[aG (aP (d:=.lst []) (by simp[-XG,-XH,aC,aE]))];obtain⟨q,az,hq⟩:∃q:Int,0<=q/\B9 [.int (((ns.length:Int)-10+5)/6),.int (f 1/6%29)]=some (.int q):=⟨_,by split <;> lia,q_max⟩;simp only[q_max,Option.some.injEq,D.int.injEq]at hq;rw[aG (aP (d:=.int q) (by simp_all[aD,f1,aO,a7,hq]))];obtain⟨p,a3,be,hp⟩:∃p:Int,0<=p/\p<=40/\(if(40:Int)<q then 40 else q)=p:=⟨_,by split <;> lia,by split <;> lia,rfl⟩;have m6:bD (.int 6) (.int p)=some (.int (6*p)):=jV (by decide) (by decide);obtain⟨k,rk,rb⟩:=CG (a:=10) (b:=10+6*p) (c:=6) (by decide) (by decide) (by decide) (by decide) (by lia) (by lia);refine QV (items:=bS 10 6 k) (by simp_all[aD,hp,m6,rk]) (λi ρ=>∃(J:List Ro) (ms:List Mk) (o8:Option D),ρ=[some (.lst (ns.map .int)),some (.int 10),some (.int (n:Int)),some (.lst ((cQ (f 2) (f 3) n).map .str)),some (.lst [.str a,.str b,.str c]),some (.lst (J.map cY)),some (.lst (ms.map bY)),some (.int q),o8]/\(J.length<=12/\∀r∈J,EG (n:Int) r)/\(ms.length<=16/\∀m∈ms,OkM (n:Int) 9 m)/\∀nm k,cnt ms nm k<=6) ⟨[],[],none,rfl,⟨by simp[-XG,-XH,aC,aE],(λr h=>nomatch h)⟩,⟨by simp[-XG,-XH,aC,aE],(λr h=>nomatch h)⟩,λnm k=>YY _⟩ ?_ ?_
 ·rintro i x ρ hx ⟨J,ms,o8,rfl,⟨rl,Y⟩,⟨ml,mo⟩,mc⟩
  obtain⟨ag,rfl⟩:=cR hx;have hb:=rb i ag;generalize ha:(10:Int)+(i:Int)*6=at_ at hb;have a0:0<=at_:=by lia
  have a1:at_<=900:=by lia
  have fa:=N at_ a0 (by lia);rw[IR];simp only[zbX,zbY];by_cases h1:f at_%2=0/\(1:Int)<(n:Int)/\J.length<12
  ·obtain⟨r,er,hr⟩:=KZ N a0 a1 (many:=(n:Int)) (by lia)
   have hz:aW J.length=true:=decide_eq_true (by lia);refine⟨[some (.lst (ns.map .int)),some (.int 10),some (.int (n:Int)),some (.lst ((cQ (f 2) (f 3) n).map .str)),some (.lst [.str a,.str b,.str c]),some (.lst ((J++[r]).map cY)),some (.lst (ms.map bY)),some (.int q),some (.int at_)],?_,J++[r],ms,_,rfl,⟨by simp[-XG,-XH,aC,aE];lia,D9 Y hr⟩,⟨ml,mo⟩,mc⟩;have al:(J.length:Int)<12:=by lia
   have ak:(1:Int)<(n:Int):=h1.2.1;have ah:1<n:=by lia
   simp_all[fa,aO,h1.1,ak,ah,al,h1.2.2,er,hz]
  ·have aj:∀F G:Sv,eR (sJ (bZ (aQ mV (aQ cJ (aI aX (aB (aA 0) (aB (aA 8) aJ))) (eC (.int 2))) (eC (.int 0)))) (sJ (bZ (aQ jW (aA 2) (eC (.int 1)))) (bZ (aQ k7 (aI dY (aB (aA 5) aJ)) (eC (.int 12)))))) F G [some (.lst (ns.map .int)),some (.int 10),some (.int (n:Int)),some (.lst ((cQ (f 2) (f 3) n).map .str)),some (.lst [.str a,.str b,.str c]),some (.lst (J.map cY)),some (.lst (ms.map bY)),some (.int q),some (.int at_)]=G [some (.lst (ns.map .int)),some (.int 10),some (.int (n:Int)),some (.lst ((cQ (f 2) (f 3) n).map .str)),some (.lst [.str a,.str b,.str c]),some (.lst (J.map cY)),some (.lst (ms.map bY)),some (.int q),some (.int at_)]:=λF G=>by
    by_cases c1:f at_%2=0
    ·by_cases c2:(1:Int)<(n:Int)
     ·have c3:¬ J.length<12:=λz=>h1 ⟨c1,c2,z⟩
      have ai:¬ (J.length:Int)<12:=by lia
      have U:1<n:=by lia
      simp_all[fa,aO,c1,c2,U,c3,ai]
     ·have U:¬ 1<n:=by lia
      simp_all[fa,aO,c1,c2,U]
    ·simp_all[fa,aO,c1]
   rw[aj];by_cases h2:ms.length<16
   ·obtain⟨m,em,hm,hc⟩:=KY N a0 a1 (many:=(n:Int)) (by lia) d1 d2 d3 ao (ms:=ms) (by lia)
    have hz:aW ms.length=true:=decide_eq_true (by lia);have W:(ms.length:Int)<16:=by lia
    refine⟨[some (.lst (ns.map .int)),some (.int 10),some (.int (n:Int)),some (.lst ((cQ (f 2) (f 3) n).map .str)),some (.lst [.str a,.str b,.str c]),some (.lst (J.map cY)),some (.lst ((ms++[m]).map bY)),some (.int q),some (.int at_)],?_,J,ms++[m],_,rfl,⟨rl,Y⟩,⟨by simp[-XG,-XH,aC,aE];lia,D9 mo hm⟩,JO mc hc⟩;have eo:zU g9 (aB (aA 0) (aB (aA 8) (aB (aA 2) (aB (aA 4) (aB (aA 6) aJ))))) [some (.lst (ns.map .int)),some (.int 10),some (.int (n:Int)),some (.lst ((cQ (f 2) (f 3) n).map .str)),some (.lst [.str a,.str b,.str c]),some (.lst (J.map cY)),some (.lst (ms.map bY)),some (.int q),some (.int at_)]=some (bY m):=em;have ap:mR 6 (zU g9 (aB (aA 0) (aB (aA 8) (aB (aA 2) (aB (aA 4) (aB (aA 6) aJ)))))) [some (.lst (ns.map .int)),some (.int 10),some (.int (n:Int)),some (.lst ((cQ (f 2) (f 3) n).map .str)),some (.lst [.str a,.str b,.str c]),some (.lst (J.map cY)),some (.lst (ms.map bY)),some (.int q),some (.int at_)]=some (.nx [some (.lst (ns.map .int)),some (.int 10),some (.int (n:Int)),some (.lst ((cQ (f 2) (f 3) n).map .str)),some (.lst [.str a,.str b,.str c]),some (.lst (J.map cY)),some (.lst ((ms++[m]).map bY)),some (.int q),some (.int at_)]):=by
     have:=O0 (k:=6) (l:=ms.map bY) (by simp[-XG,-XH,aC,aE]) eo (by rw[XR];exact hz);rw[this];simp[-XG,-XH,aC,aE]
    have th:∀F G:Sv,eR (bZ (aQ k7 (aI dY (aB (aA 6) aJ)) (eC (.int 16)))) F G [some (.lst (ns.map .int)),some (.int 10),some (.int (n:Int)),some (.lst ((cQ (f 2) (f 3) n).map .str)),some (.lst [.str a,.str b,.str c]),some (.lst (J.map cY)),some (.lst (ms.map bY)),some (.int q),some (.int at_)]=F [some (.lst (ns.map .int)),some (.int 10),some (.int (n:Int)),some (.lst ((cQ (f 2) (f 3) n).map .str)),some (.lst [.str a,.str b,.str c]),some (.lst (J.map cY)),some (.lst (ms.map bY)),some (.int q),some (.int at_)]:=λF G=>by simp_all[h2,W]
    rw[th,ap]
   ·have W:¬ (ms.length:Int)<16:=by lia
    exact⟨[some (.lst (ns.map .int)),some (.int 10),some (.int (n:Int)),some (.lst ((cQ (f 2) (f 3) n).map .str)),some (.lst [.str a,.str b,.str c]),some (.lst (J.map cY)),some (.lst (ms.map bY)),some (.int q),some (.int at_)],by simp_all[h2,W],J,ms,_,rfl,⟨rl,Y⟩,⟨ml,mo⟩,mc⟩
 ·rintro ρ ⟨J,ms,o8,rfl,⟨rl,Y⟩,⟨ml,mo⟩,mc⟩
  exact⟨_,by simp_all[f0,vM];rfl,⟨M,f 2,f 3,n,J,ms⟩,rfl,hM,⟨by show 1<=n;lia,by show n<=6;lia⟩,rl,Y,ml,mo,mc⟩
theorem n8(h:∃ρ,f (aD n ds)=some (.nx ρ)):bT n f ds=some .non:=by
 obtain⟨ρ,e⟩:=h;exact P0 e
theorem zP(q:f ρ=some items)(I:Nat->cL->Prop)(h0:I 0 ρ)(hs:∀i x ρ,items[i]?=some x->I i ρ->∃ρ',turn g b x ρ=some (.nx ρ')/\I (i+1) ρ'):∃ρ',nU f g b ρ=some (.nx ρ'):=by
 obtain⟨ρ',e,_⟩:=jB (g:=g) (b:=b) I h0 hs;exact⟨ρ',by rw[q_for,q,aC];exact e⟩
theorem DJ{f:Lv}{g:Gv}{b rest:Sv}{ρ:cL}{items:List D}(F:f ρ=some items)(I:Nat->cL->Prop)(h0:I 0 ρ)(hs:∀i x ρ,items[i]?=some x->I i ρ->∃ρ',turn g b x ρ=some (.nx ρ')/\I (i+1) ρ')(k:∀ρ',I items.length ρ'->∃q,rest ρ'=some (.nx q)):∃ρ',bE (nU f g b) rest ρ=some (.nx ρ'):=by
 obtain⟨ρ',e,i⟩:=jB (g:=g) (b:=b) I h0 hs;obtain⟨q,G⟩:=k ρ' i;exact⟨q,by rw[aG (ρ':=ρ') (by rw[q_for,F,aC];exact e)];exact G⟩
theorem hJ:kR [.int c]=some (.bl true):=by
 refine aM ?_;simp_all[oW,aD]
theorem AY(G:3<=M)(q:M<10^60)(F:M%2=1):n4 [.int M]=some (.int M):=by
 refine aM ?_;have pw:iL (.int 10) (.int 60)=some (.int (10^60)):=fR (by decide) (by decide) (by decide +kernel);have a:¬ M<3:=by lia
 have b:¬ 10^60<M:=by lia
 unfold AV;simp only[zas]at pw b;simp_all[aD,hJ,a,pw,b,aO,F]
theorem pL(h0:0<=p)(h:p<=10^30):bU [.int p]=some (.bl true):=by
 refine aM ?_;have pw:iL (.int 10) (.int 30)=some (.int (10^30)):=fR (by decide) (by decide) (by decide +kernel);simp only[zas]at pw h;simp_all[fD,aD,bV,pw,h0,h]
theorem MT(h:0<M):sH [.int M,.int n]=some (.int (n%M)):=by
 refine aM ?_;simp_all[TU,aD,aO h]
open Classical in
theorem xF(x:Str):∀l:List Str,(l.map D.str).any (λd=>decide (d=.str x))=l.contains x
 | []=>rfl
 | y::l=>by
  rw[XW,Z1,xF x l,List.contains_cons];congr 1;by_cases h:y=x
  ·subst h;simp[-XG,-XH,aC,aE]
  ·have h2:¬ x=y:=λz=>h z.symm
   have q:¬ D.str y=D.str x:=λz=>h (by injection z)
   rw[decide_eq_false q];simp_all[h2]
theorem all_strs:∀l:List Str,(l.map D.str).all jT=true
 | []=>rfl
 | _::l=>by rw[XW,zbd,all_strs l];rfl
theorem B2(x:Str)(l:List Str):rM (.str x) (.lst (l.map D.str))=some (.bl (l.contains x)):=by
 show RF (.str x) (.lst (l.map D.str))=_;unfold RF IW;dsimp only;rw[if_pos ⟨rfl,all_strs l⟩,xF];rfl
noncomputable def red(M:Int)(r:Ro):Ro:=⟨r.j,r.k,r.a%M,r.b%M,r.p⟩
theorem oR{M:Int}{n:Nat}{q:List Ro}(h3:3<=M)(hl:q.length<=12)(hr:∀r∈q,EG (n:Int) r):kM [.int M,.int (n:Int),.lst (q.map cY)]=some (.tup ((q.map (red M)).map cY)):=by
 have Mp:0<M:=by lia
 have hz:aW q.length=true:=decide_eq_true (by lia);have b:(q.length:Int)<=12:=by lia
 refine aM ?_;unfold oV;rw[aG (ρ':=aD 9 [.int M,.int (n:Int),.lst (q.map cY)]) (by simp_all[aD,b])];rw[aG (aP (d:=.lst []) (by simp[-XG,-XH,aC,aE]))];refine iD (items:=q.map cY) (by simp_all[aD]) (λi ρ=>∃J Y N G W,ρ=[some (.int M),some (.int (n:Int)),some (.lst (q.map cY)),some (.lst (((q.take i).map (red M)).map cY)),J,Y,N,G,W]) ⟨none,none,none,none,none,by simp_all[aD]⟩ ?_ ?_
 ·rintro i x ρ hx ⟨J,Y,N,G,W,rfl⟩
  rw[YB]at hx;obtain⟨r,F,rfl⟩:=map_some hx;obtain⟨⟨j0,jk,kn⟩,p0,p1⟩:=hr r (YO F);have vp:=pL p0 p1;have hi:i<q.length:=(List.getElem?_eq_some_iff.mp F).1;have U:aW (min i q.length)=true:=decide_eq_true (by lia);refine⟨[some (.int M),some (.int (n:Int)),some (.lst (q.map cY)),some (.lst (((q.take (i+1)).map (red M)).map cY)),some (.int r.j),some (.int r.k),some (.int r.a),some (.int r.b),some (.int r.p)],?_,_,_,_,_,_,rfl⟩;rw[zaD,F];simp_all[turn,cY,red,j0,jk,kn,vp,MT Mp,U,bW]
 ·rintro ρ ⟨J,Y,N,G,W,rfl⟩
  rw[XR,za3];simp_all[cT]
def RE(n:Nat)(t:My.Tm):Prop:=t.1.length=n/\∀e∈t.1,0<=e/\e<=8
theorem OkT.e{n:Nat}{t:My.Tm}(h:OkT n t):RE n t:=⟨h.1,λe q=>⟨(h.2 e q).1,by have:=(h.2 e q).2;lia⟩⟩
theorem fG{n:Nat}{k:List Int}(h:k.length=n)(h2:∀e∈k,0<=e/\e<=8):b4 [.int (n:Int),tupI k]=some .non:=by
 refine n8 ?_;unfold fI;rw[aG (ρ':=aD 3 [.int (n:Int),tupI k]) (by simp_all[aD,tupI,h])];refine zP (items:=k.map .int) (by simp_all[aD,tupI]) (λi ρ=>∃o,ρ=[some (.int (n:Int)),some (tupI k),o]) ⟨none,rfl⟩ ?_;rintro i x ρ q ⟨o,rfl⟩;rw[YB]at q;obtain⟨e,F,rfl⟩:=map_some q;have:=h2 e (YO F);exact⟨[some (.int (n:Int)),some (tupI k),some (.int e)],by simp_all[turn,show ¬ e<0 by lia,show ¬ 8<e by lia],_,rfl⟩
theorem sQ{M:Int}(h0:0<M){ρ1 ρ2:Option D}:∀(qs:List My.Tm) (o1 o2:Option D),cE (dF 2 (aR (aH 0) (aR (aH 1) eP))) (bZ (aQ yK (aI sH (aB (aA 2) (aB (aA 1) aJ))) (eC (.int 0)))) (c8 (aB (aA 0) (aB (aI sH (aB (aA 2) (aB (aA 1) aJ))) aJ))) (qs.map b6) [o1,o2,some (.int M)]=some ((My.jF M qs).map b6)
 | [],o1,o2=>rfl
 | t::qs,o1,o2=>by
  have ih:=sQ h0 (ρ1:=ρ1) (ρ2:=ρ2) qs (some (tupI t.1)) (some (.int t.2));rw[XW,cE];by_cases e:t.2%M=0
  ·simp[-XG,-XH,aC,aE,b6,MT h0,e,My.jF]at ih ⊢
   exact ih
  ·simp[-XG,-XH,aC,aE,b6,MT h0,e,My.jF]at ih ⊢
   rw[ih];simp_all[b6]
theorem mE{q:Type}(l:List (List Int×q)):(bN l).length=l.length:=(c4 l).length_eq
theorem CJ{M:Int}{cs:List My.Tm}(h0:0<M)(h:cs.length<64):uA [.int M,.dT (cs.map kD)]=some (.tup ((My.jF M (bN cs)).map b6)):=by
 refine aM ?_;have e:=sQ h0 (ρ1:=none) (ρ2:=none) (bN cs) none none;have hz:aW (bN cs).length=true:=decide_eq_true (by rw[mE];lia);simp_all[t7,aD,yT h,oJ,e,hz]
theorem V_form{M:Int}{n:Nat}{ts:List My.Tm}(h0:0<M)(hn:n=1\/n=2)(hl:ts.length<=9)(hg:∀t∈ts,RE n t):zO [.int M,.int (n:Int),.lst (ts.map b6)]=some (.tup ((My.jF M (bN (My.aT ts))).map b6)):=by
 refine aM ?_;unfold ID;rw[aG (ρ':=aD 6 [.int M,.int (n:Int),.lst (ts.map b6)]) (by rcases hn with rfl|rfl <;> simp_all[aD])];rw[aG (ρ':=[some (.int M),some (.int (n:Int)),some (.lst (ts.map b6)),some (.dT []),none,none]) (by simp_all[aD])];refine iD (items:=ts.map b6) (by simp[-XG,-XH,aC,aE]) (λi ρ=>∃G J,ρ=[some (.int M),some (.int (n:Int)),some (.lst (ts.map b6)),some (.dT ((My.aT (ts.take i)).map kD)),G,J]) ⟨none,none,rfl⟩ ?_ ?_
 ·rintro i x ρ N ⟨G,J,rfl⟩
  rw[YB]at N;obtain⟨t,U,rfl⟩:=map_some N;obtain⟨g1,Y⟩:=hg t (YO U);have es:My.aT (ts.take (i+1))=My.kZ (My.aT (ts.take i)) t:=by rw[zaD,U];exact My.mK _ _
  have q:(My.aT (ts.take i)).length<=1000000:=by
   have:=(My.dU (ts.take i)).1;rw[zai]at this
   lia
  have W:=fG g1 Y;refine⟨[some (.int M),some (.int (n:Int)),some (.lst (ts.map b6)),some (.dT ((My.aT (ts.take (i+1))).map kD)),some (tupI t.1),some (.int t.2)],?_,_,_,rfl⟩;have F:=vN (cs:=My.aT (ts.take i)) t.1 ((My.look (My.aT (ts.take i)) t.1).getD 0+t.2) q;cases e:My.look (My.aT (ts.take i)) t.1 with
  | none=>simp[-XG,-XH,aC,aE,turn,b6,W,e,es,My.kZ]at F ⊢;simp_all[F]
  | some v=>simp[-XG,-XH,aC,aE,turn,b6,W,e,es,My.kZ]at F ⊢;simp_all[F]
 ·rintro ρ ⟨G,J,rfl⟩
  have hs:(My.aT ts).length<64:=by have:=(My.dU ts).1;lia
  rw[XR,za3];simp_all[CJ h0 hs]
theorem AF:∀(k:List Int) (m:Int),(∀e∈k,0<=e/\e<=2)->m<=2->k.foldl (λm y=>if y>m then y else m) m<=2
 | [],m,_,h=>h
 | e::k,m,h,hm=>by
  rw[zbG];refine AF k _ (λx q=>h x (YH _ q)) ?_;have:=(h e (X8 ..)).2;split <;> lia
theorem AW(h:∀e∈k,0<=e/\e<=2)(q:d<=2):My.rK d k<=2:=by
 cases k with
 | nil=>exact q
 | cons e k=>exact AF k e (λx F=>h x (YH _ F)) (h e (X8 ..)).2
def rP(M:Int)(ts:List My.Tm):D:=.tup ((My.jF M (bN (My.aT ts))).map b6)
theorem iX(h0:0<M)(hn:n=1\/n=2)(W:ts.length<=9)(N:∀t∈ts,OkT n t):d8 [.int M,.int (n:Int),.lst (ts.map b6)]=some (rP M ts):=by
 have vf:=V_form h0 hn W λt G=>(N t G).e
 refine aM ?_;unfold mX;rw[aG (aP (d:=rP M ts) (by simp_all[aD,vf,rP]))];refine iD (items:=ts.map b6) (by simp_all[aD]) (λi ρ=>∃q J F,ρ=[some (.int M),some (.int (n:Int)),some (.lst (ts.map b6)),some (rP M ts),q,J,F]) ⟨none,none,none,rfl⟩ ?_ ?_
 ·rintro i x ρ U ⟨q,J,F,rfl⟩
  rw[YB]at U;obtain⟨t,G,rfl⟩:=map_some U;obtain⟨g1,Y⟩:=N t (YO G);refine⟨[some (.int M),some (.int (n:Int)),some (.lst (ts.map b6)),some (rP M ts),q,some (tupI t.1),some (.int t.2)],?_,_,_,_,rfl⟩;have mx:kA [tupI t.1]=some (.int (My.rK 0 t.1)):=by
   cases hk:t.1 with
   | nil=>rw[hk]at g1;simp[-XG,-XH,aC,aE]at g1;lia
   | cons e k=>exact q_max1
  have ml:=AW Y (d:=0) (by decide);simp_all[-q_max1,turn,b6,mx,show ¬ 2<My.rK 0 t.1 by lia]
 ·rintro ρ ⟨q,J,F,rfl⟩
  simp[-XG,-XH,aC,aE]
def wA(M:Int)(cs:List My.Tm):List My.Tm:=cs.map λt=>(t.1,t.2%M)
theorem xN(M:Int)(k:List Int):∀cs:List My.Tm,My.look (wA M cs) k=(My.look cs k).map (·%M)
 | []=>rfl
 | t::cs=>by
  have ih:=xN M k cs;unfold My.look wA at ih ⊢;rw[XW,ZC,ZC];by_cases h:t.1=k
  ·rw[decide_eq_true h];rfl
  ·rw[decide_eq_false h];exact ih
theorem L5(M:Int)(k:List Int)(c:Int)(cs:List My.Tm):My.put (wA M cs) k (c%M)=wA M (My.put cs k c):=by
 unfold My.put wA;have e:((cs.map λt:My.Tm=>(t.1,t.2%M)).any λt=>decide (t.1=k))=cs.any λt=>decide (t.1=k):=by rw[List.any_map];rfl
 rw[e];by_cases h:(cs.any λt=>decide (t.1=k))=true
 ·rw[if_pos h,if_pos h,ZH,ZH]
  congr 1;funext t;show(if t.1=k then(t.1,c%M)else(t.1,t.2%M))=_;by_cases z:t.1=k
  ·rw[if_pos z];show _=((if t.1=k then(t.1,c)else t).1,(if t.1=k then(t.1,c)else t).2%M);rw[if_pos z]
  ·rw[if_neg z];show _=((if t.1=k then(t.1,c)else t).1,(if t.1=k then(t.1,c)else t).2%M);rw[if_neg z]
 ·rw[if_neg h,if_neg h,zbr];rfl
theorem BH{cs:List My.Tm}(F:(cs.map (·.1)).Nodup):∀(qs:List My.Tm) (o:Option D),(∀q∈qs,q∈cs)->cE (aH 0) (bZ (aQ jW (aQ a6 (aA 1) (aA 0)) (eC (.int 0)))) (c8 (aB (aA 0) (aB (aQ a6 (aA 1) (aA 0)) aJ))) (qs.map λt=>tupI t.1) [o,some (.dT (cs.map kD))]=some ((qs.filter λt=>decide (0<t.2)).map b6)
 | [],o,_=>rfl
 | t::qs,o,h=>by
  have ih:=BH F qs (some (tupI t.1)) λq J=>h q (YH _ J)
  have G:=My.FH F (h t (X8 ..));rw[XW,cE];by_cases e:0<t.2
  ·simp[-XG,-XH,aC,aE,G,e]at ih ⊢
   rw[ih];simp_all[b6]
  ·simp[-XG,-XH,aC,aE,G,e]at ih ⊢
   exact ih
theorem LM{M:Int}{ts:List My.Tm}(h0:0<M)(hl:ts.length<=9)(hk:∀t∈ts,t.1≠[]):kU [.int M,.lst (ts.map b6)]=some (rP M ts):=by
 refine aM ?_;unfold oS;rw[aG (aP (d:=.dT []) (by simp[-XG,-XH,aC,aE]))];refine iD (items:=ts.map b6) (by simp_all[aD]) (λi ρ=>∃U N,ρ=[some (.int M),some (.lst (ts.map b6)),some (.dT ((wA M (My.aT (ts.take i))).map kD)),U,N]) ⟨none,none,rfl⟩ ?_ ?_
 ·rintro i x ρ hx ⟨U,N,rfl⟩
  rw[YB]at hx;obtain⟨t,W,rfl⟩:=map_some hx;have es:My.aT (ts.take (i+1))=My.kZ (My.aT (ts.take i)) t:=by rw[zaD,W];exact My.mK _ _
  have G:(wA M (My.aT (ts.take i))).length<=1000000:=by
   have:=(My.dU (ts.take i)).1;rw[zai]at this;unfold wA;rw[XR]
   lia
  refine⟨[some (.int M),some (.lst (ts.map b6)),some (.dT ((wA M (My.aT (ts.take (i+1)))).map kD)),some (tupI t.1),some (.int t.2)],?_,_,_,rfl⟩;have F:=vN (cs:=wA M (My.aT (ts.take i))) t.1 (((My.look (My.aT (ts.take i)) t.1).getD 0+t.2)%M) G;rw[L5]at F;have J:=xN M t.1 (My.aT (ts.take i));have ea:My.put (My.aT (ts.take i)) t.1 ((My.look (My.aT (ts.take i)) t.1).getD 0+t.2)=My.aT (ts.take (i+1)):=es.symm;rw[ea]at F;cases e:My.look (My.aT (ts.take i)) t.1 with
  | none=>
   rw[e]at J F;simp[-XG,-XH,aC,aE,turn,b6,J,aO h0]at F ⊢;simp_all[F]
  | some v=>
   rw[e]at J F;have e2:(v%M+t.2)%M=(v+t.2)%M:=by rw[Int.add_emod,Int.emod_emod,<- Int.add_emod]
   simp[-XG,-XH,aC,aE,turn,b6,J,aO h0,e2]at F ⊢;simp_all[F]
 ·rintro ρ ⟨U,N,rfl⟩
  rw[XR,za3];have sf:=My.dU ts;have nd:((wA M (My.aT ts)).map (·.1)).Nodup:=by unfold wA;rw[ZH];exact sf.2.1
  have hs:(wA M (My.aT ts)).length<64:=by unfold wA;rw[XR];have:=sf.1;lia
  have Y:∀t∈wA M (My.aT ts),t.1≠[]:=λt W=>by
   obtain⟨u,hu,rfl⟩:=List.mem_map.mp W;obtain⟨w,hw,e⟩:=sf.2.2 u hu;show u.1≠[];rw[<- e];exact hk w hw
  have so:=zG hs Y;have cm:=BH nd (bN (wA M (My.aT ts))) none λq hq=>(c4 _).mem_iff.mp hq
  have ei:bN (wA M (My.aT ts))=(bN (My.aT ts)).map λt=>(t.1,t.2%M):=(eZ (·%M) (My.aT ts)).symm
  have ef:(bN (wA M (My.aT ts))).filter (λt=>decide (0<t.2))=My.jF M (bN (My.aT ts)):=by
   rw[ei];unfold My.jF;rw[List.filter_map];congr 1;refine List.filter_congr λt _=>?_
   show decide (0<t.2%M)=decide (t.2%M≠0);have:=X2 t.2 (show M≠0 by lia);by_cases z:t.2%M=0
   ·rw[z];rfl
   ·rw[decide_eq_true (show 0<t.2%M by lia),decide_eq_true z]
  rw[ef]at cm;have hz:aW (bN (wA M (My.aT ts))).length=true:=decide_eq_true (by rw[mE];lia);simp_all[so,oJ,cm,hz,rP]
def iO(M:Int)(m:Mk):D:=.tup [.str m.nm,tupI m.tk,.int m.gv,rP M m.ts,.int m.p]
def UF(b:Rb):D:=.tup [.int b.M,.tup ((cQ b.c b.m b.n).map .str),.tup ((b.rs.map (red b.M)).map cY),.tup (b.ms.map (iO b.M))]
theorem OkM.ne{many:Int}{n:Nat}{m:Mk}(h:OkM many n m):∀t∈m.ts,t.1≠[]:=λt q z=>by
 have:=(h.tt t q).1;rw[z]at this;rcases h.tk with⟨t,e⟩|⟨t,u,e⟩ <;> rw[e]at this <;> cases this
theorem pM{M:Int}(h0:0<M):∀(rs:List Ro) (o0 o1 o2 o3 o4:Option D),cE (dF 5 (aR (aH 0) (aR (aH 1) (aR (aH 2) (aR (aH 3) (aR (aH 4) eP)))))) z5 (c8 (aB (aA 0) (aB (aA 1) (aB (aQ cJ (aA 2) (aA 5)) (aB (aQ cJ (aA 3) (aA 5)) (aB (aA 4) aJ)))))) (rs.map cY) [o0,o1,o2,o3,o4,some (.int M)]=some ((rs.map (red M)).map cY)
 | [],_,_,_,_,_=>rfl
 | r::rs,_,_,_,_,_=>by
  have ih:=pM h0 rs (some (.int r.j)) (some (.int r.k)) (some (.int r.a)) (some (.int r.b)) (some (.int r.p));rw[XW,cE];simp[-XG,-XH,aC,aE,cY,red,aO h0]at ih ⊢;simp_all[ih]
theorem pQ{M:Int}(h0:0<M):∀(ms:List Mk) (o0 o1 o2 o3 o4:Option D),(∀m∈ms,m.ts.length<=9/\∀t∈m.ts,t.1≠[])->cE (dF 5 (aR (aH 0) (aR (aH 1) (aR (aH 2) (aR (aH 3) (aR (aH 4) eP)))))) z5 (c8 (aB (aA 0) (aB (aA 1) (aB (aA 2) (aB (aI kU (aB (aA 5) (aB (aA 3) aJ))) (aB (aA 4) aJ)))))) (ms.map bY) [o0,o1,o2,o3,o4,some (.int M)]=some (ms.map (iO M))
 | [],_,_,_,_,_,_=>rfl
 | m::ms,_,_,_,_,_,h=>by
  have ih:=pQ h0 ms (some (.str m.nm)) (some (tupI m.tk)) (some (.int m.gv)) (some (.lst (m.ts.map b6))) (some (.int m.p)) λx F=>h x (YH _ F)
  have q:=LM h0 (h m (X8 ..)).1 (h m (X8 ..)).2;rw[XW,cE];simp[-XG,-XH,aC,aE,bY,iO,q]at ih ⊢;simp_all[ih]
theorem RY{b:Rb}(ok:OkB b):mH [oI b]=some (UF b):=by
 have J:0<b.M:=by have:=ok.hM.1;lia
 refine aM ?_;unfold t5;have U:a6 (oI b) (.int 0)=some (.int b.M):=rfl;have i1:a6 (oI b) (.int 1)=some (.lst ((cQ b.c b.m b.n).map .str)):=rfl;have N:a6 (oI b) (.int 2)=some (.lst (b.rs.map cY)):=rfl;have i3:a6 (oI b) (.int 3)=some (.lst (b.ms.map bY)):=rfl;have F:aW b.rs.length=true:=decide_eq_true (by have:=ok.rl;lia);have q:aW b.ms.length=true:=decide_eq_true (by have:=ok.ml;lia);have W:=pM J b.rs none none none none none;have Y:=pQ J b.ms none none none none none λm G=>⟨(ok.mo m G).tl,(ok.mo m G).ne⟩
 rw[aG (aP (d:=.int b.M) (by simp_all[aD,U]))];rw[aG (aP (d:=.tup ((b.rs.map (red b.M)).map cY)) (by simp_all[aD,N,oJ,F];simp_all[W]))];rw[aG (aP (d:=.lst (b.ms.map (iO b.M))) (by simp_all[aD,i3,oJ,q];simp_all[Y]))];simp_all[aD,i1,UF]
theorem oE{κ:Type}[DecidableEq κ](l:List (κ×D))(k j:κ)(e:D):gB (putD l k e) j=if j=k then some e else gB l j:=by
 unfold putD;by_cases h:(l.any λp=>decide (p.1=k))=true
 ·rw[if_pos h]
  unfold gB;by_cases F:j=k
  ·subst F
   rw[if_pos rfl];induction l with
   | nil=>simp[-XG,-XH,aC,aE]at h
   | cons p l ih=>
    rw[XW,ZC];by_cases q:p.1=j
    ·simp_all[q]
    ·have:(l.any λp=>decide (p.1=j))=true:=by simpa[q]using h
     simp_all[q];simpa using ih this
  ·rw[if_neg F]
   clear h;induction l with
   | nil=>rfl
   | cons p l ih=>
    rw[XW,ZC,ZC];by_cases q:p.1=k
    ·have:¬ k=j:=λz=>F z.symm
     simp_all[q,this];simpa using ih
    ·by_cases G:p.1=j
     ·simp_all[q,G,F]
     ·simp_all[q,G]
      simpa using ih
 ·rw[if_neg h]
  unfold gB;rw[List.find?_append];by_cases F:j=k
  ·subst F
   rw[if_pos rfl];have:l.find? (λp=>decide (p.1=j))=none:=by
    rw[List.find?_eq_none];intro p q J;exact h (List.any_eq_true.mpr ⟨p,q,J⟩)
   rw[this];simp[-XG,-XH,aC,aE]
  ·rw[if_neg F]
   cases e2:l.find? (λp=>decide (p.1=j))with
   | some u=>simp[-XG,-XH,aC,aE]
   | none=>simp_all[X5 F]
theorem oB{κ:Type}[DecidableEq κ](l:List (κ×D))(k:κ)(e:D):(putD l k e).length<=l.length+1:=by
 unfold putD;split
 ·rw[XR];lia
 ·rw[Y3];simp[-XG,-XH,aC,aE]
theorem x9(ms:List Mk)(nm:Str)(k i:Nat):cnt (ms.take i) nm k<=cnt ms nm k:=by
 unfold cnt;exact((List.take_sublist i ms).filter _).length_le
theorem sE{M:Int}{ms:List Mk}(hl:ms.length<=16)(mc:∀nm k,cnt ms nm k<=6):fV [.lst (ms.map (iO M))]=some .non:=by
 refine n8 ?_;unfold j9;rw[aG (aP (d:=.dT []) (by simp[-XG,-XH,aC,aE]))];refine zP (items:=ms.map (iO M)) (by simp_all[aD]) (λi ρ=>∃(ys:List (List Key×D)) (o2 o3 Y o5 o6 W:Option D),ρ=[some (.lst (ms.map (iO M))),some (.dT ys),o2,o3,Y,o5,o6,W]/\ys.length<=i/\∀(nm:Str) (k:Nat),(gB ys [.inr nm,.inl (k:Int)]).getD (.int 0)=.int (cnt (ms.take i) nm k:Int)) ⟨[],none,none,none,none,none,none,by simp_all[aD],XU _,λnm k=>rfl⟩ ?_;rintro i x ρ hx ⟨ys,o2,o3,Y,o5,o6,W,rfl,hy,hc⟩;rw[YB]at hx;obtain⟨m,hm,rfl⟩:=map_some hx;have hi:i<ms.length:=(List.getElem?_eq_some_iff.mp hm).1;have hz:aW ys.length=true:=decide_eq_true (by lia);have U:EM (.tup [.str m.nm,.int (m.tk.length:Int)])=some [.inr m.nm,.inl (m.tk.length:Int)]:=rfl;have F:=hc m.nm m.tk.length;have G:∀nm k,cnt (ms.take (i+1)) nm k=cnt (ms.take i) nm k+if isD nm k m=true then 1 else 0:=λnm k=>by
  unfold cnt;rw[zaD,hm,zbZ,Y3];congr 1;show([m].filter (isD nm k)).length=_;by_cases e:isD nm k m=true
  ·rw[if_pos e,List.filter_cons_of_pos e];rfl
  ·rw[if_neg e,List.filter_cons_of_neg e];rfl
 have q:isD m.nm m.tk.length m=true:=by unfold isD;rw[decide_eq_true rfl,decide_eq_true rfl];rfl
 have J:cnt (ms.take (i+1)) m.nm m.tk.length<=6:=Y0 (x9 ..) (mc ..);rw[G,if_pos q]at J;have lk:eQ (.dT ys) (.tup [.str m.nm,.int (m.tk.length:Int)])=some (gB ys [.inr m.nm,.inl (m.tk.length:Int)]):=by
  show(EM (.tup [.str m.nm,.int (m.tk.length:Int)])).map _=_;rw[U];rfl
 generalize hcc:cnt (ms.take i) m.nm m.tk.length=c at F J;have pt:k6 (.dT ys) (.tup [.str m.nm,.int (m.tk.length:Int)]) (.int ((c:Int)+1))=some (.dT (putD ys [.inr m.nm,.inl (m.tk.length:Int)] (.int ((c:Int)+1)))):=by
  unfold _root_.P.k6;dsimp only;rw[U,aC,if_pos hz]
 have N:eQ (.dT (putD ys [.inr m.nm,.inl (m.tk.length:Int)] (.int ((c:Int)+1)))) (.tup [.str m.nm,.int (m.tk.length:Int)])=some (some (.int ((c:Int)+1))):=by
  show(EM (.tup [.str m.nm,.int (m.tk.length:Int)])).map _=_;rw[U,aE,oE,if_pos rfl]
 refine⟨[some (.lst (ms.map (iO M))),some (.dT (putD ys [.inr m.nm,.inl (m.tk.length:Int)] (.int ((c:Int)+1)))),some (.str m.nm),some (tupI m.tk),some (.int m.gv),some (rP M m.ts),some (.int m.p),some (.tup [.str m.nm,.int (m.tk.length:Int)])],?_,_,_,_,_,_,_,_,rfl,Y0 (oB _ _ _) (by lia),λnm k=>?_⟩
 ·have n6:¬ (6:Int)<(c:Int)+1:=by lia
  simp_all[turn,iO,tupI,lk,F,pt,N,n6]
 ·rw[oE,G]
  by_cases e:nm=m.nm/\k=m.tk.length
  ·obtain⟨rfl,rfl⟩:=e
   rw[if_pos rfl,if_pos q,hcc];rfl
  ·have e1:¬ ([.inr nm,.inl (k:Int)]:List Key)=[.inr m.nm,.inl (m.tk.length:Int)]:=λz=>by
    injection z with z1 z2
    injection z2 with z2 _
    injection z1 with z1
    injection z2 with z2
    exact e ⟨z1,by lia⟩
   have e2:¬ isD nm k m=true:=λz=>by
    unfold isD at z;have z:m.nm=nm/\m.tk.length=k:=by simpa using z
    exact e ⟨z.1.symm,z.2.symm⟩
   rw[if_neg e1,if_neg e2,hc];rfl
theorem eU(ok:OkM (n:Int) 9 m):cV [.int (n:Int),.str m.nm,tupI m.tk,.int m.gv,.int m.p]=some .non:=by
 have G:=jO (x:=m.nm) (by have:=ok.nl;lia);rw[ok.nm]at G;have U:=pL ok.pr.1 ok.pr.2;have hz:aW (m.tk.length+1)=true:=by rcases ok.tk with⟨t,e⟩|⟨t,u,e⟩ <;> rw[e] <;> rfl
 have q:(m.tk.length:Int)=1\/(m.tk.length:Int)=2:=by rcases ok.tk with⟨t,e⟩|⟨t,u,e⟩ <;> rw[e] <;> simp[-XG,-XH,aC,aE]
 refine n8 ?_;unfold lA;rw[aG (ρ':=aD 6 [.int (n:Int),.str m.nm,tupI m.tk,.int m.gv,.int m.p]) (by simp_all[aD,G])];rw[aG (ρ':=aD 6 [.int (n:Int),.str m.nm,tupI m.tk,.int m.gv,.int m.p]) (by rcases q with e|e <;> simp_all[aD,tupI,e])];have N:dE (aQ a8 (aI fO (aB (aA 2) aJ)) (mU (aB (aA 3) aJ))) (aD 6 [.int (n:Int),.str m.nm,tupI m.tk,.int m.gv,.int m.p])=some ((m.tk++[m.gv]).map .int):=by simp_all[aD,tupI,fO,hz]
 refine DJ (items:=(m.tk++[m.gv]).map .int) N (λi ρ=>∃o,ρ=[some (.int (n:Int)),some (.str m.nm),some (tupI m.tk),some (.int m.gv),some (.int m.p),o]) ⟨none,rfl⟩ ?_ ?_
 ·rintro i x ρ F ⟨o,rfl⟩
  rw[YB]at F;obtain⟨e,J,rfl⟩:=map_some F;have b:0<=e/\e<(n:Int):=D9 (P:=λe=>0<=e/\e<(n:Int)) ok.tb ok.gv e (YO J);exact⟨[some (.int (n:Int)),some (.str m.nm),some (tupI m.tk),some (.int m.gv),some (.int m.p),some (.int e)],by simp_all[turn,bV,b.1,b.2],_,rfl⟩
 ·rintro ρ ⟨o,rfl⟩
  exact⟨[some (.int (n:Int)),some (.str m.nm),some (tupI m.tk),some (.int m.gv),some (.int m.p),o],by simp_all[U]⟩
theorem yS{M:Int}{n:Nat}{ms:List Mk}(h3:3<=M)(hl:ms.length<=16)(mc:∀nm k,cnt ms nm k<=6)(ho:∀m∈ms,OkM (n:Int) 9 m):kN [.int M,.int (n:Int),.lst (ms.map bY)]=some (.tup (ms.map (iO M))):=by
 have Mp:0<M:=by lia
 have b:(ms.length:Int)<=16:=by lia
 refine aM ?_;unfold pN;rw[aG (ρ':=aD 9 [.int M,.int (n:Int),.lst (ms.map bY)]) (by simp_all[aD,b])];rw[aG (aP (d:=.lst []) (by simp[-XG,-XH,aC,aE]))];refine iD (items:=ms.map bY) (by simp_all[aD]) (λi ρ=>∃N W F G U,ρ=[some (.int M),some (.int (n:Int)),some (.lst (ms.map bY)),some (.lst ((ms.take i).map (iO M))),N,W,F,G,U]) ⟨none,none,none,none,none,by simp_all[aD]⟩ ?_ ?_
 ·rintro i x ρ Y ⟨N,W,F,G,U,rfl⟩
  rw[YB]at Y;obtain⟨m,J,rfl⟩:=map_some Y;have ok:=ho m (YO J);have hi:i<ms.length:=(List.getElem?_eq_some_iff.mp J).1;have q:aW (min i ms.length)=true:=decide_eq_true (by lia);have vc:=eU ok;have vf:=iX (M:=M) (n:=m.tk.length) (ts:=m.ts) Mp (by rcases ok.tk with⟨t,e⟩|⟨t,u,e⟩ <;> rw[e] <;> simp[-XG,-XH,aC,aE]) ok.tl ok.tt;refine⟨[some (.int M),some (.int (n:Int)),some (.lst (ms.map bY)),some (.lst ((ms.take (i+1)).map (iO M))),some (.str m.nm),some (tupI m.tk),some (.int m.gv),some (.lst (m.ts.map b6)),some (.int m.p)],?_,_,_,_,_,_,rfl⟩;rw[zaD,J];simp only[tupI]at vc;simp_all[turn,bY,iO,tupI,vc,vf,q,cT]
 ·rintro ρ ⟨N,W,F,G,U,rfl⟩
  rw[XR,za3];simp_all[cT,sE hl mc]
theorem cH(c m:Int)(n:Nat):(cQ c m n).length=n:=by unfold cQ;simp[-XG,-XH,aC,aE]
theorem j8(h1:1<=n)(h6:n<=6):d6 [.lst ((cQ c m n).map .str)]=some .non:=by
 refine n8 ?_;unfold j3;have a:¬ (n:Int)<1:=by lia
 have b:¬ 6<(n:Int):=by lia
 rw[aG (ρ':=aD 3 [.lst ((cQ c m n).map .str)]) (by simp_all[aD,cH,a,b])];refine zP (items:=fQ 0 ((cQ c m n).map .str)) (by simp_all[aD]) (λi ρ=>∃U G,ρ=[some (.lst ((cQ c m n).map .str)),U,G]) ⟨none,none,rfl⟩ ?_;rintro i x ρ hx ⟨U,G,rfl⟩;obtain⟨y,F,rfl⟩:=jP hx;have hi:i<n:=by have:=(List.getElem?_eq_some_iff.mp F).1;rw[XR,cH]at this;exact this
 have ey:y=.str (wN c m (i:Int)):=by
  unfold cQ at F;rw[YB,YB,zbR hi]at F;exact(YJ F).symm
 subst ey;have J:=jO (x:=wN c m (i:Int)) (by have:=(uI c m (i:Int)).2;lia);rw[(uI c m (i:Int)).1]at J;have ct:=(iF (w:=(cQ c m n).map D.str) (c:=(i:Int)) (by lia) (by rw[XR,cH];lia)).1;have tk:((cQ c m n).map D.str).take i=(cQ c m i).map D.str:=by
  unfold cQ;rw[<- zaO,<- zaO,List.take_range,zbw (by lia)]
 have Y:(cQ c m i).contains (wN c m (i:Int))=false:=by
  rw[<- ZV,zbW];intro W;obtain⟨k,N,e⟩:=List.mem_map.mp W;have N:=List.mem_range.mp N;have:=qN (c:=c) (m:=m) (k:=(k:Int)) (j:=(i:Int)) (by lia) (by lia) (by lia) (by lia) e
  lia
 have q:=B2 (wN c m (i:Int)) (cQ c m i);rw[Y]at q;rw[zbt];refine⟨[some (.lst ((cQ c m n).map .str)),some (.int (i:Int)),some (.str (wN c m (i:Int)))],?_,_,_,rfl⟩;simp_all[turn,J,ct,tk,q]
theorem OV{b:Rb}(ok:OkB b):mM [.int b.M,.lst ((cQ b.c b.m b.n).map .str),.lst (b.rs.map cY),.lst (b.ms.map bY)]=some (UF b):=by
 have G:=AY ok.hM.1 ok.hM.2.1 ok.hM.2.2;have J:=j8 (c:=b.c) (m:=b.m) ok.hn.1 ok.hn.2;have q:=oR (n:=b.n) ok.hM.1 ok.rl ok.ro;have F:=yS (n:=b.n) ok.hM.1 ok.ml ok.mc ok.mo;refine aM ?_;simp[-XG,-XH,aC,aE,IK,aD,G,J,q,F,cH,cT,UF]at q ⊢
noncomputable def eqP:Nat->D->Prop
 | _,.int _=>True
 | _,.str _=>True
 | n+1,.tup l=>∀d∈l,eqP n d
 | n+1,.lst l=>∀d∈l,eqP n d
 | _,_=>False
theorem TC:∀(n:Nat) (d:D),eqP n d->∃x,jL d=some x/\x.nb=true/\x.dep<=n:=by
 intro n;induction n with
 | zero=>
  intro d h;cases d with
  | int i=>exact⟨.int i,rfl,rfl,XU _⟩
  | str s=>exact⟨.str s,rfl,rfl,XU _⟩
  | _=>exact h.elim
 | succ n ih=>
  have lst:∀l:List D,(∀d∈l,eqP n d)->∃xs,k4 l=some xs/\My.JE xs=true/\My.v8 xs<=n:=by
   intro l;induction l with
   | nil=>intro _;exact⟨[],rfl,rfl,YY _⟩
   | cons d l il=>
    intro h;obtain⟨x,q,F,G⟩:=ih d (h d (X8 ..));obtain⟨xs,J,N,d2⟩:=il λz hz=>h z (YH _ hz)
    refine⟨x::xs,by rw[k4,q,J];rfl,by rw[My.JE,F,N];rfl,by rw[My.v8];lia⟩
  intro d h;cases d with
  | int i=>exact⟨.int i,rfl,rfl,YY _⟩
  | str s=>exact⟨.str s,rfl,rfl,YY _⟩
  | tup l=>
   obtain⟨xs,q,F,G⟩:=lst l h;exact⟨.tup xs,by rw[jL,q];rfl,by rw[My.Dx.nb];exact F,by rw[My.Dx.dep];lia⟩
  | lst l=>
   obtain⟨xs,q,F,G⟩:=lst l h;exact⟨.lst xs,by rw[jL,q];rfl,by rw[My.Dx.nb];exact F,by rw[My.Dx.dep];lia⟩
  | _=>exact h.elim
theorem IB{n:Nat}{d:D}(h:eqP n d)(q:n<=60):jT d=true:=by
 obtain⟨x,e,a,b⟩:=TC n d h;unfold jT;rw[e];show(x.nb && decide (x.dep<=60))=true;rw[a,decide_eq_true (by lia)];rfl
open Classical in
theorem U0{n:Nat}{d e:D}(F:eqP n d)(J:eqP n e)(q:n<=60)(G:EE d=true)(N:EE e=true):EN d e=some (decide (d=e)):=by
 unfold EN;rw[if_pos (.inr ⟨G,N,IB F q,IB J q⟩)]
theorem vC{n:Nat}{d:D}(q:eqP n d)(G:n<=60)(F:EE d=true):yK d d=some (.bl false):=by
 unfold yK;rw[U0 q q G F F];simp[-XG,-XH,aC,aE]
noncomputable def RC:Nat->D->Prop
 | _,.int _=>True
 | _,.str _=>True
 | n+1,.tup l=>l.length<=1000/\∀d∈l,RC n d
 | _,_=>False
theorem wZ{i:Int}:nJ [.int i]=some (.bl true):=by
 refine aM ?_;simp_all[nM,aD]
theorem EZ:∀(n:Nat) (d:D),RC n d->z0 3 bK (n+1) [d,d]=some (.bl true):=by
 intro n;induction n with
 | zero=>
  intro d h;show bT 3 (bK (z0 3 bK _)) [d,d]=_;cases d with
  | int i=>
   refine aM ?_;simp_all[bK,aD,mT,wZ]
  | str s=>
   refine aM ?_;simp_all[bK,aD,mT]
  | _=>exact h.elim
 | succ n ih=>
  intro d h;show bT 3 (bK (z0 3 bK (n+1))) [d,d]=_;generalize z0 3 bK (n+1)=R at ih ⊢;cases d with
  | int i=>
   refine aM ?_;simp_all[bK,aD,mT,wZ]
  | str s=>
   refine aM ?_;simp_all[bK,aD,mT]
  | tup l=>
   obtain⟨hl,U⟩:=h;have Y:=jN (n:=l.length) (by lia);refine aM ?_;unfold bK;refine zV ?_;have ei:∀F G:Sv,eR (bZ (z8 "tuple" (aA 1))) F G (aD 3 [.tup l,.tup l])=F (aD 3 [.tup l,.tup l]):=λF G=>by simp_all[aD,mT]
   refine(ei _ _).trans ?_;rw[aG (ρ':=aD 3 [.tup l,.tup l]) (by simp_all[aD,mT])];refine iD (items:=bS 0 1 l.length) (by simp_all[aD,Y]) (λi ρ=>∃o,ρ=[some (.tup l),some (.tup l),o]) ⟨none,rfl⟩ ?_ ?_
   ·rintro i x ρ W ⟨o,rfl⟩
    obtain⟨q,rfl⟩:=cR W;have N:(0:Int)+(i:Int)*1=(i:Int):=by lia
    rw[N];have ea:fS l (i:Int)=some l[i]:=lV (by simp_all[q]);have J:=ih l[i] (U _ (zbQ q));exact⟨[some (.tup l),some (.tup l),some (.int (i:Int))],by simp_all[turn,ea,J],_,rfl⟩
   ·rintro ρ ⟨o,rfl⟩
    simp[-XG,-XH,aC,aE]
  | _=>exact h.elim
theorem EY{l:List Str}{d:D}(h:d∈l.map D.str):∃s,d=.str s:=by
 obtain⟨s,_,rfl⟩:=List.mem_map.mp h;exact⟨s,rfl⟩
theorem BI(n:Nat)(l:List Int)(h:l.length<=1000):RC (n+1) (tupI l):=by
 refine⟨by rw[XR];exact h,λd q=>?_⟩;obtain⟨i,_,rfl⟩:=List.mem_map.mp q;cases n <;> trivial
theorem N7{b:Rb}(ok:OkB b):RC 6 (UF b):=by
 refine⟨by simp[-XG,-XH,aC,aE],λd F=>?_⟩;simp only[Y7,Y8,or_false]at F;rcases F with rfl|rfl|rfl|rfl
 ·trivial
 ·refine⟨by rw[XR,cH];have:=ok.hn.2;lia,λd F=>?_⟩
  obtain⟨s,rfl⟩:=EY F;trivial
 ·refine⟨by rw[XR,XR];have:=ok.rl;lia,λd F=>?_⟩
  obtain⟨r,_,rfl⟩:=List.mem_map.mp F;refine⟨by simp[-XG,-XH,aC,aE],λd F=>?_⟩;simp only[Y7,Y8,or_false]at F;rcases F with rfl|rfl|rfl|rfl|rfl <;> trivial
 ·refine⟨by rw[XR];have:=ok.ml;lia,λd F=>?_⟩
  obtain⟨m,N,rfl⟩:=List.mem_map.mp F;have G:=ok.mo m N;refine⟨by simp[-XG,-XH,aC,aE],λd F=>?_⟩;simp only[Y7,Y8,or_false]at F;rcases F with rfl|rfl|rfl|rfl|rfl
  ·trivial
  ·exact BI 2 m.tk (by rcases G.tk with⟨t,e⟩|⟨t,u,e⟩ <;> rw[e] <;> simp[-XG,-XH,aC,aE])
  ·trivial
  ·have W:=My.dU m.ts
   have fl:(My.jF b.M (bN (My.aT m.ts))).length<=9:=by
    unfold My.jF;rw[XR];refine Y0 (List.length_filter_le _ _) ?_;rw[mE];have:=G.tl
    lia
   refine⟨by rw[XR];lia,λd F=>?_⟩;obtain⟨t,U,rfl⟩:=List.mem_map.mp F;obtain⟨q,J,rfl⟩:=List.mem_map.mp U;have J:=(c4 _).mem_iff.mp (List.mem_filter.mp J).1;obtain⟨u,Y,e⟩:=W.2.2 q J;have l:=(G.tt u Y).1;have tl:m.tk.length<=2:=by rcases G.tk with⟨t,e⟩|⟨t,u,e⟩ <;> rw[e] <;> simp[-XG,-XH,aC,aE]
   refine⟨by simp[-XG,-XH,aC,aE],λd F=>?_⟩;simp only[Y7,Y8,or_false]at F;rcases F with rfl|rfl
   ·exact BI 0 q.1 (by rw[<- e];lia)
   ·trivial
  ·trivial
theorem JS{n:Nat}{d:D}(G:n<=9)(h:RC n d):iT [d,d]=some (.bl true):=by
 have F:∀(k n:Nat) (d:D),RC n d->RC (n+k) d:=by
  intro k n;induction n generalizing k with
  | zero=>
   intro d h;cases d with
   | int i=>cases k <;> trivial
   | str s=>cases k <;> trivial
   | _=>exact h.elim
  | succ n ih=>
   intro d h;rw[show n+1+k=n+k+1 by lia];cases d with
   | int i=>trivial
   | str s=>trivial
   | tup l=>exact⟨h.1,λd q=>ih k d (h.2 d q)⟩
   | _=>exact h.elim
 exact EZ 9 d (by have:=F (9-n) n d h;rwa [show n+(9-n)=9 by lia]at this)
theorem bG{g1 q:Xv}{f:Sv}{ρ ρ':cL}(h1:g1 ρ=none)(h2:f ρ=some (.nx ρ')):dZ g1 f q ρ=q ρ':=by unfold dZ;rw[h1,h2];rfl
theorem dW{g1 q:Xv}{f:Sv}{ρ:cL}{x:Str}(h:g1 ρ=some x):dZ g1 f q ρ=some x:=by unfold dZ;rw[h];rfl
theorem iH{c:Bv}{f:Xv}{ρ:cL}(h:c ρ=some false):mW c f fT ρ=none:=by unfold mW;rw[h];rfl
theorem jI{c:Bv}{g:Xv}{x:Str}{ρ:cL}(h:c ρ=some true):mW c (oH x) g ρ=some x:=by unfold mW;rw[h];rfl
theorem xc{f:Lv}{G:List D->Option Str}{ρ:cL}{ds:List D}(h:f ρ=some ds):eE G f ρ=G ds:=by unfold eE;rw[h];rfl
theorem vA{g:Gv}{b:Sv}{gx:Xv}{c:Str}(I:Nat->cL->Prop)(F:Nat->Prop):∀(xs:List D) (i:Nat) (ρ:cL),I i ρ->(∀j x ρ,xs[j]?=some x->I (i+j) ρ->∃ρ1,g x ρ=some ρ1/\((F (i+j)/\gx ρ1=some c)\/(¬ F (i+j)/\gx ρ1=none/\∃ρ2,b ρ1=some (.nx ρ2)/\I (i+j+1) ρ2)))->
  ((∃j,i<=j/\j<i+xs.length/\F j)->mS g b gx xs ρ=some c)/\((∀j,i<=j->j<i+xs.length->¬ F j)->mS g b gx xs ρ=none)
 | [],_,_,_,_=>⟨λ⟨j,h1,h2,_⟩=>absurd h2 (by rw[zbb];lia),λ_=>rfl⟩
 | x::xs,i,ρ,h,k=>by
  obtain⟨ρ1,e1,q⟩:=k 0 x ρ rfl h;have st:mS g b gx (x::xs) ρ=((gx ρ1).map some).getD ((b ρ1).bind λo=>match o with
   | .nx ρ2=>mS g b gx xs ρ2
   | .ct ρ2=>mS g b gx xs ρ2
   | _=>none):=by
   show(g x ρ).bind _=_;rw[e1];rfl
  rw[st];rcases q with⟨J,G⟩|⟨J,G,ρ2,e3,h2⟩
  ·rw[G]
   exact⟨λ_=>rfl,λz=>absurd J (z i (XU _) (by rw[Y4];lia))⟩
  ·rw[G,e3]
   obtain⟨q1,q2⟩:=vA I F xs (i+1) ρ2 h2 λj x ρ hj hI=>by
    have:=k (j+1) x ρ hj (by rw[show i+(j+1)=i+1+j by lia];exact hI);rw[show i+(j+1)=i+1+j by lia]at this;exact this
   refine⟨λ⟨j,Y,N,W⟩=>q1 ⟨j,?_,by rw[Y4]at N;lia,W⟩,λz=>q2 λj Y N=>z j (by lia) (by rw[Y4];lia)⟩;rcases Nat.lt_or_ge i j with U|U
   ·exact U
   ·exact absurd W (by rw[show j=i by lia];exact J)
theorem b7{f:Lv}{g:Gv}{b:Sv}{gx:Xv}{ρ:cL}{items:List D}{o:Option Str}(h:f ρ=some items)(e:mS g b gx items ρ=o):rL f g b gx ρ=o:=by unfold rL;rw[h];exact e
theorem rG{G:Type}{g:Gv}{b:Sv}{gx:Xv}{c:Str}(F:G->D)(I:Nat->cL->Prop)(B:Nat->G->Prop)(l:List G)(ρ:cL)(h:I 0 ρ)(k:∀j a ρ,l[j]?=some a->I j ρ->∃ρ1,g (F a) ρ=some ρ1/\((B j a/\gx ρ1=some c)\/(¬ B j a/\gx ρ1=none/\∃ρ2,b ρ1=some (.nx ρ2)/\I (j+1) ρ2))) :
  ((∃j a,l[j]?=some a/\B j a)->mS g b gx (l.map F) ρ=some c)/\((∀j a,l[j]?=some a->¬ B j a)->mS g b gx (l.map F) ρ=none):=by
 obtain⟨U,W⟩:=vA (g:=g) (b:=b) (gx:=gx) (c:=c) I (λj=>∃a,l[j]?=some a/\B j a) (l.map F) 0 ρ h λj x ρ N J=>by
  rw[zbt]at J ⊢;rw[YB]at N;obtain⟨a,q,rfl⟩:=map_some N;obtain⟨ρ1,e,r⟩:=k j a ρ q J;refine⟨ρ1,e,r.imp (λ⟨u,v⟩=>⟨⟨a,q,u⟩,v⟩) λ⟨u,v⟩=>⟨λ⟨Y,h1,h2⟩=>?_,v⟩⟩;rw[q]at h1;cases h1;exact u h2
 refine⟨λ⟨j,a,h1,h2⟩=>U ⟨j,YY _,?_,a,h1,h2⟩,λz=>W λj _ _ ⟨a,h1,h2⟩=>z j a h1 h2⟩;rw[XR,zbt];exact(List.getElem?_eq_some_iff.mp h1).1
theorem zE{M:Int}(G:3<=M)(q:M<10^60)(F:M%2=1):iC [.int M]=none:=by
 have pw:iL (.int 10) (.int 60)=some (.int (10^60)):=fR (by decide) (by decide) (by decide +kernel);have a:¬ M<3:=by lia
 have b:¬ 10^60<M:=by lia
 simp only[zas]at pw b;simp_all[iC,gC,nZ,dZ,mW,oH,fT,aD,hJ,a,pw,b,aO,F]
theorem y9{M:Int}(q:M<10^60)(G:M<3\/M%2=0):iC [.int M]=some "NoWheel" := by
 have pw:iL (.int 10) (.int 60)=some (.int (10^60)):=fR (by decide) (by decide) (by decide +kernel);have b:¬ 10^60<M:=by lia
 simp only[zas]at pw b;by_cases a:M<3
 ·simp_all[iC,gC,nZ,dZ,mW,oH,fT,aD,hJ,a,pw,b,aO]
 ·have F:M%2=0:=by lia
  simp_all[iC,gC,nZ,dZ,mW,oH,fT,aD,hJ,a,pw,b,aO,F]
theorem T4{n:Nat}{k:List Int}:((k.length=n/\∀e∈k,0<=e/\e<=8)->bP [.int (n:Int),tupI k]=none)/\(¬ (k.length=n/\∀e∈k,0<=e/\e<=8)->bP [.int (n:Int),tupI k]=some "NoForm"):=by
 by_cases h:k.length=n
 ·have st:∀o,rL (dE (aA 1)) (aH 2) (eR (EH (bZ (aQ k7 (aA 2) (eC (.int 0)))) (bZ (aQ jW (aA 2) (eC (.int 8))))) eI gF) (mW (EH (bZ (aQ k7 (aA 2) (eC (.int 0)))) (bZ (aQ jW (aA 2) (eC (.int 8))))) (oH "NoForm") fT) (aD 3 [.int (n:Int),tupI k])=o->bP [.int (n:Int),tupI k]=o:=λo e=>
   (bG (iH (by simp_all[aD,tupI,h])) (by simp_all[aD,tupI,h])).trans e
  obtain⟨G,N⟩:=rG (g:=aH 2) (b:=eR (EH (bZ (aQ k7 (aA 2) (eC (.int 0)))) (bZ (aQ jW (aA 2) (eC (.int 8))))) eI gF) (gx:=mW (EH (bZ (aQ k7 (aA 2) (eC (.int 0)))) (bZ (aQ jW (aA 2) (eC (.int 8))))) (oH "NoForm") fT) (c := "NoForm") D.int (λ_ ρ=>∃o,ρ=[some (.int (n:Int)),some (tupI k),o]) (λ_ e=>¬ (0<=e/\e<=8)) k (aD 3 [.int (n:Int),tupI k]) ⟨none,rfl⟩ (by
   rintro j e ρ q ⟨o,rfl⟩;refine⟨[some (.int (n:Int)),some (tupI k),some (.int e)],rfl,?_⟩;by_cases a:e<0
   ·exact .inl ⟨by lia,jI (by simp_all[a])⟩
   ·by_cases b:8<e
    ·exact .inl ⟨by lia,jI (by simp_all[a,b])⟩
    ·exact .inr ⟨by lia,iH (by simp_all[a,b]),_,by simp_all[a,b];rfl,_,rfl⟩)
  refine⟨λz=>st _ (b7 (items:=k.map .int) (by simp_all[aD,tupI]) (N λj e q F=>F (z.2 e (YO q)))),λz=>st _ (b7 (items:=k.map .int) (by simp_all[aD,tupI]) (G ?_))⟩;have:∃e∈k,¬ (0<=e/\e<=8):=by
   refine zaq λw=>z ⟨h,λe q=>zaq λv=>w ⟨e,q,v⟩⟩
  obtain⟨e,q,F⟩:=this;obtain⟨j,J⟩:=List.mem_iff_getElem?.mp q;exact⟨j,e,J,F⟩
 ·have:¬ (k.length:Int)=(n:Int):=by lia
  exact⟨λz=>absurd z.1 h,λ_=>dW (jI (by simp_all[aD,tupI,this]))⟩
theorem lW{F:Type}{l:List F}{p:F->Prop}(h:¬ ∀a∈l,p a):∃(j:Nat) (a:F),l[j]?=some a/\¬ p a:=by
 have:∃a∈l,¬ p a:=zaq λw=>h λa q=>zaq λv=>w ⟨a,q,v⟩
 obtain⟨a,q,G⟩:=this;obtain⟨j,J⟩:=List.mem_iff_getElem?.mp q;exact⟨j,a,J,G⟩
theorem tK{M:Int}{n:Nat}{ts:List My.Tm}(U:n=1\/n=2)(hl:ts.length<=9):((∀t∈ts,RE n t)->vS [.int M,.int (n:Int),.lst (ts.map b6)]=none)/\(¬ (∀t∈ts,RE n t)->vS [.int M,.int (n:Int),.lst (ts.map b6)]=some "NoForm"):=by
 have st:∀o,rL (dE (aA 2)) (dF 2 (aR (aH 4) (aR (aH 5) eP))) (bE (l6 (aI b4 (aB (aA 1) (aB (aA 4) aJ)))) (jH 3 (aA 4) (aQ a8 (l8 (aA 3) (aA 4) (eC (.int 0))) (aA 5)))) (eE bP λρ=>aB (aA 1) (aB (aA 4) aJ) ρ) [some (.int M),some (.int (n:Int)),some (.lst (ts.map b6)),some (.dT []),none,none]=o->vS [.int M,.int (n:Int),.lst (ts.map b6)]=o:=λo e=>
  (bG (ρ':=aD 6 [.int M,.int (n:Int),.lst (ts.map b6)]) (iH (by rcases U with rfl|rfl <;> simp_all[aD])) (by rcases U with rfl|rfl <;> simp_all[aD])).trans ((bG (ρ':=[some (.int M),some (.int (n:Int)),some (.lst (ts.map b6)),some (.dT []),none,none]) rfl (by simp_all[aD])).trans e)
 obtain⟨Y,q2⟩:=rG (g:=dF 2 (aR (aH 4) (aR (aH 5) eP))) (b:=bE (l6 (aI b4 (aB (aA 1) (aB (aA 4) aJ)))) (jH 3 (aA 4) (aQ a8 (l8 (aA 3) (aA 4) (eC (.int 0))) (aA 5)))) (gx:=eE bP λρ=>aB (aA 1) (aB (aA 4) aJ) ρ) (c := "NoForm") b6 (λi ρ=>∃J W,ρ=[some (.int M),some (.int (n:Int)),some (.lst (ts.map b6)),some (.dT ((My.aT (ts.take i)).map kD)),J,W]) (λ_ t=>¬ RE n t) ts [some (.int M),some (.int (n:Int)),some (.lst (ts.map b6)),some (.dT []),none,none] ⟨none,none,rfl⟩ (by
  rintro i t ρ G ⟨J,W,rfl⟩;refine⟨[some (.int M),some (.int (n:Int)),some (.lst (ts.map b6)),some (.dT ((My.aT (ts.take i)).map kD)),some (tupI t.1),some (.int t.2)],by simp_all[b6],?_⟩;by_cases g:RE n t
  ·refine .inr ⟨λz=>z g,(xc (ds:=[.int (n:Int),tupI t.1]) (by simp[-XG,-XH,aC,aE])).trans (T4.1 g),[some (.int M),some (.int (n:Int)),some (.lst (ts.map b6)),some (.dT ((My.aT (ts.take (i+1))).map kD)),some (tupI t.1),some (.int t.2)],?_,_,_,rfl⟩
   have es:My.aT (ts.take (i+1))=My.kZ (My.aT (ts.take i)) t:=by rw[zaD,G];exact My.mK _ _
   have q:(My.aT (ts.take i)).length<=1000000:=by
    have:=(My.dU (ts.take i)).1;rw[zai]at this
    lia
   have N:=fG g.1 g.2;have F:=vN (cs:=My.aT (ts.take i)) t.1 ((My.look (My.aT (ts.take i)) t.1).getD 0+t.2) q;cases e:My.look (My.aT (ts.take i)) t.1 with
   | none=>simp[-XG,-XH,aC,aE,N,e,es,My.kZ]at F ⊢;simp_all[F]
   | some v=>simp[-XG,-XH,aC,aE,N,e,es,My.kZ]at F ⊢;simp_all[F]
  ·exact .inl ⟨g,(xc (ds:=[.int (n:Int),tupI t.1]) (by simp[-XG,-XH,aC,aE])).trans (T4.2 g)⟩)
 exact⟨λz=>st _ (b7 (items:=ts.map b6) (by simp[-XG,-XH,aC,aE]) (q2 λj t G hb=>hb (z t (YO G)))),λz=>st _ (b7 (items:=ts.map b6) (by simp[-XG,-XH,aC,aE]) (Y (lW z)))⟩
theorem u4:∀(k:List Int) (m e:Int),(e<=m\/e∈k)->e<=k.foldl (λm y=>if y>m then y else m) m
 | [],m,e,h=>h.elim id λz=>nomatch z
 | x::k,m,e,h=>by
  rw[zbG];refine u4 k _ e ?_;rcases h with h|h
  ·left;split <;> lia
  ·rcases List.mem_cons.mp h with rfl|h
   ·left;split <;> lia
   ·exact .inr h
theorem JV{k:List Int}{e:Int}(h:e∈k):e<=My.rK 0 k:=by
 cases k with
 | nil=>exact nomatch h
 | cons x k=>
  rcases List.mem_cons.mp h with rfl|h
  ·exact u4 k _ _ (.inl (Int.le_refl _))
  ·exact u4 k _ _ (.inr h)
theorem iP{M:Int}{n:Nat}{ts:List My.Tm}(h0:0<M)(N:n=1\/n=2)(G:ts.length<=9):((∀t∈ts,OkT n t)->eA [.int M,.int (n:Int),.lst (ts.map b6)]=none)/\(¬ (∀t∈ts,OkT n t)->eA [.int M,.int (n:Int),.lst (ts.map b6)]=some "NoMake"):=by
 by_cases F:∀t∈ts,RE n t
 ·have U:=(tK (M:=M) N G).1 F
  have vf:=V_form h0 N G F;have st:∀o,rL (dE (aA 2)) (dF 2 (aR (aH 5) (aR (aH 6) eP))) (eR (bZ (aQ jW (aI kA (aB (aA 5) aJ)) (eC (.int 2)))) eI gF) (mW (bZ (aQ jW (aI kA (aB (aA 5) aJ)) (eC (.int 2)))) (oH "NoMake") fT) [some (.int M),some (.int (n:Int)),some (.lst (ts.map b6)),some (rP M ts),none,none,none]=o->eA [.int M,.int (n:Int),.lst (ts.map b6)]=o:=λo e=>
   (bG (ρ':=[some (.int M),some (.int (n:Int)),some (.lst (ts.map b6)),some (rP M ts),none,none,none]) (by unfold IN;simp_all[aD,U]) (by simp_all[aD,vf,rP])).trans e
  obtain⟨q1,q2⟩:=rG (g:=dF 2 (aR (aH 5) (aR (aH 6) eP))) (b:=eR (bZ (aQ jW (aI kA (aB (aA 5) aJ)) (eC (.int 2)))) eI gF) (gx:=mW (bZ (aQ jW (aI kA (aB (aA 5) aJ)) (eC (.int 2)))) (oH "NoMake") fT) (c := "NoMake") b6 (λi ρ=>∃o5 W,ρ=[some (.int M),some (.int (n:Int)),some (.lst (ts.map b6)),some (rP M ts),none,o5,W]) (λ_ t=>2<My.rK 0 t.1) ts [some (.int M),some (.int (n:Int)),some (.lst (ts.map b6)),some (rP M ts),none,none,none] ⟨none,none,rfl⟩ (by
   rintro i t ρ q ⟨o5,W,rfl⟩;have g:=F t (YO q);refine⟨[some (.int M),some (.int (n:Int)),some (.lst (ts.map b6)),some (rP M ts),none,some (tupI t.1),some (.int t.2)],by simp_all[b6],?_⟩;have J:kA [tupI t.1]=some (.int (My.rK 0 t.1)):=by
    cases hk:t.1 with
    | nil=>have:=g.1;rw[hk]at this;simp[-XG,-XH,aC,aE]at this;lia
    | cons e k=>exact q_max1
   by_cases b:2<My.rK 0 t.1
   ·exact .inl ⟨b,jI (by simp_all[-q_max1,J,b])⟩
   ·exact .inr ⟨b,iH (by simp_all[-q_max1,J,b]),[some (.int M),some (.int (n:Int)),some (.lst (ts.map b6)),some (rP M ts),none,some (tupI t.1),some (.int t.2)],by simp_all[-q_max1,J,b],_,_,rfl⟩)
  refine⟨λz=>st _ (b7 (items:=ts.map b6) (by simp[-XG,-XH,aC,aE]) (q2 λj t q Y=>?_)),λz=>st _ (b7 (items:=ts.map b6) (by simp[-XG,-XH,aC,aE]) (q1 ?_))⟩
  ·have:=AW (z t (YO q)).2 (d:=0) (by decide)
   lia
  ·obtain⟨j,t,q,Y⟩:=lW z
   refine⟨j,t,q,?_⟩;have g:=F t (YO q);refine zaq λw=>Y ⟨g.1,λe he=>⟨(g.2 e he).1,?_⟩⟩
   have:=JV he
   lia
 ·have U:=(tK (M:=M) N G).2 F
  exact⟨λz=>absurd (λt q=>(z t q).e) F,λ_=>dW (by unfold IN;simp_all[aD,U])⟩
theorem IA(q:f ρ=some items)(I:Nat->cL->Prop)(h0:I 0 ρ)(hs:∀i x ρ,items[i]?=some x->I i ρ->∃ρ',turn g b x ρ=some (.nx ρ')/\I (i+1) ρ'):∃ρ',nU f g b ρ=some (.nx ρ')/\I items.length ρ':=by
 obtain⟨ρ',e,i⟩:=jB (g:=g) (b:=b) I h0 hs;exact⟨ρ',by rw[q_for,q,aC];exact e,i⟩
theorem A7{p:Int}:bU [.int p]=some (.bl (decide (0<=p/\p<=10^30))):=by
 refine aM ?_;have pw:iL (.int 10) (.int 30)=some (.int (10^30)):=fR (by decide) (by decide) (by decide +kernel);by_cases a:0<=p
 ·by_cases b:p<=10^30
  ·rw[decide_eq_true ⟨a,b⟩]
   simp only[zas]at pw b;simp_all[fD,aD,bV,pw,a,b]
  ·rw[decide_eq_false λz=>b z.2]
   simp only[zas]at pw b;simp_all[fD,aD,bV,pw,a,b]
 ·rw[decide_eq_false λz=>a z.1]
  simp_all[fD,aD,bV,pw,a]
structure OkC(n:Int)(m:Mk):Prop where
 nm:cC m.nm=true
 tk:m.tk.length=1\/m.tk.length=2
 ks:∀k∈m.tk++[m.gv],0<=k/\k<n
 pr:0<=m.p/\m.p<=10^30
theorem OkM.c{n:Int}{j:Nat}{m:Mk}(h:OkM n j m):OkC n m:=⟨h.nm,by rcases h.tk with⟨t,e⟩|⟨t,u,e⟩ <;> rw[e] <;> simp[-XG,-XH,aC,aE],D9 (P:=λe=>0<=e/\e<n) h.tb h.gv,h.pr⟩
theorem eJ{n:Nat}{m:Mk}(hl:m.nm.length<=1000):(OkC (n:Int) m->dA [.int (n:Int),.str m.nm,tupI m.tk,.int m.gv,.int m.p]=none)/\(¬ OkC (n:Int) m->dA [.int (n:Int),.str m.nm,tupI m.tk,.int m.gv,.int m.p]=some "NoMake"):=by
 have F:=jO hl;by_cases h1:cC m.nm=true
 case neg=>
  rw[ZV]at h1;rw[h1]at F;exact⟨λz=>(by rw[z.nm]at h1;cases h1),λ_=>dW (jI (by simp_all[aD,F]))⟩
 rw[h1]at F;by_cases h2:m.tk.length=1\/m.tk.length=2
 case neg=>
  have a:¬ (m.tk.length:Int)=1:=by lia
  have b:¬ (m.tk.length:Int)=2:=by lia
  refine⟨λz=>absurd z.tk h2,λ_=>(bG (ρ':=aD 6 [.int (n:Int),.str m.nm,tupI m.tk,.int m.gv,.int m.p]) (iH (by simp_all[aD,F])) (by simp_all[aD,F])).trans (dW (jI (by simp_all[aD,tupI,a,b])))⟩
 have J:(m.tk.length:Int)=1\/(m.tk.length:Int)=2:=by lia
 have hz:aW (m.tk.length+1)=true:=decide_eq_true (by lia);have st:∀o,dZ (rL (dE (aQ a8 (aI fO (aB (aA 2) aJ)) (mU (aB (aA 3) aJ)))) (aH 5) (eR (dG (bZ (bV gZ k7 (eC (.int 0)) (aA 5) (aA 0)))) eI gF) (mW (dG (bZ (bV gZ k7 (eC (.int 0)) (aA 5) (aA 0)))) (oH "NoMake") fT)) (nU (dE (aQ a8 (aI fO (aB (aA 2) aJ)) (mU (aB (aA 3) aJ)))) (aH 5) (eR (dG (bZ (bV gZ k7 (eC (.int 0)) (aA 5) (aA 0)))) eI gF)) (mW (dG (bZ (aI bU (aB (aA 4) aJ)))) (oH "NoMake") fT) (aD 6 [.int (n:Int),.str m.nm,tupI m.tk,.int m.gv,.int m.p])=o->dA [.int (n:Int),.str m.nm,tupI m.tk,.int m.gv,.int m.p]=o:=λo e=>
  (bG (ρ':=aD 6 [.int (n:Int),.str m.nm,tupI m.tk,.int m.gv,.int m.p]) (iH (by simp_all[aD,F])) (by simp_all[aD,F])).trans ((bG (ρ':=aD 6 [.int (n:Int),.str m.nm,tupI m.tk,.int m.gv,.int m.p]) (iH (by rcases J with e|e <;> simp_all[aD,tupI,e])) (by rcases J with e|e <;> simp_all[aD,tupI,e])).trans e)
 have Y:dE (aQ a8 (aI fO (aB (aA 2) aJ)) (mU (aB (aA 3) aJ))) (aD 6 [.int (n:Int),.str m.nm,tupI m.tk,.int m.gv,.int m.p])=some ((m.tk++[m.gv]).map .int):=by simp_all[aD,tupI,fO,hz]
 obtain⟨q1,q2⟩:=rG (g:=aH 5) (b:=eR (dG (bZ (bV gZ k7 (eC (.int 0)) (aA 5) (aA 0)))) eI gF) (gx:=mW (dG (bZ (bV gZ k7 (eC (.int 0)) (aA 5) (aA 0)))) (oH "NoMake") fT) (c := "NoMake") D.int (λi ρ=>∃o,ρ=[some (.int (n:Int)),some (.str m.nm),some (tupI m.tk),some (.int m.gv),some (.int m.p),o]) (λ_ e=>¬ (0<=e/\e<(n:Int))) (m.tk++[m.gv]) (aD 6 [.int (n:Int),.str m.nm,tupI m.tk,.int m.gv,.int m.p]) ⟨none,rfl⟩ (by
  rintro i e ρ U ⟨o,rfl⟩;refine⟨[some (.int (n:Int)),some (.str m.nm),some (tupI m.tk),some (.int m.gv),some (.int m.p),some (.int e)],rfl,?_⟩;by_cases a:0<=e
  ·by_cases b:e<(n:Int)
   ·exact .inr ⟨λz=>z ⟨a,b⟩,iH (by simp_all[bV,a,b]),[some (.int (n:Int)),some (.str m.nm),some (tupI m.tk),some (.int m.gv),some (.int m.p),some (.int e)],by simp_all[bV,a,b],_,rfl⟩
   ·exact .inl ⟨λz=>b z.2,jI (by simp_all[bV,a,b])⟩
  ·exact .inl ⟨λz=>a z.1,jI (by simp_all[bV,a])⟩)
 by_cases G:∀k∈m.tk++[m.gv],0<=k/\k<(n:Int)
 case neg=>exact⟨λz=>absurd z.ks G,λ_=>st _ (dW (b7 Y (q1 (lW G))))⟩
 obtain⟨ρ',e,o,rfl⟩:=IA (g:=aH 5) (b:=eR (dG (bZ (bV gZ k7 (eC (.int 0)) (aA 5) (aA 0)))) eI gF) Y (λi ρ=>∃o,ρ=[some (.int (n:Int)),some (.str m.nm),some (tupI m.tk),some (.int m.gv),some (.int m.p),o]) ⟨none,rfl⟩ (by
  rintro i x ρ hx ⟨o,rfl⟩;rw[YB]at hx;obtain⟨e,U,rfl⟩:=map_some hx;have b:=G e (YO U);exact⟨[some (.int (n:Int)),some (.str m.nm),some (tupI m.tk),some (.int m.gv),some (.int m.p),some (.int e)],by simp_all[turn,bV,b.1,b.2],_,rfl⟩)
 have sk:=λo q=>st o ((bG (b7 Y (q2 λj e U hb=>hb (G e (YO U)))) e).trans q)
 have W:=A7 (p:=m.p);by_cases N:0<=m.p/\m.p<=10^30
 ·rw[decide_eq_true N]at W
  exact⟨λ_=>sk _ (iH (by simp_all[W])),λz=>absurd ⟨h1,h2,G,N⟩ z⟩
 ·rw[decide_eq_false N]at W
  exact⟨λz=>absurd z.pr N,λ_=>sk _ (jI (by simp_all[W]))⟩
theorem j5{M:Int}{n:Nat}{q:List Ro}(h3:3<=M)(ag:q.length<=1000):(q.length<=12/\(∀r∈q,EG (n:Int) r)->hU [.int M,.int (n:Int),.lst (q.map cY)]=none)/\(¬ (q.length<=12/\∀r∈q,EG (n:Int) r)->hU [.int M,.int (n:Int),.lst (q.map cY)]=some "NoRoad"):=by
 have Mp:0<M:=by lia
 by_cases hl:q.length<=12
 case neg=>
  have b:12<(q.length:Int):=by lia
  exact⟨λz=>absurd z.1 hl,λ_=>dW (jI (by simp_all[aD,b]))⟩
 have b:¬ 12<(q.length:Int):=by lia
 have st:∀o,rL (dE (aA 2)) (dF 5 (aR (aH 4) (aR (aH 5) (aR (aH 6) (aR (aH 7) (aR (aH 8) eP)))))) (bE (eR (dG (bZ (bW gZ k7 k7 (eC (.int 0)) (aA 4) (aA 5) (aA 1)))) eI gF) (bE (eR (dG (bZ (aI bU (aB (aA 8) aJ)))) eI gF) (mR 3 (c8 (aB (aA 4) (aB (aA 5) (aB (aI sH (aB (aA 0) (aB (aA 6) aJ))) (aB (aI sH (aB (aA 0) (aB (aA 7) aJ))) (aB (aA 8) aJ))))))))) (dZ (mW (dG (bZ (bW gZ k7 k7 (eC (.int 0)) (aA 4) (aA 5) (aA 1)))) (oH "NoRoad") fT) (eR (dG (bZ (bW gZ k7 k7 (eC (.int 0)) (aA 4) (aA 5) (aA 1)))) eI gF) (mW (dG (bZ (aI bU (aB (aA 8) aJ)))) (oH "NoRoad") fT)) [some (.int M),some (.int (n:Int)),some (.lst (q.map cY)),some (.lst []),none,none,none,none,none]=o->hU [.int M,.int (n:Int),.lst (q.map cY)]=o:=λo e=>
  (bG (ρ':=aD 9 [.int M,.int (n:Int),.lst (q.map cY)]) (iH (by simp_all[aD,b])) (by simp_all[aD,b])).trans ((bG (ρ':=[some (.int M),some (.int (n:Int)),some (.lst (q.map cY)),some (.lst []),none,none,none,none,none]) rfl (by simp_all[aD])).trans e)
 obtain⟨q1,q2⟩:=rG (c := "NoRoad") (g:=dF 5 (aR (aH 4) (aR (aH 5) (aR (aH 6) (aR (aH 7) (aR (aH 8) eP)))))) (b:=bE (eR (dG (bZ (bW gZ k7 k7 (eC (.int 0)) (aA 4) (aA 5) (aA 1)))) eI gF) (bE (eR (dG (bZ (aI bU (aB (aA 8) aJ)))) eI gF) (mR 3 (c8 (aB (aA 4) (aB (aA 5) (aB (aI sH (aB (aA 0) (aB (aA 6) aJ))) (aB (aI sH (aB (aA 0) (aB (aA 7) aJ))) (aB (aA 8) aJ))))))))) (gx:=dZ (mW (dG (bZ (bW gZ k7 k7 (eC (.int 0)) (aA 4) (aA 5) (aA 1)))) (oH "NoRoad") fT) (eR (dG (bZ (bW gZ k7 k7 (eC (.int 0)) (aA 4) (aA 5) (aA 1)))) eI gF) (mW (dG (bZ (aI bU (aB (aA 8) aJ)))) (oH "NoRoad") fT)) cY (λi ρ=>∃l o4 o5 o6 Y o8,ρ=[some (.int M),some (.int (n:Int)),some (.lst (q.map cY)),some (.lst l),o4,o5,o6,Y,o8]/\l.length=i) (λ_ r=>¬ EG (n:Int) r) q [some (.int M),some (.int (n:Int)),some (.lst (q.map cY)),some (.lst []),none,none,none,none,none] ⟨[],none,none,none,none,none,rfl,rfl⟩ (by
  rintro i r ρ hr ⟨l,o4,o5,o6,Y,o8,rfl,U⟩;have hi:i<q.length:=(List.getElem?_eq_some_iff.mp hr).1;have W:aW l.length=true:=decide_eq_true (by lia);refine⟨[some (.int M),some (.int (n:Int)),some (.lst (q.map cY)),some (.lst l),some (.int r.j),some (.int r.k),some (.int r.a),some (.int r.b),some (.int r.p)],by simp_all[cY],?_⟩;have N:=A7 (p:=r.p);by_cases a:0<=r.j/\r.j<r.k/\r.k<(n:Int)
  ·obtain⟨F,G,J⟩:=id a
   by_cases p:0<=r.p/\r.p<=10^30
   ·rw[decide_eq_true p]at N
    exact .inr ⟨λz=>z ⟨a,p⟩,(bG (ρ':=[some (.int M),some (.int (n:Int)),some (.lst (q.map cY)),some (.lst l),some (.int r.j),some (.int r.k),some (.int r.a),some (.int r.b),some (.int r.p)]) (iH (by simp_all[bW,F,G,J])) (by simp_all[bW,F,G,J])).trans (iH (by simp_all[N])),[some (.int M),some (.int (n:Int)),some (.lst (q.map cY)),some (.lst (l++[.tup [.int r.j,.int r.k,.int (r.a%M),.int (r.b%M),.int r.p]])),some (.int r.j),some (.int r.k),some (.int r.a),some (.int r.b),some (.int r.p)],by simp_all[bW,F,G,J,N,MT Mp,W],_,_,_,_,_,_,rfl,by simp_all[U]⟩
   ·rw[decide_eq_false p]at N
    exact .inl ⟨λz=>p z.2,(bG (ρ':=[some (.int M),some (.int (n:Int)),some (.lst (q.map cY)),some (.lst l),some (.int r.j),some (.int r.k),some (.int r.a),some (.int r.b),some (.int r.p)]) (iH (by simp_all[bW,F,G,J])) (by simp_all[bW,F,G,J])).trans (jI (by simp_all[N]))⟩
  ·refine .inl ⟨λz=>a z.1,dW (jI ?_)⟩
   by_cases F:0<=r.j
   ·by_cases G:r.j<r.k
    ·have J:¬ r.k<(n:Int):=λz=>a ⟨F,G,z⟩
     simp_all[bW,F,G,J]
    ·simp_all[bW,F,G]
   ·simp_all[bW,F])
 exact⟨λz=>st _ (b7 (items:=q.map cY) (by simp[-XG,-XH,aC,aE]) (q2 λj t ht hb=>hb (z.2 t (YO ht)))),λz=>st _ (b7 (items:=q.map cY) (by simp[-XG,-XH,aC,aE]) (q1 (lW λw=>z ⟨hl,w⟩)))⟩
def M3(ks:List Str):Prop:=(1<=ks.length/\ks.length<=6)/\∀(j:Nat) (x:Str),ks[j]?=some x->cC x=true/\(ks.take j).contains x=false
theorem gK{ks:List Str}(hx:∀x∈ks,x.length<=1000)(ac:ks.length<=1000):(M3 ks->cZ [.lst (ks.map .str)]=none)/\(¬ M3 ks->cZ [.lst (ks.map .str)]=some "NoKind"):=by
 by_cases U:1<=ks.length/\ks.length<=6
 case neg=>
  refine⟨λz=>absurd z.1 U,λ_=>dW (jI ?_)⟩;by_cases a:(ks.length:Int)<1
  ·simp_all[aD,a]
  ·have b:6<(ks.length:Int):=by lia
   simp_all[aD,a,b]
 have a:¬ (ks.length:Int)<1:=by lia
 have b:¬ 6<(ks.length:Int):=by lia
 have st:∀o,rL (yF (aB (aA 0) aJ)) (dF 2 (aR (aH 1) (aR (aH 2) eP))) (bE (eR (dG (bZ (aI cA (aB (aA 2) aJ)))) eI gF) (eR (bZ (aQ rM (aA 2) (wB iM (aA 0) fP (eN (aA 1))))) eI gF)) (dZ (mW (dG (bZ (aI cA (aB (aA 2) aJ)))) (oH "NoKind") fT) (eR (dG (bZ (aI cA (aB (aA 2) aJ)))) eI gF) (mW (bZ (aQ rM (aA 2) (wB iM (aA 0) fP (eN (aA 1))))) (oH "NoKind") fT)) (aD 3 [.lst (ks.map .str)])=o->cZ [.lst (ks.map .str)]=o:=λo e=>
  (bG (ρ':=aD 3 [.lst (ks.map .str)]) (iH (by simp_all[aD,a,b])) (by simp_all[aD,a,b])).trans e
 obtain⟨q1,q2⟩:=vA (c := "NoKind") (g:=dF 2 (aR (aH 1) (aR (aH 2) eP))) (b:=bE (eR (dG (bZ (aI cA (aB (aA 2) aJ)))) eI gF) (eR (bZ (aQ rM (aA 2) (wB iM (aA 0) fP (eN (aA 1))))) eI gF)) (gx:=dZ (mW (dG (bZ (aI cA (aB (aA 2) aJ)))) (oH "NoKind") fT) (eR (dG (bZ (aI cA (aB (aA 2) aJ)))) eI gF) (mW (bZ (aQ rM (aA 2) (wB iM (aA 0) fP (eN (aA 1))))) (oH "NoKind") fT)) (λ_ ρ=>∃o1 W,ρ=[some (.lst (ks.map .str)),o1,W]) (λj=>∃x,ks[j]?=some x/\¬ (cC x=true/\(ks.take j).contains x=false)) (fQ 0 (ks.map .str)) 0 (aD 3 [.lst (ks.map .str)]) ⟨none,none,rfl⟩ (by
  rintro j y ρ hy ⟨o1,W,rfl⟩;obtain⟨z,hz,rfl⟩:=jP hy;rw[YB]at hz;obtain⟨x,F,rfl⟩:=map_some hz;rw[zbt];have hi:j<ks.length:=(List.getElem?_eq_some_iff.mp F).1;have G:=jO (x:=x) (hx x (YO F));have ct:=(iF (w:=ks.map D.str) (c:=(j:Int)) (by lia) (by rw[XR];lia)).1;have q:rM (.str x) (.lst ((ks.map D.str).take j))=some (.bl ((ks.take j).contains x)):=by rw[<- zaO];exact B2 x (ks.take j)
  rw[ZF]at ct;generalize (ks.map D.str).take j=w at ct q;refine⟨[some (.lst (ks.map .str)),some (.int (j:Int)),some (.str x)],by simp[-XG,-XH,aC,aE],?_⟩;by_cases J:cC x=true
  ·rw[J]at G
   by_cases N:(ks.take j).contains x=false
   ·rw[N]at q
    exact .inr ⟨λ⟨x',h1,h2⟩=>(by rw[F]at h1;cases h1;exact h2 ⟨J,N⟩),(bG (ρ':=[some (.lst (ks.map .str)),some (.int (j:Int)),some (.str x)]) (iH (by simp_all[G])) (by simp_all[G])).trans (iH (by simp_all[ct,q])),[some (.lst (ks.map .str)),some (.int (j:Int)),some (.str x)],by simp_all[G,ct,q],_,_,rfl⟩
   ·rw[Bool.not_eq_false]at N
    rw[N]at q;exact .inl ⟨⟨x,F,λz=>by rw[z.2]at N;cases N⟩,(bG (ρ':=[some (.lst (ks.map .str)),some (.int (j:Int)),some (.str x)]) (iH (by simp_all[G])) (by simp_all[G])).trans (jI (by simp_all[ct,q]))⟩
  ·rw[ZV]at J
   rw[J]at G;exact .inl ⟨⟨x,F,λz=>by rw[z.1]at J;cases J⟩,dW (jI (by simp_all[G]))⟩)
 refine⟨λz=>st _ (b7 (items:=fQ 0 (ks.map .str)) (by simp_all[aD]) (q2 λj _ _ ⟨x,h1,h2⟩=>h2 (z.2 j x h1))),λz=>st _ (b7 (items:=fQ 0 (ks.map .str)) (by simp_all[aD]) (q1 ?_))⟩;refine zaq λw=>z ⟨U,λj x Y=>zaq λv=>w ⟨j,YY _,?_,x,Y,v⟩⟩
 have hi:j<ks.length:=(List.getElem?_eq_some_iff.mp Y).1;rw[zbt,mF,XR];exact hi
theorem xH{ms:List Mk}{i:Nat}{m:Mk}(q:ms[i]?=some m)(nm:Str)(k:Nat):cnt (ms.take (i+1)) nm k=cnt (ms.take i) nm k+if isD nm k m=true then 1 else 0:=by
 unfold cnt;rw[zaD,q,zbZ,Y3];congr 1;show([m].filter (isD nm k)).length=_;by_cases e:isD nm k m=true
 ·rw[if_pos e,List.filter_cons_of_pos e];rfl
 ·rw[if_neg e,List.filter_cons_of_neg e];rfl
theorem KN(m:Mk):isD m.nm m.tk.length m=true:=by unfold isD;rw[decide_eq_true rfl,decide_eq_true rfl];rfl
theorem II{nm:Str}{k:Nat}{m:Mk}(h:isD nm k m=true):m.nm=nm/\m.tk.length=k:=by unfold isD at h;simpa using h
theorem AZ{ms:List Mk}(h:∀(j:Nat) (m:Mk),ms[j]?=some m->cnt (ms.take (j+1)) m.nm m.tk.length<=6)(nm:Str)(k:Nat):∀i,i<=ms.length->cnt (ms.take i) nm k<=6
 | 0,_=>by simp_all[cnt]
 | i+1,hi=>by
  have q:ms[i]?=some ms[i]:=by simp[-XG,-XH,aC,aE]
  have ih:=AZ h nm k i (by lia);by_cases e:isD nm k ms[i]=true
  ·obtain⟨rfl,rfl⟩:=II e
   exact h i _ q
  ·rw[xH q,if_neg e];lia
theorem mD{M:Int}{ms:List Mk}(hl:ms.length<=16):((∀nm k,cnt ms nm k<=6)->cK [.lst (ms.map (iO M))]=none)/\(¬ (∀nm k,cnt ms nm k<=6)->cK [.lst (ms.map (iO M))]=some "NoMake"):=by
 have st:∀o,rL (dE (aA 0)) (dF 5 (aR (aH 2) (aR (aH 3) (aR (aH 4) (aR (aH 5) (aR (aH 6) eP)))))) (bE (cF 7 (c8 (aB (aA 2) (aB (aI dY (aB (aA 3) aJ)) aJ)))) (bE (jH 1 (aA 7) (aQ a8 (l8 (aA 1) (aA 7) (eC (.int 0))) (eC (.int 1)))) (eR (bZ (aQ jW (aQ a6 (aA 1) (aA 7)) (eC (.int 6)))) eI gF))) (dZ fT (cF 7 (c8 (aB (aA 2) (aB (aI dY (aB (aA 3) aJ)) aJ)))) (dZ fT (jH 1 (aA 7) (aQ a8 (l8 (aA 1) (aA 7) (eC (.int 0))) (eC (.int 1)))) (mW (bZ (aQ jW (aQ a6 (aA 1) (aA 7)) (eC (.int 6)))) (oH "NoMake") fT))) [some (.lst (ms.map (iO M))),some (.dT []),none,none,none,none,none,none]=o->cK [.lst (ms.map (iO M))]=o:=λo e=>by
  unfold cK gC j7;exact(bG (g1:=fT) (ρ':=[some (.lst (ms.map (iO M))),some (.dT []),none,none,none,none,none,none]) rfl (by simp_all[aD])).trans e
 obtain⟨q1,q2⟩:=rG (c := "NoMake") (g:=dF 5 (aR (aH 2) (aR (aH 3) (aR (aH 4) (aR (aH 5) (aR (aH 6) eP)))))) (b:=bE (cF 7 (c8 (aB (aA 2) (aB (aI dY (aB (aA 3) aJ)) aJ)))) (bE (jH 1 (aA 7) (aQ a8 (l8 (aA 1) (aA 7) (eC (.int 0))) (eC (.int 1)))) (eR (bZ (aQ jW (aQ a6 (aA 1) (aA 7)) (eC (.int 6)))) eI gF))) (gx:=dZ fT (cF 7 (c8 (aB (aA 2) (aB (aI dY (aB (aA 3) aJ)) aJ)))) (dZ fT (jH 1 (aA 7) (aQ a8 (l8 (aA 1) (aA 7) (eC (.int 0))) (eC (.int 1)))) (mW (bZ (aQ jW (aQ a6 (aA 1) (aA 7)) (eC (.int 6)))) (oH "NoMake") fT))) (iO M) (λi ρ=>∃(ys:List (List Key×D)) (o2 o3 o4 o5 o6 W:Option D),ρ=[some (.lst (ms.map (iO M))),some (.dT ys),o2,o3,o4,o5,o6,W]/\ys.length<=i/\∀(nm:Str) (k:Nat),(gB ys [.inr nm,.inl (k:Int)]).getD (.int 0)=.int (cnt (ms.take i) nm k:Int)) (λj m=>¬ cnt (ms.take (j+1)) m.nm m.tk.length<=6) ms [some (.lst (ms.map (iO M))),some (.dT []),none,none,none,none,none,none] ⟨[],none,none,none,none,none,none,rfl,XU _,λnm k=>rfl⟩ (by
  rintro i m ρ J ⟨ys,o2,o3,o4,o5,o6,W,rfl,hy,hc⟩;have hi:i<ms.length:=(List.getElem?_eq_some_iff.mp J).1;have hz:aW ys.length=true:=decide_eq_true (by lia);have ka:EM (.tup [.str m.nm,.int (m.tk.length:Int)])=some [.inr m.nm,.inl (m.tk.length:Int)]:=rfl;have F:=hc m.nm m.tk.length;have N:=xH J;have G:=KN m;have lk:eQ (.dT ys) (.tup [.str m.nm,.int (m.tk.length:Int)])=some (gB ys [.inr m.nm,.inl (m.tk.length:Int)]):=by
   show(EM (.tup [.str m.nm,.int (m.tk.length:Int)])).map _=_;rw[ka];rfl
  generalize hcc:cnt (ms.take i) m.nm m.tk.length=c at F;have pt:k6 (.dT ys) (.tup [.str m.nm,.int (m.tk.length:Int)]) (.int ((c:Int)+1))=some (.dT (putD ys [.inr m.nm,.inl (m.tk.length:Int)] (.int ((c:Int)+1)))):=by
   unfold _root_.P.k6;dsimp only;rw[ka,aC,if_pos hz]
  have q:eQ (.dT (putD ys [.inr m.nm,.inl (m.tk.length:Int)] (.int ((c:Int)+1)))) (.tup [.str m.nm,.int (m.tk.length:Int)])=some (some (.int ((c:Int)+1))):=by
   show(EM (.tup [.str m.nm,.int (m.tk.length:Int)])).map _=_;rw[ka,aE,oE,if_pos rfl]
  have en:cnt (ms.take (i+1)) m.nm m.tk.length=c+1:=by rw[N,if_pos G,hcc]
  refine⟨[some (.lst (ms.map (iO M))),some (.dT ys),some (.str m.nm),some (tupI m.tk),some (.int m.gv),some (rP M m.ts),some (.int m.p),W],by simp_all[iO],?_⟩;have sk:∀ {c2:Bv} {o:Option Str},mW c2 (oH "NoMake") fT [some (.lst (ms.map (iO M))),some (.dT (putD ys [.inr m.nm,.inl (m.tk.length:Int)] (.int ((c:Int)+1)))),some (.str m.nm),some (tupI m.tk),some (.int m.gv),some (rP M m.ts),some (.int m.p),some (.tup [.str m.nm,.int (m.tk.length:Int)])]=o->dZ fT (cF 7 (c8 (aB (aA 2) (aB (aI dY (aB (aA 3) aJ)) aJ)))) (dZ fT (jH 1 (aA 7) (aQ a8 (l8 (aA 1) (aA 7) (eC (.int 0))) (eC (.int 1)))) (mW c2 (oH "NoMake") fT)) [some (.lst (ms.map (iO M))),some (.dT ys),some (.str m.nm),some (tupI m.tk),some (.int m.gv),some (rP M m.ts),some (.int m.p),W]=o:=λe=>
   (bG (ρ':=[some (.lst (ms.map (iO M))),some (.dT ys),some (.str m.nm),some (tupI m.tk),some (.int m.gv),some (rP M m.ts),some (.int m.p),some (.tup [.str m.nm,.int (m.tk.length:Int)])]) rfl (by simp_all[tupI])).trans ((bG (ρ':=[some (.lst (ms.map (iO M))),some (.dT (putD ys [.inr m.nm,.inl (m.tk.length:Int)] (.int ((c:Int)+1)))),some (.str m.nm),some (tupI m.tk),some (.int m.gv),some (rP M m.ts),some (.int m.p),some (.tup [.str m.nm,.int (m.tk.length:Int)])]) rfl (by simp_all[lk,F,pt])).trans e)
  by_cases U:c+1<=6
  ·have Y:¬ (6:Int)<(c:Int)+1:=by lia
   refine .inr ⟨λz=>z (by rw[en];exact U),sk (iH (by simp_all[q,Y])),[some (.lst (ms.map (iO M))),some (.dT (putD ys [.inr m.nm,.inl (m.tk.length:Int)] (.int ((c:Int)+1)))),some (.str m.nm),some (tupI m.tk),some (.int m.gv),some (rP M m.ts),some (.int m.p),some (.tup [.str m.nm,.int (m.tk.length:Int)])],by simp_all[tupI,lk,F,pt,q,Y],_,_,_,_,_,_,_,rfl,Y0 (oB _ _ _) (by lia),λnm k=>?_⟩;rw[oE,N];by_cases e:nm=m.nm/\k=m.tk.length
   ·obtain⟨rfl,rfl⟩:=e
    rw[if_pos rfl,if_pos G,hcc];rfl
   ·have e1:¬ ([.inr nm,.inl (k:Int)]:List Key)=[.inr m.nm,.inl (m.tk.length:Int)]:=λz=>by
     injection z with z1 z2
     injection z2 with z2 _
     injection z1 with z1
     injection z2 with z2
     exact e ⟨z1,by lia⟩
    have e2:¬ isD nm k m=true:=λz=>by
     have z:=II z;exact e ⟨z.1.symm,z.2.symm⟩
    rw[if_neg e1,if_neg e2,hc];rfl
  ·have Y:(6:Int)<(c:Int)+1:=by lia
   exact .inl ⟨by rw[en];exact U,sk (jI (by simp_all[q,Y]))⟩)
 refine⟨λz=>st _ (b7 (items:=ms.map (iO M)) (by simp[-XG,-XH,aC,aE]) (q2 λj m J hb=>hb (Y0 (x9 ..) (z ..)))),λz=>st _ (b7 (items:=ms.map (iO M)) (by simp[-XG,-XH,aC,aE]) (q1 ?_))⟩;refine zaq λw=>z λnm k=>?_
 have:=AZ (λj m J=>zaq λv=>w ⟨j,m,J,v⟩) nm k ms.length (XU _)
 rwa [za3]at this
theorem kO{x:Str}(h:cC x=true):x.length<=8:=by
 unfold cC at h;simp only[YU,decide_eq_true_eq]at h;exact h.1.1.2
theorem OkC.m{n:Int}{m:Mk}(h:OkC n m)(F:m.ts.length<=9)(q:∀t∈m.ts,OkT m.tk.length t):OkM n 9 m where
 nm:=h.nm
 nl:=kO h.nm
 tk:=by
  rcases h.tk with e|e
  ·obtain⟨t,e⟩:=List.length_eq_one_iff.mp e;exact .inl ⟨t,e⟩
  ·match hq:m.tk,e with
   | [t,u],_=>exact .inr ⟨t,u,rfl⟩
 tb:=λt q=>h.ks t (Z4 _ q)
 gv:=h.ks _ (ZY _ (List.mem_singleton.mpr rfl))
 tl:=F
 tt:=q
 pr:=h.pr
theorem rX{n:Nat}{m:Mk}(h:OkC (n:Int) m):cV [.int (n:Int),.str m.nm,tupI m.tk,.int m.gv,.int m.p]=some .non:=by
 have h':OkC (n:Int) ({m with ts:=[]}:Mk):=⟨h.nm,h.tk,h.ks,h.pr⟩;exact eU (m:={m with ts:=[]}) (h'.m (YY _) λt q=>nomatch q)
abbrev RI:Gv:=dF 5 (aR (aH 4) (aR (aH 5) (aR (aH 6) (aR (aH 7) (aR (aH 8) eP)))))
abbrev UJ:Sv:=bE (l6 (aI cV (aB (aA 1) (aB (aA 4) (aB (aA 5) (aB (aA 6) (aB (aA 8) aJ))))))) (mR 3 (c8 (aB (aA 4) (aB (aI cT (aB (aA 5) aJ)) (aB (aA 6) (aB (aI d8 (aB (aA 0) (aB (aI dY (aB (aA 5) aJ)) (aB (aA 7) aJ)))) (aB (aA 8) aJ)))))))
abbrev UT:Xv:=dZ (eE dA λρ=>aB (aA 1) (aB (aA 4) (aB (aA 5) (aB (aA 6) (aB (aA 8) aJ)))) ρ) (l6 (aI cV (aB (aA 1) (aB (aA 4) (aB (aA 5) (aB (aA 6) (aB (aA 8) aJ))))))) (MS 3 (jD (aA 4) fT (jD (aI cT (aB (aA 5) aJ)) fT (jD (aA 6) fT (jD (aI d8 (aB (aA 0) (aB (aI dY (aB (aA 5) aJ)) (aB (aA 7) aJ)))) (eE eA λρ=>aB (aA 0) (aB (aI dY (aB (aA 5) aJ)) (aB (aA 7) aJ)) ρ) fT)))))
def EK(M:Int)(n:Nat)(ms:List Mk)(l:List D)(m:Mk):cL:=[some (.int M),some (.int (n:Int)),some (.lst (ms.map bY)),some (.lst l),some (.str m.nm),some (tupI m.tk),some (.int m.gv),some (.lst (m.ts.map b6)),some (.int m.p)]
theorem ND{M:Int}{n:Nat}{ms:List Mk}{l:List D}{m:Mk}{G N q F J:Option D}:RI (bY m) [some (.int M),some (.int (n:Int)),some (.lst (ms.map bY)),some (.lst l),G,N,q,F,J]=some (EK M n ms l m):=by simp_all[bY,EK]
theorem NC{M:Int}{n:Nat}{ms:List Mk}{l:List D}{m:Mk}(G:0<M)(ok:OkM (n:Int) 9 m)(hz:aW l.length=true):UJ (EK M n ms l m)=some (.nx (EK M n ms (l++[iO M m]) m)):=by
 have q:=eU ok;have F:=iX (M:=M) (n:=m.tk.length) (ts:=m.ts) G (by rcases ok.tk with⟨t,e⟩|⟨t,u,e⟩ <;> rw[e] <;> simp[-XG,-XH,aC,aE]) ok.tl ok.tt;simp only[tupI]at q;simp_all[EK,iO,tupI,q,F,hz,cT]
theorem SZ{M:Int}{n:Nat}{ms:List Mk}{l:List D}{m:Mk}(F:0<M)(ok:OkM (n:Int) 9 m):UT (EK M n ms l m)=none:=by
 have h1:=(eJ (n:=n) (m:=m) (by have:=ok.nl;lia)).1 ok.c;have q:m.tk.length=1\/m.tk.length=2:=ok.c.tk;have h2:=(iP (M:=M) (n:=m.tk.length) F q ok.tl).1 ok.tt;have G:=eU ok;have J:=iX (M:=M) (n:=m.tk.length) (ts:=m.ts) F q ok.tl ok.tt;simp only[tupI]at G h1;simp_all[EK,dZ,eE,MS,jD,fT,tupI,h1,h2,G,J,cT]
theorem RN{M:Int}{n:Nat}{ms:List Mk}{l:List D}{m:Mk}(U:0<M)(F:m.nm.length<=1000)(J:m.ts.length<=9)(N:¬ OkM (n:Int) 9 m):UT (EK M n ms l m)=some "NoMake" := by
 by_cases q:OkC (n:Int) m
 ·have h1:=(eJ (n:=n) F).1 q
  have h2:=(iP (M:=M) (n:=m.tk.length) U q.tk J).2 λz=>N (q.m J z)
  have G:=rX q;simp only[tupI]at G h1;simp_all[EK,dZ,eE,MS,jD,fT,tupI,h1,h2,G,cT]
 ·have h1:=(eJ (n:=n) F).2 q
  simp only[tupI]at h1;simp_all[EK,dZ,eE,tupI,h1]
theorem j6{M:Int}{n:Nat}{ms:List Mk}(h3:3<=M)(ak:ms.length<=1000)(hm:∀m∈ms,m.nm.length<=1000/\m.ts.length<=9):(ms.length<=16/\(∀m∈ms,OkM (n:Int) 9 m)/\(∀nm k,cnt ms nm k<=6)->dR [.int M,.int (n:Int),.lst (ms.map bY)]=none)/\(¬ (ms.length<=16/\(∀m∈ms,OkM (n:Int) 9 m)/\∀nm k,cnt ms nm k<=6)->dR [.int M,.int (n:Int),.lst (ms.map bY)]=some "NoMake"):=by
 have Mp:0<M:=by lia
 by_cases hl:ms.length<=16
 case neg=>
  have b:16<(ms.length:Int):=by lia
  exact⟨λz=>absurd z.1 hl,λ_=>dW (jI (by simp_all[aD,b]))⟩
 have b:¬ 16<(ms.length:Int):=by lia
 have st:∀o,dZ (rL (dE (aA 2)) RI UJ UT) (nU (dE (aA 2)) RI UJ) (eE cK λρ=>aB (aA 3) aJ ρ) [some (.int M),some (.int (n:Int)),some (.lst (ms.map bY)),some (.lst []),none,none,none,none,none]=o->dR [.int M,.int (n:Int),.lst (ms.map bY)]=o:=λo e=>by
  unfold dR gC pR;exact(bG (ρ':=aD 9 [.int M,.int (n:Int),.lst (ms.map bY)]) (iH (by simp_all[aD,b])) (by simp_all[aD,b])).trans ((bG (g1:=fT) (ρ':=[some (.int M),some (.int (n:Int)),some (.lst (ms.map bY)),some (.lst []),none,none,none,none,none]) rfl (by simp_all[aD])).trans e)
 obtain⟨q1,q2⟩:=rG (c := "NoMake") (g:=RI) (b:=UJ) (gx:=UT) bY (λi ρ=>∃l G U J F N,ρ=[some (.int M),some (.int (n:Int)),some (.lst (ms.map bY)),some (.lst l),G,U,J,F,N]/\l.length=i) (λ_ m=>¬ OkM (n:Int) 9 m) ms [some (.int M),some (.int (n:Int)),some (.lst (ms.map bY)),some (.lst []),none,none,none,none,none] ⟨[],none,none,none,none,none,rfl,rfl⟩ (by
  rintro i m ρ hi ⟨l,G,U,J,F,N,rfl,ae⟩;have ab:i<ms.length:=(List.getElem?_eq_some_iff.mp hi).1;have mm:=hm m (YO hi);refine⟨_,ND,?_⟩;by_cases ok:OkM (n:Int) 9 m
  ·exact .inr ⟨λz=>z ok,SZ Mp ok,_,NC Mp ok (decide_eq_true (by lia)),_,_,_,_,_,_,rfl,by simp_all[ae]⟩
  ·exact .inl ⟨ok,RN Mp mm.1 mm.2 ok⟩)
 by_cases W:∀m∈ms,OkM (n:Int) 9 m
 case neg=>exact⟨λz=>absurd z.2.1 W,λ_=>st _ (dW (b7 (items:=ms.map bY) (by simp[-XG,-XH,aC,aE]) (q1 (lW W))))⟩
 obtain⟨ρ',e,G,U,J,F,N,rfl⟩:=IA (g:=RI) (b:=UJ) (f:=dE (aA 2)) (ρ:=[some (.int M),some (.int (n:Int)),some (.lst (ms.map bY)),some (.lst []),none,none,none,none,none]) (items:=ms.map bY) (by simp[-XG,-XH,aC,aE]) (λi ρ=>∃G U J F N,ρ=[some (.int M),some (.int (n:Int)),some (.lst (ms.map bY)),some (.lst ((ms.take i).map (iO M))),G,U,J,F,N]) ⟨none,none,none,none,none,rfl⟩ (by
  rintro i x ρ hx ⟨G,U,J,F,N,rfl⟩;rw[YB]at hx;obtain⟨m,hi,rfl⟩:=map_some hx;have ab:i<ms.length:=(List.getElem?_eq_some_iff.mp hi).1;have ok:=W m (YO hi);refine⟨EK M n ms ((ms.take i).map (iO M)++[iO M m]) m,?_,some (.str m.nm),some (tupI m.tk),some (.int m.gv),some (.lst (m.ts.map b6)),some (.int m.p),?_⟩
  ·show(RI (bY m) _).bind _=_
   rw[ND,aC];exact NC Mp ok (decide_eq_true (by rw[XR,zai];lia))
  ·unfold EK
   rw[zaD,hi];simp[-XG,-XH,aC,aE])
 rw[XR,za3]at e;have sk:=λo q=>st o ((bG (b7 (items:=ms.map bY) (by simp[-XG,-XH,aC,aE]) (q2 λj m hm hb=>hb (W m (YO hm)))) e).trans q)
 have xd:=mD (M:=M) hl;by_cases Y:∀nm k,cnt ms nm k<=6
 ·exact⟨λ_=>sk _ ((xc (ds:=[.lst (ms.map (iO M))]) (by simp[-XG,-XH,aC,aE])).trans (xd.1 Y)),λz=>absurd ⟨hl,W,Y⟩ z⟩
 ·exact⟨λz=>absurd z.2.2 Y,λ_=>sk _ ((xc (ds:=[.lst (ms.map (iO M))]) (by simp[-XG,-XH,aC,aE])).trans (xd.2 Y))⟩
theorem QF{c m:Int}{n:Nat}(h1:1<=n)(J:n<=6):M3 (cQ c m n):=by
 refine⟨by rw[cH];exact⟨h1,J⟩,λj x q=>?_⟩;have hi:j<n:=by have:=(List.getElem?_eq_some_iff.mp q).1;rw[cH]at this;exact this
 have ex:x=wN c m (j:Int):=by
  unfold cQ at q;rw[YB,zbR hi]at q;exact(YJ q).symm
 subst ex;refine⟨(uI c m (j:Int)).1,?_⟩;have tk:(cQ c m n).take j=cQ c m j:=by
  unfold cQ;rw[<- zaO,List.take_range,zbw (by lia)]
 rw[tk,<- ZV,zbW];intro G;obtain⟨k,F,e⟩:=List.mem_map.mp G;have F:=List.mem_range.mp F;have:=qN (c:=c) (m:=m) (k:=(k:Int)) (j:=(j:Int)) (by lia) (by lia) (by lia) (by lia) e
 lia
theorem mL{c m:Int}{n:Nat}:∀x∈cQ c m n,x.length<=1000:=λx q=>by
 obtain⟨k,_,e⟩:=List.mem_map.mp q;have:=(uI c m (k:Int)).2;rw[<- e];lia
def UI(M:Int):Prop:=3<=M/\M<10^60/\M%2=1
theorem uP{M:Int}{K R S:D}(q:M<10^60)(F:M<3\/M%2=0):c5 [.int M,K,R,S]=some "NoWheel" := by
 unfold c5 gC qS;exact dW ((xc (ds:=[.int M]) (by simp_all[aD])).trans (y9 q F))
theorem qG{M:Int}{K R S:D}{o:Option Str}{q:Xv}(h:UI M)(e:q (aD 4 [.int M,K,R,S])=o):dZ (eE iC λρ=>aB (aA 0) aJ ρ) (l6 (aI n4 (aB (aA 0) aJ))) q (aD 4 [.int M,K,R,S])=o:=by
 have F:=AY h.1 h.2.1 h.2.2;exact(bG (ρ':=aD 4 [.int M,K,R,S]) ((xc (ds:=[.int M]) (by simp_all[aD])).trans (zE h.1 h.2.1 h.2.2)) (by simp_all[aD,F])).trans e
theorem uR{M:Int}{ks:List Str}{R S:D}(h:UI M)(G:∀x∈ks,x.length<=1000)(q:ks.length<=1000)(F:¬ M3 ks):c5 [.int M,.lst (ks.map .str),R,S]=some "NoKind" := by
 unfold c5 gC qS;exact qG h (dW ((xc (ds:=[.lst (ks.map .str)]) (by simp_all[aD])).trans ((gK G q).2 F)))
theorem yC{M c m:Int}{n:Nat}{R S:D}{o:Option Str}{F:Xv}(h1:1<=n)(q:n<=6)(e:F (aD 4 [.int M,.lst ((cQ c m n).map .str),R,S])=o):dZ (eE cZ λρ=>aB (aA 1) aJ ρ) (l6 (aI d6 (aB (aA 1) aJ))) F (aD 4 [.int M,.lst ((cQ c m n).map .str),R,S])=o:=by
 have G:=j8 (c:=c) (m:=m) h1 q;exact(bG (ρ':=aD 4 [.int M,.lst ((cQ c m n).map .str),R,S]) ((xc (ds:=[.lst ((cQ c m n).map .str)]) (by simp_all[aD])).trans ((gK mL (by rw[cH];lia)).1 (QF h1 q))) (by simp_all[aD,G])).trans e
theorem uX{M c m:Int}{n:Nat}{q:List Ro}{S:D}(h:UI M)(h1:1<=n)(N:n<=6)(F:q.length<=1000)(G:¬ (q.length<=12/\∀r∈q,EG (n:Int) r)):c5 [.int M,.lst ((cQ c m n).map .str),.lst (q.map cY),S]=some "NoRoad" := by
 unfold c5 gC qS;have J:=(j5 (n:=n) h.1 F).2 G;refine qG h (yC h1 N ?_);simp_all[aD,jD,eE,fT,J,cH,cT]
theorem lB{M c m:Int}{n:Nat}{q:List Ro}{ms:List Mk}{o:Option Str}(h:UI M)(h1:1<=n)(U:n<=6)(F:q.length<=12)(J:∀r∈q,EG (n:Int) r)(e:dR [.int M,.int (n:Int),.lst (ms.map bY)]=o):c5 [.int M,.lst ((cQ c m n).map .str),.lst (q.map cY),.lst (ms.map bY)]=o:=by
 unfold c5 gC qS;have N:=(j5 (n:=n) h.1 (by lia)).1 ⟨F,J⟩;have G:=oR (n:=n) h.1 F J;refine qG h (yC h1 U ?_);cases o with
 | none=>simp_all[aD,jD,eE,fT,N,G,e,cH,cT]
 | some x=>simp_all[aD,jD,eE,fT,N,G,e,cH,cT]
theorem DR{b:Rb}(ok:OkB b):c5 [.int b.M,.lst ((cQ b.c b.m b.n).map .str),.lst (b.rs.map cY),.lst (b.ms.map bY)]=none:=
 lB ok.hM ok.hn.1 ok.hn.2 ok.rl ok.ro ((j6 ok.hM.1 (by have:=ok.ml;lia) λm q=>⟨by have:=(ok.mo m q).nl;lia,(ok.mo m q).tl⟩).1 ⟨ok.ml,ok.mo,ok.mc⟩)
theorem FR{c:Int}:∃M,dI [.int c]=some (.int M)/\M<10^60/\(M<3\/M%2=0):=by
 obtain⟨B,pw,B0,N⟩:∃B:Int,iL (.int 10) (.int 59)=some (.int B)/\0<B/\10*B=10^60:=⟨10^59,fR (by decide) (by decide) (by decide +kernel),by decide,by decide⟩;rw[<- N];have F:bD (.int 5) (.int B)=some (.int (5*B)):=jV (by decide) (by decide);have G:bD (.int 4) (.int B)=some (.int (4*B)):=jV (by decide) (by decide);have q:∀x,bD (.int 2) (.int x)=some (.int (2*x)):=λx=>jV (by decide) (by decide)
 have a0:=X2 (c/3) (show 5*B≠0 by lia);have a1:=X6 (c/3) (show 0<5*B by lia);have b0:=X2 (c/3) (show 4*B≠0 by lia);have b1:=X6 (c/3) (show 0<4*B by lia);have Y:=aO (i:=c/3) (show 0<5*B by lia);have J:=aO (i:=c/3) (show 0<4*B by lia);by_cases h:c%3=0
 ·refine⟨2*(c/3%(5*B)),aM ?_,by lia,.inr (by lia)⟩
  simp_all[cU,aD,aO (show(0:Int)<3 by decide),a7,h,pw,F,q,Y]
 ·by_cases h1:c%3=1
  ·refine⟨1-2*(c/3%(4*B)),aM ?_,by lia,.inl (by lia)⟩
   simp_all[cU,aD,aO (show(0:Int)<3 by decide),a7,h,h1,pw,G,q,J]
  ·have d0:=X2 (c/3) (show(5:Int)≠0 by decide)
   have d1:=X6 (c/3) (show(0:Int)<5 by decide);have:c/3%5=0\/c/3%5=1\/c/3%5=2\/c/3%5=3\/c/3%5=4:=by lia
   obtain⟨M,W,U⟩:∃M,fS [D.int 0,.int 1,.int 2,.int (-1),.int (-3)] (c/3%5)=some (.int M)/\M<3:=by
    rcases this with e|e|e|e|e <;> rw[e]
    ·exact⟨0,rfl,by decide⟩
    ·exact⟨1,rfl,by decide⟩
    ·exact⟨2,rfl,by decide⟩
    ·exact⟨-1,rfl,by decide⟩
    ·exact⟨-3,rfl,by decide⟩
   refine⟨M,aM ?_,by lia,.inl U⟩;simp_all[cU,aD,aO (show(0:Int)<3 by decide),aO (show(0:Int)<5 by decide),a7,h,h1,W]
theorem sY{c:Int}:∃x:Str,fX [.int c]=some (.str x)/\cC x=false/\x.length<=9:=by
 have d0:=X2 c (show(9:Int)≠0 by decide);have F:=X6 c (show(0:Int)<9 by decide);have:c%9=0\/c%9=1\/c%9=2\/c%9=3\/c%9=4\/c%9=5\/c%9=6\/c%9=7\/c%9=8:=by lia
 obtain⟨x,ex,q⟩:∃x:Str,fS [D.str "",.str "abcdefghi",.str "Ab",.str "let",.str "in",.str "pick",.str "again",.str "a1",.str "a b"] (c%9)=some (.str x)/\cC x=false/\x.length<=9:=by
  rcases this with e|e|e|e|e|e|e|e|e <;> rw[e]
  ·exact⟨"",rfl,by decide +kernel,by decide +kernel⟩
  ·exact⟨"abcdefghi",rfl,by decide +kernel,by decide +kernel⟩
  ·exact⟨"Ab",rfl,by decide +kernel,by decide +kernel⟩
  ·exact⟨"let",rfl,by decide +kernel,by decide +kernel⟩
  ·exact⟨"in",rfl,by decide +kernel,by decide +kernel⟩
  ·exact⟨"pick",rfl,by decide +kernel,by decide +kernel⟩
  ·exact⟨"again",rfl,by decide +kernel,by decide +kernel⟩
  ·exact⟨"a1",rfl,by decide +kernel,by decide +kernel⟩
  ·exact⟨"a b",rfl,by decide +kernel,by decide +kernel⟩
 refine⟨x,aM ?_,q⟩;simp_all[jY,aD,aO (show(0:Int)<9 by decide),ex]
theorem G5{F:Type}(pre q:List F)(x:F):(pre++x::q)[pre.length]?=some x:=by simp[-XG,-XH,aC,aE]
theorem GQ{pre q:List Str}{x:Str}(h:cC x=false):¬ M3 (pre++x::q):=λz=>by
 have:=(z.2 pre.length x (G5 pre q x)).1;rw[h]at this;cases this
theorem KR{pre q:List Str}{x:Str}(h:x∈pre\/x∈q):¬ M3 (pre++x::q):=λz=>by
 rcases h with h|h
 ·have:=(z.2 pre.length x (G5 pre q x)).2
  rw[List.take_left',<- ZV,zbW]at this
  ·exact this h
  ·rfl
 ·obtain⟨j,F⟩:=List.mem_iff_getElem?.mp h
  have e:(pre++x::q)[pre.length+1+j]?=some x:=by
   rw[zce (by lia),show pre.length+1+j-pre.length=j+1 by lia];exact F
  have:=(z.2 _ x e).2;rw[<- ZV,zbW]at this;refine this ?_;rw[List.take_append,show pre.length+1+j-pre.length=j+1 by lia,List.take_succ_cons];simp[-XG,-XH,aC,aE]
theorem FL{ns:List Int}{f:Int->Int}{c m cc:Int}{n:Nat}(hf:Fx ns f)(h1:1<=n)(h6:n<=6):∃ks:List Str,dN [.lst (ns.map .int),.int cc,.lst ((cQ c m n).map .str)]=some (.lst (ks.map .str))/\(∀x∈ks,x.length<=1000)/\ks.length<=1000/\¬ M3 ks:=by
 have f2:=hf 2 (by decide) (by decide);have f3:=hf 3 (by decide) (by decide);have v7:=vI (c:=f 2) (m:=f 3) (many:=7) (by decide) (by decide);have N:=mL (c:=c) (m:=m) (n:=n);have F:=cH c m n;generalize hK:cQ c m n=K at N F ⊢;have p0:=X2 (cc/4) (show(n:Int)≠0 by lia);have p1:=X6 (cc/4) (show(0:Int)<(n:Int) by lia);have qp:=aO (i:=cc/4) (show(0:Int)<(n:Int) by lia);have r0:=X2 (cc/24) (show(n:Int)≠0 by lia);have r1:=X6 (cc/24) (show(0:Int)<(n:Int) by lia);have qr:=aO (i:=cc/24) (show(0:Int)<(n:Int) by lia);obtain⟨p,ep⟩:∃p:Nat,cc/4%(n:Int)=(p:Int):=⟨(cc/4%(n:Int)).toNat,by lia⟩;rw[ep]at p1 qp;obtain⟨q,Y⟩:=iF (w:=K.map D.str) (c:=(p:Int)) (by lia) (by rw[XR];lia);have W:=(iF (w:=K.map D.str) (c:=(p:Int)+1) (by lia) (by rw[XR];lia)).2;rw[ZF,<- zaO]at q;rw[ZF,<- zb0]at Y;rw[show((p:Int)+1).toNat=p+1 by lia,<- zb0]at W;have pl:(K.take p).length=p:=by rw[zai];lia
 have dl:(K.drop p).length=n-p:=by rw[zbE];lia
 have ad:(K.drop (p+1)).length=n-(p+1):=by rw[zbE];lia
 have m4:=aO (i:=cc) (show(0:Int)<4 by decide);have dd:=X2 cc (show(4:Int)≠0 by decide);have d1:=X6 cc (show(0:Int)<4 by decide);by_cases w0:cc%4=0
 ·exact⟨[],aM (by simp_all[b9,aD,m4,a7,F,qp,w0]),λx U=>(nomatch U),by decide,λz=>absurd z.1.1 (by decide)⟩
 by_cases w1:cc%4=1
 ·refine⟨cQ (f 2) (f 3) 7,aM ?_,mL,by rw[cH];decide,λz=>absurd z.1.2 (by rw[cH];decide)⟩
  simp_all[b9,aD,m4,a7,F,qp,w0,w1,f2,f3,v7]
 by_cases w2:cc%4=2
 ·obtain⟨x,ex,U⟩:∃x,fS (K.map D.str) (cc/24%(n:Int))=some (.str x)/\x∈K:=by
   obtain⟨r,er⟩:∃r:Nat,cc/24%(n:Int)=(r:Int):=⟨(cc/24%(n:Int)).toNat,by lia⟩;have hr:r<K.length:=by lia
   refine⟨K[r],?_,zbQ hr⟩;rw[er,lV];rw[YB];simp_all[hr]
  have J:aW (p+1)=true:=decide_eq_true (by lia);have G:aW (p+1+(n-p))=true:=decide_eq_true (by lia);refine⟨K.take p++x::K.drop p,aM ?_,λy hy=>?_,by simp[-XG,-XH,aC,aE];lia,KR ?_⟩
  ·simp_all[b9,aD,m4,a7,F,qp,qr,w0,w1,w2,q,Y,ex,pl,dl,J,G,zbw (show p<=n by lia),F]
  ·rcases List.mem_append.mp hy with h|h
   ·exact N y (zb1 h)
   ·rcases List.mem_cons.mp h with rfl|h
    ·exact N _ U
    ·exact N y (zb2 h)
  ·rw[<- List.mem_append,List.take_append_drop];exact U
 ·have w3:cc%4=3:=by lia
  obtain⟨x,ex,U,lx⟩:=sY (c:=cc/24);have J:aW (p+1)=true:=decide_eq_true (by lia);have G:aW (p+1+(n-(p+1)))=true:=decide_eq_true (by lia);refine⟨K.take p++x::K.drop (p+1),aM ?_,λy hy=>?_,by simp[-XG,-XH,aC,aE];lia,GQ U⟩
  ·simp_all[b9,aD,m4,a7,F,qp,w0,w1,w2,q,W,ex,pl,ad,J,G,zbw (show p<=n by lia),F]
  ·rcases List.mem_append.mp hy with h|h
   ·exact N y (zb1 h)
   ·rcases List.mem_cons.mp h with rfl|h
    ·lia
    ·exact N y (zb2 h)
theorem E4{cc:Int}{n:Nat}{q:List Ro}(h1:1<=n)(hl:q.length<=12):∃G:List Ro,dO [.int cc,.int (n:Int),.lst (q.map cY)]=some (.lst (G.map cY))/\G.length<=1000/\¬ (G.length<=12/\∀r∈G,EG (n:Int) r):=by
 obtain⟨B,pw,eB⟩:∃B:Int,iL (.int 10) (.int 30)=some (.int B)/\B=10^30:=⟨10^30,fR (by decide) (by decide) (by decide +kernel),rfl⟩;have B0:0<B:=by rw[eB];decide
 obtain⟨F,eF,F0⟩:∃F:Int,cJ (.int (cc/7)) (.int B)=some (.int F)/\0<=F:=⟨cc/7%B,aO B0,X2 _ (by lia)⟩;have L1:(0:Int)<(q.length:Int)+1:=by lia
 have p0:=X2 (cc/91) (show(q.length:Int)+1≠0 by lia);have p1:=X6 (cc/91) L1;have qp:=aO (i:=cc/91) L1;obtain⟨p,ep⟩:∃p:Nat,cc/91%((q.length:Int)+1)=(p:Int):=⟨(cc/91%((q.length:Int)+1)).toNat,by lia⟩;rw[ep]at p1 qp;obtain⟨J,N⟩:=iF (w:=q.map cY) (c:=(p:Int)) (by lia) (by rw[XR];lia);rw[ZF,<- zaO]at J;rw[ZF,<- zb0]at N;have pm:min p q.length=p:=zbw (by lia);have z6:aW 6=true:=rfl;have m7:=aO (i:=cc) (show(0:Int)<7 by decide);have d0:=X2 cc (show(7:Int)≠0 by decide);have d1:=X6 cc (show(0:Int)<7 by decide);by_cases w6:cc%7=6
 ·have hr:gX (13-(q.length:Int))=true:=by unfold gX;simp[-XG,-XH,aC,aE];lia
  have tn:(13-(q.length:Int)).toNat=13-q.length:=by lia
  have Y:aW (13-q.length)=true:=decide_eq_true (by lia);have W:aW (p+(13-q.length))=true:=decide_eq_true (by lia);have U:aW (p+(13-q.length)+(q.length-p))=true:=decide_eq_true (by lia);refine⟨q.take p++YE (13-q.length) ⟨0,(n:Int)-1,1,0,5⟩++q.drop p,aM ?_,by simp[-XG,-XH,aC,aE];lia,λz=>absurd z.1 (by simp[-XG,-XH,aC,aE];lia)⟩;have fl:(YE (13-q.length) [D.tup [.int 0,.int ((n:Int)-1),.int 1,.int 0,.int 5]]).flatten=YE (13-q.length) (D.tup [.int 0,.int ((n:Int)-1),.int 1,.int 0,.int 5]):=by
   induction 13-q.length with
   | zero=>rfl
   | succ k ih=>rw[zaA,zaT,ih,zaA];rfl
  simp_all[dM,aD,z6,m7,a7,pw,eF,qp,w6,J,N,hr,tn,fl,Y,W,U,pm,cY]
 ·obtain⟨r,er,hr⟩:∃r:Ro,fS [D.tup [.int ((n:Int)-1),.int ((n:Int)-1),.int 1,.int 0,.int 5],.tup [.int ((n:Int)-1),.int 0,.int 1,.int 0,.int 5],.tup [.int 0,.int ((n:Int)+F),.int 1,.int 0,.int 5],.tup [.int (-1-F),.int ((n:Int)-1),.int 1,.int 0,.int 5],.tup [.int 0,.int ((n:Int)-1),.int 1,.int 0,.int (-1-F)],.tup [.int 0,.int ((n:Int)-1),.int 1,.int 0,.int (B+1+F)]] (cc%7)=some (cY r)/\¬ EG (n:Int) r:=by
   have:cc%7=0\/cc%7=1\/cc%7=2\/cc%7=3\/cc%7=4\/cc%7=5:=by lia
   rcases this with e|e|e|e|e|e <;> rw[e]
   ·exact⟨⟨(n:Int)-1,(n:Int)-1,1,0,5⟩,rfl,λz=>by have:=z.1.2.1;simp[-XG,-XH,aC,aE]at this⟩
   ·exact⟨⟨(n:Int)-1,0,1,0,5⟩,rfl,λz=>by have:=z.1.2.1;simp[-XG,-XH,aC,aE]at this;lia⟩
   ·exact⟨⟨0,(n:Int)+F,1,0,5⟩,rfl,λz=>by have:=z.1.2.2;simp[-XG,-XH,aC,aE]at this;lia⟩
   ·exact⟨⟨-1-F,(n:Int)-1,1,0,5⟩,rfl,λz=>by have:=z.1.1;simp[-XG,-XH,aC,aE]at this;lia⟩
   ·exact⟨⟨0,(n:Int)-1,1,0,-1-F⟩,rfl,λz=>by have:=z.2.1;simp[-XG,-XH,aC,aE]at this;lia⟩
   ·exact⟨⟨0,(n:Int)-1,1,0,B+1+F⟩,rfl,λz=>by have:=z.2.2;rw[<- eB]at this;simp[-XG,-XH,aC,aE]at this;lia⟩
  have W:aW (p+1)=true:=decide_eq_true (by lia);have U:aW (p+1+(q.length-p))=true:=decide_eq_true (by lia);refine⟨q.take p++r::q.drop p,aM ?_,by simp[-XG,-XH,aC,aE];lia,λz=>hr (z.2 r (by simp[-XG,-XH,aC,aE]))⟩;simp_all[dM,aD,z6,m7,a7,pw,eF,qp,w6,J,N,er,W,U,pm]
theorem GD{cc:Int}{n:Nat}(N:n=1\/n=2):∃ts:List My.Tm,gM [.int cc,.int (n:Int)]=some (.lst (ts.map b6))/\ts.length<=9/\¬ ∀t∈ts,OkT n t:=by
 obtain⟨B,pw,B0⟩:∃B:Int,iL (.int 10) (.int 30)=some (.int B)/\0<B:=⟨10^30,fR (by decide) (by decide) (by decide +kernel),by decide⟩;obtain⟨F,eF,F0⟩:∃F:Int,cJ (.int (cc/10)) (.int B)=some (.int F)/\0<=F:=⟨cc/10%B,aO B0,X2 _ (by lia)⟩;have m5:=aO (i:=cc) (show(0:Int)<5 by decide);have w0:=X2 cc (show(5:Int)≠0 by decide);have w1:=X6 cc (show(0:Int)<5 by decide);have q0:=X2 (cc/30) (show(3:Int)≠0 by decide);have q1:=X6 (cc/30) (show(0:Int)<3 by decide);have f0:=X2 F (show(6:Int)≠0 by decide);have f1:=X6 F (show(0:Int)<6 by decide);have i0:=X2 (cc/5) (show(2:Int)≠0 by decide);have i1:=X6 (cc/5) (show(0:Int)<2 by decide);obtain⟨V,eV⟩:∃V:Int,bD (.int (cc/10%2)) (.int 5)=some (.int V):=⟨_,D7 (by decide) (by decide)⟩;obtain⟨G,hG,lG,nG⟩:∃G:List Int,(∀rest:Sv,bE (eR (bZ (aQ mV (aA 4) (eC (.int 0)))) (mR 3 (eC (.int 0))) gF) (bE (eR (bZ (aQ mV (aA 4) (eC (.int 1)))) (cF 3 (wB EA (aA 3) (eN (eC (.int 1))) fP)) gF) (bE (eR (bZ (aQ mV (aA 4) (eC (.int 2)))) (jH 3 (aQ cJ (aQ eY (aA 0) (eC (.int 5))) (aA 1)) (aQ EF (D6 (eC (.int 1))) (aA 2))) gF) (bE (eR (bZ (aQ mV (aA 4) (eC (.int 3)))) (jH 3 (aQ cJ (aQ eY (aA 0) (eC (.int 5))) (aA 1)) (aQ a8 (eC (.int 9)) (aA 2))) gF) (bE (eR (bZ (aQ mV (aA 4) (eC (.int 4)))) (jH 3 (aQ cJ (aQ eY (aA 0) (eC (.int 5))) (aA 1)) (aQ a8 (eC (.int 3)) (aQ cJ (aA 2) (eC (.int 6))))) gF) rest)))) [some (.int cc),some (.int (n:Int)),some (.int F),some (.lst ((YE n (0:Int)).map .int)),some (.int (cc%5)),none]=rest [some (.int cc),some (.int (n:Int)),some (.int F),some (.lst (G.map .int)),some (.int (cc%5)),none])/\G.length<=3/\¬ (G.length=n/\∀e∈G,0<=e/\e<=2):=by
  have hw:cc%5=0\/cc%5=1\/cc%5=2\/cc%5=3\/cc%5=4:=by lia
  have z1:aW 1=true:=rfl;have z2:aW 2=true:=rfl;rcases N with rfl|rfl
  ·have e1:cc/5%1=0:=by lia
   have U:=aO (i:=cc/5) (show(0:Int)<1 by decide);rw[e1]at U;have pt:∀e:D,k6 (.lst [.int 0]) (.int 0) e=some (.lst [e]):=λe=>kY (l:=[.int 0]) (by decide) (by decide)
   have W:EA (.lst [.int 0]) (some 1) none=some (.lst []):=rfl;rcases hw with e|e|e|e|e
   ·exact⟨[0,0],λrest=>by simp_all[e,z1],by decide,by decide⟩
   ·exact⟨[],λrest=>by simp_all[e,W],by decide,by decide⟩
   ·exact⟨[-1-F],λrest=>by simp_all[e,a7,U,pt],by simp[-XG,-XH,aC,aE],λz=>by have:=(z.2 _ (X8 ..)).1;lia⟩
   ·exact⟨[9+F],λrest=>by simp_all[e,a7,U,pt],by simp[-XG,-XH,aC,aE],λz=>by have:=(z.2 _ (X8 ..)).2;lia⟩
   ·exact⟨[3+F%6],λrest=>by simp_all[e,a7,U,pt,aO (show(0:Int)<6 by decide)],by simp[-XG,-XH,aC,aE],λz=>by have:=(z.2 _ (X8 ..)).2;lia⟩
  ·have J:=aO (i:=cc/5) (show(0:Int)<2 by decide)
   have hi:cc/5%2=0\/cc/5%2=1:=by lia
   have p0:∀e:D,k6 (.lst [.int 0,.int 0]) (.int 0) e=some (.lst [e,.int 0]):=λe=>kY (l:=[.int 0,.int 0]) (by decide) (by decide)
   have p1:∀e:D,k6 (.lst [.int 0,.int 0]) (.int 1) e=some (.lst [.int 0,e]):=λe=>kY (l:=[.int 0,.int 0]) (by decide) (by decide)
   have W:EA (.lst [.int 0,.int 0]) (some 1) none=some (.lst [.int 0]):=rfl;rcases hw with e|e|e|e|e
   ·exact⟨[0,0,0],λrest=>by simp_all[e,z2],by decide,by decide⟩
   ·exact⟨[0],λrest=>by simp_all[e,W],by decide,by decide⟩
   ·rcases hi with h|h <;> rw[h]at J
    ·exact⟨[-1-F,0],λrest=>by simp_all[e,a7,J,p0],by simp[-XG,-XH,aC,aE],λz=>by have:=(z.2 (-1-F) (by simp[-XG,-XH,aC,aE])).1;lia⟩
    ·exact⟨[0,-1-F],λrest=>by simp_all[e,a7,J,p1],by simp[-XG,-XH,aC,aE],λz=>by have:=(z.2 (-1-F) (by simp[-XG,-XH,aC,aE])).1;lia⟩
   ·rcases hi with h|h <;> rw[h]at J
    ·exact⟨[9+F,0],λrest=>by simp_all[e,a7,J,p0],by simp[-XG,-XH,aC,aE],λz=>by have:=(z.2 (9+F) (by simp[-XG,-XH,aC,aE])).2;lia⟩
    ·exact⟨[0,9+F],λrest=>by simp_all[e,a7,J,p1],by simp[-XG,-XH,aC,aE],λz=>by have:=(z.2 (9+F) (by simp[-XG,-XH,aC,aE])).2;lia⟩
   ·rcases hi with h|h <;> rw[h]at J
    ·exact⟨[3+F%6,0],λrest=>by simp_all[e,a7,J,p0,aO (show(0:Int)<6 by decide)],by simp[-XG,-XH,aC,aE],λz=>by have:=(z.2 (3+F%6) (by simp[-XG,-XH,aC,aE])).2;lia⟩
    ·exact⟨[0,3+F%6],λrest=>by simp_all[e,a7,J,p1,aO (show(0:Int)<6 by decide)],by simp[-XG,-XH,aC,aE],λz=>by have:=(z.2 (3+F%6) (by simp[-XG,-XH,aC,aE])).2;lia⟩
 have s0:EA (.lst [.int 0,.int 0]) none (some (n:Int))=some (.lst ((YE n (0:Int)).map .int)):=by rcases N with rfl|rfl <;> rfl
 have s1:=uC N 1 2;have s2:=uC N 2 0;obtain⟨q,eq⟩:∃q:Nat,cc/30%3=(q:Int):=⟨(cc/30%3).toNat,by lia⟩;have hq:q<=2:=by lia
 have Y:¬ OkT n (G,V):=λz=>nG z
 refine⟨[(iI n 1 2,7),(iI n 2 0,3)].take q++(G,V)::[(iI n 1 2,7),(iI n 2 0,3)].drop q,aM ?_,?_,λz=>Y (z (G,V) (by simp[-XG,-XH,aC,aE]))⟩
 ·unfold gI
  rw[aG (aP (d:=.int F) (by simp_all[aD,a7,pw,eF]))];rw[aG (aP (d:=.lst ((YE n (0:Int)).map .int)) (by simp_all[aD,s0]))];rw[aG (aP (d:=.int (cc%5)) (by simp_all[aD,m5]))];refine(hG _).trans ?_;rw[aG (aP (d:=.lst [b6 (iI n 1 2,7),b6 (iI n 2 0,3)]) (by simp_all[s1,s2,b6]))];have hz:aW 2=true:=rfl;have ab:cT [.lst (G.map .int)]=some (tupI G):=rfl;have ins:∀q:Nat,q<=2->(if aW ([b6 (iI n 1 2,7),b6 (iI n 2 0,3)]:List D).length=true/\0<=(q:Int)/\(q:Int)<=(([b6 (iI n 1 2,7),b6 (iI n 2 0,3)]:List D).length:Int)then some (Out.nx ([some (.int cc),some (.int (n:Int)),some (.int F),some (.lst (G.map .int)),some (.int (cc%5)),some (.lst (([b6 (iI n 1 2,7),b6 (iI n 2 0,3)]:List D).take q++b6 (G,V)::([b6 (iI n 1 2,7),b6 (iI n 2 0,3)]:List D).drop q))]:cL))else none)=some (Out.nx ([some (.int cc),some (.int (n:Int)),some (.int F),some (.lst (G.map .int)),some (.int (cc%5)),some (.lst ((([(iI n 1 2,7),(iI n 2 0,3)]:List My.Tm).take q++(G,V)::([(iI n 1 2,7),(iI n 2 0,3)]:List My.Tm).drop q).map b6))]:cL)):=λq hq=>by
   rw[if_pos ⟨rfl,by lia,by simp[-XG,-XH,aC,aE];lia⟩];simp_all[zaO,zb0]
  have:=ins q hq;rw[aG (ρ':=[some (.int cc),some (.int (n:Int)),some (.int F),some (.lst (G.map .int)),some (.int (cc%5)),some (.lst ((([(iI n 1 2,7),(iI n 2 0,3)]:List My.Tm).take q++(G,V)::([(iI n 1 2,7),(iI n 2 0,3)]:List My.Tm).drop q).map b6))]) (by
   unfold TQ;simp_all[a7,aO (show(0:Int)<3 by decide),aO (show(0:Int)<2 by decide),eq,eV,ab];simpa[b6]using this)]
  simp[-XG,-XH,aC,aE]
 ·simp[-XG,-XH,aC,aE];lia
theorem LN{cc:Int}{n:Nat}{nm:Str}(h1:1<=n)(ae:cC nm=true):∃m:Mk,iJ [.int cc,.int (n:Int),.str nm]=some (bY m)/\m.nm.length<=1000/\m.ts.length<=9/\¬ OkM (n:Int) 9 m:=by
 obtain⟨B,pw,eB⟩:∃B:Int,iL (.int 10) (.int 30)=some (.int B)/\B=10^30:=⟨10^30,fR (by decide) (by decide) (by decide +kernel),rfl⟩;have B0:0<B:=by rw[eB];decide
 obtain⟨F,eF,F0⟩:∃F:Int,cJ (.int (cc/48)) (.int B)=some (.int F)/\0<=F:=⟨cc/48%B,aO B0,X2 _ (by lia)⟩;have nl:=kO ae;have ac:=aO (i:=cc) (show(0:Int)<12 by decide);have k0:=X2 (cc/12) (show(2:Int)≠0 by decide);have k1:=X6 (cc/12) (show(0:Int)<2 by decide);obtain⟨k,ek⟩:∃k:Nat,1+cc/12%2=(k:Int):=⟨(1+cc/12%2).toNat,by lia⟩;have Y:k=1\/k=2:=by lia
 have i0:=X2 (cc/24) (show(2:Int)≠0 by decide);have i1:=X6 (cc/24) (show(0:Int)<2 by decide);have hi:cc/24%2=0\/cc/24%2=1:=by lia
 have W:=λc:Int=>aO (i:=c) (show(0:Int)<2 by decide)
 obtain⟨O,eO,hO⟩:∃O:Int,fS [D.int ((n:Int)+F),.int (-1-F)] (cc/24%2)=some (.int O)/\¬ (0<=O/\O<(n:Int)):=by
  rcases hi with h|h <;> rw[h]
  ·exact⟨(n:Int)+F,rfl,by lia⟩
  ·exact⟨-1-F,rfl,by lia⟩
 have sT:=uC Y 0 ((n:Int)-1);have sP:=uC Y 1 2;obtain⟨T,eT,q,sA,sB⟩:∃T:List Int,iI k 0 ((n:Int)-1)=T/\T.length=k/\iM (tupI T) (some 1) none=some (tupI (T.drop 1))/\iM (tupI T) none (some (-1))=some (tupI T.dropLast):=by
  rcases Y with rfl|rfl
  ·exact⟨_,rfl,rfl,rfl,rfl⟩
  ·exact⟨_,rfl,rfl,rfl,rfl⟩
 rw[eT]at sT;have kT:(T.length:Int)=(k:Int):=by rw[q]
 have U:aW (1+(k-1))=true:=decide_eq_true (by lia);have N:aW (k-1+1)=true:=decide_eq_true (by lia);have st:∀ {rest:Sv} {o:Option Out},rest [some (.int cc),some (.int (n:Int)),some (.str nm),some (.int F),some (.int (cc%12)),some (tupI T),some (.int O),some (.lst [b6 (iI k 1 2,7)])]=o->bE (cF 3 (aQ cJ (aQ eY (aA 0) (eC (.int 48))) (aQ iL (eC (.int 10)) (eC (.int 30))))) (bE (cF 4 (aQ cJ (aA 0) (eC (.int 12)))) (bE (cF 5 (wB iM (c8 (aB (eC (.int 0)) (aB (aQ EF (aA 1) (eC (.int 1))) aJ))) fP (eN (aQ a8 (eC (.int 1)) (aQ cJ (aQ eY (aA 0) (eC (.int 12))) (eC (.int 2))))))) (bE (cF 6 (aQ a6 (mU (aB (aQ a8 (aA 1) (aA 3)) (aB (aQ EF (D6 (eC (.int 1))) (aA 3)) aJ))) (aQ cJ (aQ eY (aA 0) (eC (.int 24))) (eC (.int 2))))) (bE (cF 7 (mU (aB (c8 (aB (wB iM (c8 (aB (eC (.int 1)) (aB (eC (.int 2)) aJ))) fP (eN (aI dY (aB (aA 5) aJ)))) (aB (eC (.int 7)) aJ))) aJ))) rest)))) (aD 8 [.int cc,.int (n:Int),.str nm])=o:=λ{rest o} e=>by
  rw[aG (aP (d:=.int F) (by simp_all[aD,a7,pw,eF]))];rw[aG (aP (d:=.int (cc%12)) (by simp_all[aD,ac]))];rw[aG (aP (d:=tupI T) (by simp_all[aD,a7,W,ek,sT]))];rw[aG (aP (d:=.int O) (by simp_all[aD,a7,W,eO]))];rw[aG (aP (d:=.lst [b6 (iI k 1 2,7)]) (by simp[-XG,-XH,aC,aE,aD,tupI,kT,sP,b6]at sP ⊢))];exact e
 by_cases w0:cc%12=0
 ·obtain⟨x,ex,hx,lx⟩:=sY (c:=cc/48)
  refine⟨⟨x,T,0,[(iI k 1 2,7)],5⟩,aM (st ?_),by show x.length<=1000;lia,by simp[-XG,-XH,aC,aE],λz=>by have:=z.nm;rw[hx]at this;cases this⟩;simp_all[w0,a7,ex,bY]
 by_cases G:cc%12=1
 ·obtain⟨t,et,ht⟩:∃t:List Int,fS [D.tup [],.tup [.int 0,.int 0,.int 0]] (cc/24%2)=some (tupI t)/\¬ ((∃a,t=[a])\/∃a b,t=[a,b]):=by
   rcases hi with h|h <;> rw[h]
   ·exact⟨[],rfl,by rintro(⟨a,e⟩|⟨a,b,e⟩) <;> cases e⟩
   ·exact⟨[0,0,0],rfl,by rintro(⟨a,e⟩|⟨a,b,e⟩) <;> cases e⟩
  refine⟨⟨nm,t,0,[],5⟩,aM (st ?_),by show nm.length<=1000;lia,by simp[-XG,-XH,aC,aE],λz=>ht z.tk⟩;simp_all[w0,G,a7,W,et,bY]
 by_cases J:cc%12=2
 ·refine⟨⟨nm,O::T.drop 1,0,[(iI k 1 2,7)],5⟩,aM (st ?_),by show nm.length<=1000;lia,by simp[-XG,-XH,aC,aE],λz=>hO (z.tb O (X8 ..))⟩
  simp[-XG,-XH,aC,aE,w0,G,J,sA,bY,tupI,q,U]at sA ⊢;simp_all[sA,q,U]
 by_cases w3:cc%12=3
 ·refine⟨⟨nm,T.dropLast++[O],0,[(iI k 1 2,7)],5⟩,aM (st ?_),by show nm.length<=1000;lia,by simp[-XG,-XH,aC,aE],λz=>hO (z.tb O (by simp[-XG,-XH,aC,aE]))⟩
  simp[-XG,-XH,aC,aE,w0,G,J,w3,sB,bY,tupI,q,N]at sB ⊢;simp_all[sB,q,N]
 by_cases w4:cc%12=4
 ·refine⟨⟨nm,T,O,[(iI k 1 2,7)],5⟩,aM (st ?_),by show nm.length<=1000;lia,by simp[-XG,-XH,aC,aE],λz=>hO z.gv⟩
  simp_all[w0,G,J,w3,w4,bY]
 by_cases w5:cc%12=5
 ·obtain⟨p,ep,hp⟩:∃p:Int,fS [D.int (B+1+F),.int (-1-F)] (cc/24%2)=some (.int p)/\¬ (0<=p/\p<=B):=by
   rcases hi with h|h <;> rw[h]
   ·exact⟨B+1+F,rfl,by lia⟩
   ·exact⟨-1-F,rfl,by lia⟩
  refine⟨⟨nm,T,0,[(iI k 1 2,7)],p⟩,aM (st ?_),by show nm.length<=1000;lia,by simp[-XG,-XH,aC,aE],λz=>hp (by rw[eB];exact z.pr)⟩;simp_all[w0,G,J,w3,w4,w5,a7,W,pw,ep,bY]
 ·obtain⟨ts,et,l9,hb⟩:=GD (cc:=cc/24) (n:=k) Y
  refine⟨⟨nm,T,0,ts,5⟩,aM (st ?_),by show nm.length<=1000;lia,l9,λz=>hb (by have:=z.tt;rw[q]at this;exact this)⟩;simp_all[w0,G,J,w3,w4,w5,a7,tupI,q,et,bY]
theorem LG{q:Type}{p:Nat}{l:List q}{x y:q}(h:y∈l.take p++x::l.drop p):y=x\/y∈l:=by
 rcases List.mem_append.mp h with h|h
 ·exact .inr (zb1 h)
 ·rcases List.mem_cons.mp h with h|h
  ·exact .inl h
  ·exact .inr (zb2 h)
theorem FE{cc:Int}{n:Nat}{nm:Str}{ms:List Mk}(h1:1<=n)(aa:cC nm=true)(hl:ms.length<=16)(hm:∀m∈ms,OkM (n:Int) 9 m):∃F:List Mk,dJ [.int cc,.int (n:Int),.str nm,.lst (ms.map bY)]=some (.lst (F.map bY))/\F.length<=1000/\(∀m∈F,m.nm.length<=1000/\m.ts.length<=9)/\¬ (F.length<=16/\(∀m∈F,OkM (n:Int) 9 m)/\∀nm k,cnt F nm k<=6):=by
 obtain⟨B,pw⟩:∃B:Int,iL (.int 10) (.int 30)=some (.int B):=⟨10^30,fR (by decide) (by decide) (by decide +kernel)⟩;have nl:=kO aa;have W:∀m∈ms,m.nm.length<=1000/\m.ts.length<=9:=λm h=>⟨by have:=(hm m h).nl;lia,(hm m h).tl⟩
 have L1:(0:Int)<(ms.length:Int)+1:=by lia
 have p0:=X2 (cc/7) (show(ms.length:Int)+1≠0 by lia);have p1:=X6 (cc/7) L1;have qp:=aO (i:=cc/7) L1;obtain⟨p,ep⟩:∃p:Nat,cc/7%((ms.length:Int)+1)=(p:Int):=⟨(cc/7%((ms.length:Int)+1)).toNat,by lia⟩;rw[ep]at p1 qp;obtain⟨N,U⟩:=iF (w:=ms.map bY) (c:=(p:Int)) (by lia) (by rw[XR];lia);rw[ZF,<- zaO]at N;rw[ZF,<- zb0]at U;have pm:min p ms.length=p:=zbw (by lia);have m7:=aO (i:=cc) (show(0:Int)<7 by decide);have r5:∀x:D,D8 (.lst [x]) (.int 5)=some (.lst [x,x,x,x,x]):=λx=>rfl
 have r6:∀x:D,D8 (.lst [x]) (.int 6)=some (.lst [x,x,x,x,x,x]):=λx=>rfl
 have r7:∀x:D,D8 (.lst [x]) (.int 7)=some (.lst [x,x,x,x,x,x,x]):=λx=>rfl
 obtain⟨g,eg⟩:∃g:Mk,g=⟨nm,[0],(n:Int)-1,[([1],3)],5⟩:=⟨_,rfl⟩;have gD:D.tup [.str nm,.tup [.int 0],.int ((n:Int)-1),.lst [.tup [.tup [.int 1],.int 3]],.int 5]=bY g:=by rw[eg];rfl
 have gs:g.nm.length<=1000/\g.ts.length<=9:=by rw[eg];exact⟨by show nm.length<=1000;lia,by simp[-XG,-XH,aC,aE]⟩
 have st:∀ {rest:Sv} {o:Option Out},rest [some (.int cc),some (.int (n:Int)),some (.str nm),some (.lst (ms.map bY)),some (.int (p:Int)),some (bY g),none]=o->bE (cF 4 (aQ cJ (aQ eY (aA 0) (eC (.int 7))) (aQ a8 (aI dY (aB (aA 3) aJ)) (eC (.int 1))))) (bE (cF 5 (c8 (aB (aA 2) (aB (c8 (aB (eC (.int 0)) aJ)) (aB (aQ EF (aA 1) (eC (.int 1))) (aB (mU (aB (c8 (aB (c8 (aB (eC (.int 1)) aJ)) (aB (eC (.int 3)) aJ))) aJ)) (aB (eC (.int 5)) aJ))))))) rest) (aD 7 [.int cc,.int (n:Int),.str nm,.lst (ms.map bY)])=o:=λ{rest o} e=>by
  rw[aG (aP (d:=.int (p:Int)) (by simp_all[aD,a7,qp]))];rw[aG (aP (d:=bY g) (by simp_all[aD,gD]))];exact e
 by_cases w5:cc%7=5
 ·have J:aW (p+7)=true:=decide_eq_true (by lia)
  have G:aW (p+7+(ms.length-p))=true:=decide_eq_true (by lia);refine⟨ms.take p++[g,g,g,g,g,g,g]++ms.drop p,aM (st ?_),by simp[-XG,-XH,aC,aE];lia,λm h=>?_,λz=>?_⟩
  ·simp_all[m7,w5,N,U,r7,J,G,pm]
  ·rcases List.mem_append.mp h with h|h
   ·rcases List.mem_append.mp h with h|h
    ·exact W m (zb1 h)
    ·have:m=g:=by simpa using h
     rw[this];exact gs
   ·exact W m (zb2 h)
  ·have:=z.2.2 nm 1
   have ig:isD nm 1 g=true:=by rw[eg];unfold isD;simp[-XG,-XH,aC,aE]
   unfold cnt at this;rw[zbZ,zbZ,Y3,Y3]at this;have e7:([g,g,g,g,g,g,g].filter (isD nm 1)).length=7:=by simp_all[List.filter,ig]
   lia
 by_cases w6:cc%7=6
 ·obtain⟨o,eo⟩:∃o:Mk,o=⟨nm,[0,(n:Int)-1],0,[],B⟩:=⟨_,rfl⟩
  have oD:D.tup [.str nm,.tup [.int 0,.int ((n:Int)-1)],.int 0,.lst [],.int B]=bY o:=by rw[eo];rfl
  obtain⟨q,eq⟩:∃q:Mk,q=⟨"qq",[0],0,[],0⟩:=⟨_,rfl⟩;have qD:D.tup [.str "qq",.tup [.int 0],.int 0,.lst [],.int 0]=bY q:=by rw[eq];rfl
  have J:aW (p+6)=true:=decide_eq_true (by lia);have G:aW (p+6+6)=true:=decide_eq_true (by lia);have ag:aW (p+6+6+(ms.length-p))=true:=decide_eq_true (by lia);have ah:aW (p+6+6+(ms.length-p)+5)=true:=decide_eq_true (by lia);have ab:aW (p+12)=true:=decide_eq_true (by lia);have ac:aW (p+(ms.length-p+12))=true:=decide_eq_true (by lia);have aj:aW (p+(ms.length-p+1+1+1+1+1+1+1+1+1+1+1+1)+5)=true:=decide_eq_true (by lia);have Y:aW (p+(ms.length-p+17))=true:=decide_eq_true (by lia);refine⟨ms.take p++[g,g,g,g,g,g]++[o,o,o,o,o,o]++ms.drop p++[q,q,q,q,q],aM (st ?_),by simp[-XG,-XH,aC,aE];lia,λm h=>?_,λz=>absurd z.1 (by simp[-XG,-XH,aC,aE];lia)⟩
  ·simp_all[m7,w5,w6,N,U,r6,r5,J,G,ag,ah,ab,ac,Y,aj,pm,pw,oD,qD]
  ·have os:o.nm.length<=1000/\o.ts.length<=9:=by rw[eo];exact⟨by show nm.length<=1000;lia,by simp[-XG,-XH,aC,aE]⟩
   have qs:q.nm.length<=1000/\q.ts.length<=9:=by rw[eq];exact⟨by decide +kernel,by simp[-XG,-XH,aC,aE]⟩
   simp only[List.mem_append,Y7,Y8,or_false]at h;rcases h with(((h|h)|h)|h)|h
   ·exact W m (zb1 h)
   ·have:m=g:=by simpa using h
    rw[this];exact gs
   ·have:m=o:=by simpa using h
    rw[this];exact os
   ·exact W m (zb2 h)
   ·have:m=q:=by simpa using h
    rw[this];exact qs
 ·obtain⟨m,em,s1,s2,no⟩:=LN (cc:=cc/119) (n:=n) (nm:=nm) h1 aa
  have J:aW (p+1)=true:=decide_eq_true (by lia);have G:aW (p+1+(ms.length-p))=true:=decide_eq_true (by lia);refine⟨ms.take p++m::ms.drop p,aM (st ?_),by simp[-XG,-XH,aC,aE];lia,λy h=>?_,λz=>no (z.2.1 m (by simp[-XG,-XH,aC,aE]))⟩
  ·simp_all[m7,w5,w6,N,U,a7,em,J,G,pm]
  ·rcases LG h with h|h
   ·rw[h];exact⟨s1,s2⟩
   ·exact W y h
theorem QI{ns:List Int}{b:Rb}(ok:OkB b):∃(G:Int) (ks:List Str) (F:List Ro) (q:List Mk) (b0 b1 b2 b3:Bool),pK [.lst (ns.map .int),oI b]=some (.lst [.lst [.int G,.lst (ks.map .str),.lst (F.map cY),.lst (q.map bY)],.lst [.bl b0,.bl b1,.bl b2,.bl b3]]) /\
  (if b0=true then G<10^60/\(G<3\/G%2=0)else G=b.M) /\
  (if b1=true then(∀x∈ks,x.length<=1000)/\ks.length<=1000/\¬ M3 ks else ks=cQ b.c b.m b.n) /\
  (if b2=true then F.length<=1000/\¬ (F.length<=12/\∀r∈F,EG (b.n:Int) r)else F=b.rs) /\
  (if b3=true then q.length<=1000/\(∀m∈q,m.nm.length<=1000/\m.ts.length<=9)/\¬ (q.length<=16/\(∀m∈q,OkM (b.n:Int) 9 m)/\∀nm k,cnt q nm k<=6)else q=b.ms):=by
 obtain⟨f,Y⟩:=A9 ns;have f6:=Y 6 (by decide) (by decide);have f7:=Y 7 (by decide) (by decide);have f8:=Y 8 (by decide) (by decide);have f9:=Y 9 (by decide) (by decide);have m2:=λc:Int=>aO (i:=c) (show(0:Int)<2 by decide)
 have n1:=ok.hn.1;have n6:=ok.hn.2;have ln:=cH b.c b.m b.n;obtain⟨b0,e0⟩:∃b0:Bool,b0=decide (f 6%2=1):=⟨_,rfl⟩;obtain⟨b1,e1⟩:∃b1:Bool,b1=decide (f 6/2%2=1):=⟨_,rfl⟩;obtain⟨b2,e2⟩:∃b2:Bool,b2=decide (f 6/4%2=1):=⟨_,rfl⟩;obtain⟨b3,e3⟩:∃b3:Bool,b3=decide (f 6/8%2=1):=⟨_,rfl⟩;obtain⟨S,eS⟩:∃S:D,S=.lst (ns.map .int):=⟨_,rfl⟩;obtain⟨x,ex,hx⟩:∃x:Str,fS ((cQ b.c b.m b.n).map D.str) 0=some (.str x)/\cC x=true:=by
  refine⟨wN b.c b.m 0,?_,(uI b.c b.m 0).1⟩;obtain⟨k,ek⟩:∃k,b.n=k+1:=⟨b.n-1,by lia⟩;have:cQ b.c b.m b.n=wN b.c b.m 0::(cQ b.c b.m b.n).drop 1:=by
   rw[ek];unfold cQ;rw[List.range_succ_eq_map];rfl
  show fS ((cQ b.c b.m b.n).map D.str) ((0:Nat):Int)=_;exact lV (by rw[this];rfl)
 have a0:∀a b c d:D,fS [a,b,c,d] 0=some a:=λ_ _ _ _=>rfl
 have J:∀a b c d:D,fS [a,b,c,d] 1=some b:=λ_ _ _ _=>rfl
 have W:∀a b c d:D,fS [a,b,c,d] 2=some c:=λ_ _ _ _=>rfl
 have U:∀a b c d:D,fS [a,b,c,d] 3=some d:=λ_ _ _ _=>rfl
 obtain⟨G,hM,g0⟩:∃G:Int,(if b0=true then G<10^60/\(G<3\/G%2=0)else G=b.M)/\∀(rest:Sv) (N K R T:D),bE (eR (bZ (aQ a6 (aA 4) (eC (.int 0)))) (jH 5 (eC (.int 0)) (aI dI (aB (aQ eY (aA 2) (eC (.int 16))) aJ))) gF) rest [some S,some (oI b),some (.int (f 6)),some N,some (.lst [.bl b0,.bl b1,.bl b2,.bl b3]),some (.lst [.int b.M,K,R,T])]=rest [some S,some (oI b),some (.int (f 6)),some N,some (.lst [.bl b0,.bl b1,.bl b2,.bl b3]),some (.lst [.int G,K,R,T])]:=by
  cases b0 with
  | false=>exact⟨b.M,rfl,λrest N K R T=>by simp_all[a0,J,W,U]⟩
  | true=>
   obtain⟨G,v,h⟩:=FR (c:=f 6/16);have pt:∀K R T:D,k6 (.lst [.int b.M,K,R,T]) (.int 0) (.int G)=some (.lst [.int G,K,R,T]):=λK R T=>kY (l:=[.int b.M,K,R,T]) (by decide) (by simp[-XG,-XH,aC,aE])
   exact⟨G,h,λrest N K R T=>by simp_all[a0,a7,v,pt]⟩
 obtain⟨ks,hk,g1⟩:∃ks:List Str,(if b1=true then(∀x∈ks,x.length<=1000)/\ks.length<=1000/\¬ M3 ks else ks=cQ b.c b.m b.n)/\∀(rest:Sv) (N M R T:D),bE (eR (bZ (aQ a6 (aA 4) (eC (.int 1)))) (jH 5 (eC (.int 1)) (aI dN (aB (aA 0) (aB (aI aX (aB (aA 0) (aB (eC (.int 7)) aJ))) (aB (aQ a6 (aA 1) (eC (.int 1))) aJ))))) gF) rest [some S,some (oI b),some (.int (f 6)),some N,some (.lst [.bl b0,.bl b1,.bl b2,.bl b3]),some (.lst [M,.lst ((cQ b.c b.m b.n).map .str),R,T])]=rest [some S,some (oI b),some (.int (f 6)),some N,some (.lst [.bl b0,.bl b1,.bl b2,.bl b3]),some (.lst [M,.lst (ks.map .str),R,T])]:=by
  cases b1 with
  | false=>exact⟨_,rfl,λrest N K R T=>by simp_all[a0,J,W,U]⟩
  | true=>
   obtain⟨ks,v,h⟩:=FL (c:=b.c) (m:=b.m) (cc:=f 7) Y n1 n6;have pt:∀K R T:D,k6 (.lst [K,.lst ((cQ b.c b.m b.n).map .str),R,T]) (.int 1) (.lst (ks.map .str))=some (.lst [K,.lst (ks.map .str),R,T]):=λK R T=>kY (l:=[K,.lst ((cQ b.c b.m b.n).map .str),R,T]) (by decide) (by simp[-XG,-XH,aC,aE])
   exact⟨ks,h,λrest N K R T=>by subst eS;simp_all[a0,J,W,U,f7,oI,v,pt]⟩
 obtain⟨F,hr,g2⟩:∃F:List Ro,(if b2=true then F.length<=1000/\¬ (F.length<=12/\∀r∈F,EG (b.n:Int) r)else F=b.rs)/\∀(rest:Sv) (M K T:D),bE (eR (bZ (aQ a6 (aA 4) (eC (.int 2)))) (jH 5 (eC (.int 2)) (aI dO (aB (aI aX (aB (aA 0) (aB (eC (.int 8)) aJ))) (aB (aA 3) (aB (aQ a6 (aA 1) (eC (.int 2))) aJ))))) gF) rest [some S,some (oI b),some (.int (f 6)),some (.int (b.n:Int)),some (.lst [.bl b0,.bl b1,.bl b2,.bl b3]),some (.lst [M,K,.lst (b.rs.map cY),T])]=rest [some S,some (oI b),some (.int (f 6)),some (.int (b.n:Int)),some (.lst [.bl b0,.bl b1,.bl b2,.bl b3]),some (.lst [M,K,.lst (F.map cY),T])]:=by
  cases b2 with
  | false=>exact⟨_,rfl,λrest M K T=>by simp_all[a0,J,W,U]⟩
  | true=>
   obtain⟨F,v,h⟩:=E4 (cc:=f 8) (n:=b.n) n1 ok.rl;have pt:∀M K T:D,k6 (.lst [M,K,.lst (b.rs.map cY),T]) (.int 2) (.lst (F.map cY))=some (.lst [M,K,.lst (F.map cY),T]):=λM K T=>kY (l:=[M,K,.lst (b.rs.map cY),T]) (by decide) (by simp[-XG,-XH,aC,aE])
   exact⟨F,h,λrest M K T=>by subst eS;simp_all[a0,J,W,U,f8,oI,v,pt]⟩
 obtain⟨q,hm,g3⟩:∃q:List Mk,(if b3=true then q.length<=1000/\(∀m∈q,m.nm.length<=1000/\m.ts.length<=9)/\¬ (q.length<=16/\(∀m∈q,OkM (b.n:Int) 9 m)/\∀nm k,cnt q nm k<=6)else q=b.ms)/\∀(rest:Sv) (M K R:D),bE (eR (bZ (aQ a6 (aA 4) (eC (.int 3)))) (jH 5 (eC (.int 3)) (aI dJ (aB (aI aX (aB (aA 0) (aB (eC (.int 9)) aJ))) (aB (aA 3) (aB (aQ a6 (aQ a6 (aA 1) (eC (.int 1))) (eC (.int 0))) (aB (aQ a6 (aA 1) (eC (.int 3))) aJ)))))) gF) rest [some S,some (oI b),some (.int (f 6)),some (.int (b.n:Int)),some (.lst [.bl b0,.bl b1,.bl b2,.bl b3]),some (.lst [M,K,R,.lst (b.ms.map bY)])]=rest [some S,some (oI b),some (.int (f 6)),some (.int (b.n:Int)),some (.lst [.bl b0,.bl b1,.bl b2,.bl b3]),some (.lst [M,K,R,.lst (q.map bY)])]:=by
  cases b3 with
  | false=>exact⟨_,rfl,λrest M K R=>by simp_all[a0,J,W,U]⟩
  | true=>
   obtain⟨q,v,h⟩:=FE (cc:=f 9) (n:=b.n) n1 hx ok.ml ok.mo;have pt:∀M K R:D,k6 (.lst [M,K,R,.lst (b.ms.map bY)]) (.int 3) (.lst (q.map bY))=some (.lst [M,K,R,.lst (q.map bY)]):=λM K R=>kY (l:=[M,K,R,.lst (b.ms.map bY)]) (by decide) (by simp[-XG,-XH,aC,aE])
   exact⟨q,h,λrest M K R=>by subst eS;simp_all[a0,J,W,U,f9,oI,ex,v,pt]⟩
 refine⟨G,ks,F,q,b0,b1,b2,b3,aM ?_,hM,hk,hr,hm⟩;rw[<- eS]at f6 ⊢;unfold oP;rw[aG (aP (d:=.int (f 6)) (by simp_all[aD,f6]))];rw[aG (aP (d:=.int (b.n:Int)) (by simp_all[aD,oI,ln,J]))];rw[aG (aP (d:=.lst [.bl b0,.bl b1,.bl b2,.bl b3]) (by simp_all[aD,a7,m2,e0,e1,e2,e3]))];rw[aG (aP (d:=.lst [.int b.M,.lst ((cQ b.c b.m b.n).map .str),.lst (b.rs.map cY),.lst (b.ms.map bY)]) (by simp_all[aD,oI,fO]))];refine(g0 _ _ _ _ _).trans ((g1 _ _ _ _ _).trans ((g2 _ _ _ _).trans ((g3 _ _ _ _).trans ?_)));simp[-XG,-XH,aC,aE]
theorem C6(ks:List Str):eqP 1 (.lst (ks.map .str)):=λd q=>by
 obtain⟨x,_,rfl⟩:=List.mem_map.mp q;trivial
theorem xP(n:Nat)(k:List Int):eqP (n+1) (tupI k):=λd q=>by
 obtain⟨x,_,rfl⟩:=List.mem_map.mp q;cases n <;> trivial
theorem CU(G:List Ro):eqP 2 (.lst (G.map cY)):=λd F=>by
 obtain⟨r,_,rfl⟩:=List.mem_map.mp F;intro e q;simp only[Y7,Y8,or_false]at q;rcases q with rfl|rfl|rfl|rfl|rfl <;> trivial
theorem DM(ms:List Mk):eqP 6 (.lst (ms.map bY)):=λd G=>by
 obtain⟨m,_,rfl⟩:=List.mem_map.mp G;intro e q;simp only[Y7,Y8,or_false]at q;rcases q with rfl|rfl|rfl|rfl|rfl
 ·trivial
 ·exact xP 3 _
 ·trivial
 ·intro t J
  obtain⟨t,_,rfl⟩:=List.mem_map.mp J;intro u F;simp only[Y7,Y8,or_false]at F;rcases F with rfl|rfl
  ·exact xP 1 _
  ·trivial
 ·trivial
abbrev MX:Sv:=bE (eR (EH (bZ (aQ yK (aA 4) (aQ a6 (aA 2) (eC (.int 1))))) (EH (bZ (aQ yK (aA 5) (aQ a6 (aA 2) (eC (.int 2))))) (EH (bZ (aQ yK (aA 6) (aQ a6 (aA 2) (eC (.int 3))))) (EH (bZ (aA 9)) (bZ (aA 10)))))) (CA (eC (.bl false))) gF) (bE (eR (dG (bZ (aI yI (aB (aA 3) aJ)))) (CA (Q7 (Q5 (aI yI (aB (aA 8) aJ))) (aI iT (aB (aA 7) (aB (aI mH (aB (aA 1) aJ)) aJ))))) gF) (bE (cF 12 (aQ fN (aA 3) (eC (.bl true)))) (CA (aQ MO (aA 8) (gY [none,some 12] (lR cM (aB (eC (.int 4)) aJ)) (aH 0) z5 (aQ mV (aA 0) (aA 1)))))))
theorem nX{S B M K R T:D}{b0 b1 b2 b3:Bool}{mk:List Bool}{i:Int}(J:yK K K=some (.bl false))(W:yK R R=some (.bl false))(nt:yK T T=some (.bl false))(an:[b0,b1,b2,b3].any id=true)(q:fN (.lst [.bl b0,.bl b1,.bl b2,.bl b3]) (.bl true)=some (.int i))(U:mk=[decide ((0:Int)=i),decide ((1:Int)=i),decide ((2:Int)=i),decide ((3:Int)=i)]) :
  MX [some S,some B,some (.lst [M,K,R,T]),some (.lst [.bl b0,.bl b1,.bl b2,.bl b3]),some K,some R,some T,some .non,some (.lst (mk.map .bl)),some (.bl false),some (.bl false),none,none]=some (.rt (.bl true)):=by
 have N:∀a b c d:D,fS [a,b,c,d] 1=some b:=λ_ _ _ _=>rfl
 have a2:∀a b c d:D,fS [a,b,c,d] 2=some c:=λ_ _ _ _=>rfl
 have G:∀a b c d:D,fS [a,b,c,d] 3=some d:=λ_ _ _ _=>rfl
 have av:yI [.lst [.bl b0,.bl b1,.bl b2,.bl b3]]=some (.bl true):=by have:=q_any (bs:=[b0,b1,b2,b3]);rw[an]at this;exact this
 have F:cM [.int 4]=some [.int 0,.int 1,.int 2,.int 3]:=rfl;have cp:gY [none,some 12] (lR cM (aB (eC (.int 4)) aJ)) (aH 0) z5 (aQ mV (aA 0) (aA 1)) [some S,some B,some (.lst [M,K,R,T]),some (.lst [.bl b0,.bl b1,.bl b2,.bl b3]),some K,some R,some T,some .non,some (.lst (mk.map .bl)),some (.bl false),some (.bl false),none,some (.int i)]=some (.lst (mk.map .bl)):=by
  subst U;have z4:aW 4=true:=rfl;simp_all[F,cE,oJ,z4]
 have Y:MO (.lst (mk.map .bl)) (.lst (mk.map .bl))=some (.bl true):=by simp_all[lS]
 unfold MX;rw[aG (ρ':=[some S,some B,some (.lst [M,K,R,T]),some (.lst [.bl b0,.bl b1,.bl b2,.bl b3]),some K,some R,some T,some .non,some (.lst (mk.map .bl)),some (.bl false),some (.bl false),none,none]) (by simp_all[N,a2,G,J,W,nt])];rw[aG (ρ':=[some S,some B,some (.lst [M,K,R,T]),some (.lst [.bl b0,.bl b1,.bl b2,.bl b3]),some K,some R,some T,some .non,some (.lst (mk.map .bl)),some (.bl false),some (.bl false),none,none]) (by simp_all[-q_any,av])];rw[aG (aP (d:=.int i) (by simp_all[q]))];refine M9 (yH rfl cp Y)
theorem MM{b0 b1 b2 b3:Bool}:(b0=true->fN (.lst [.bl b0,.bl b1,.bl b2,.bl b3]) (.bl true)=some (.int 0))/\(b0=false->b1=true->fN (.lst [.bl b0,.bl b1,.bl b2,.bl b3]) (.bl true)=some (.int 1))/\(b0=false->b1=false->b2=true->fN (.lst [.bl b0,.bl b1,.bl b2,.bl b3]) (.bl true)=some (.int 2))/\(b0=false->b1=false->b2=false->b3=true->fN (.lst [.bl b0,.bl b1,.bl b2,.bl b3]) (.bl true)=some (.int 3)):=by
 refine⟨?_,?_,?_,?_⟩
 ·rintro rfl;cases b1 <;> cases b2 <;> cases b3 <;> rfl
 ·rintro rfl rfl;cases b2 <;> cases b3 <;> rfl
 ·rintro rfl rfl rfl;cases b3 <;> rfl
 ·rintro rfl rfl rfl rfl;rfl
noncomputable def UV:List (Str×List (Nat×D)):=[("NoKind",[(8,.lst [.bl false,.bl true,.bl false,.bl false]),(9,.bl false),(10,.bl false)]),("NoMake",[(8,.lst [.bl false,.bl false,.bl false,.bl true]),(9,.bl false),(10,.bl false)]),("NoRoad",[(8,.lst [.bl false,.bl false,.bl true,.bl false]),(9,.bl false),(10,.bl false)]),("NoWheel",[(8,.lst [.bl true,.bl false,.bl false,.bl false]),(9,.bl false),(10,.bl false)])]
theorem B4{S B M K R T q m:D}{x:Str}{mk:List Bool}(J:c5 [M,K,R,T]=some x)(G:UV.lookup x=some [(8,.lst (mk.map .bl)),(9,.bl false),(10,.bl false)]):uG 7 11 mM c5 UV (λρ=>aB (aQ a6 (aA 2) (eC (.int 0))) (aB (aA 4) (aB (aA 5) (aB (aA 6) aJ))) ρ) [some S,some B,some (.lst [M,K,R,T]),some q,some K,some R,some T,some .non,some m,some (.bl false),some (.bl false),none,none]=some (.nx [some S,some B,some (.lst [M,K,R,T]),some q,some K,some R,some T,some .non,some (.lst (mk.map .bl)),some (.bl false),some (.bl false),none,none]):=by
 have a0:∀a b c d:D,fS [a,b,c,d] 0=some a:=λ_ _ _ _=>rfl
 have F:(aB (aQ a6 (aA 2) (eC (.int 0))) (aB (aA 4) (aB (aA 5) (aB (aA 6) aJ)))) [some S,some B,some (.lst [M,K,R,T]),some q,some K,some R,some T,some .non,some m,some (.bl false),some (.bl false),none,none]=some [M,K,R,T]:=by simp_all[a0]
 unfold uG;simp only[F,aC,J,G];rfl
theorem S6{S B M K R T q m d:D}(J:c5 [M,K,R,T]=none)(G:mM [M,K,R,T]=some d):uG 7 11 mM c5 UV (λρ=>aB (aQ a6 (aA 2) (eC (.int 0))) (aB (aA 4) (aB (aA 5) (aB (aA 6) aJ))) ρ) [some S,some B,some (.lst [M,K,R,T]),some q,some K,some R,some T,some .non,some m,some (.bl false),some (.bl false),none,none]=some (.nx [some S,some B,some (.lst [M,K,R,T]),some q,some K,some R,some T,some d,some m,some (.bl false),some (.bl false),none,none]):=by
 have a0:∀a b c d:D,fS [a,b,c,d] 0=some a:=λ_ _ _ _=>rfl
 have F:(aB (aQ a6 (aA 2) (eC (.int 0))) (aB (aA 4) (aB (aA 5) (aB (aA 6) aJ)))) [some S,some B,some (.lst [M,K,R,T]),some q,some K,some R,some T,some .non,some m,some (.bl false),some (.bl false),none,none]=some [M,K,R,T]:=by simp_all[a0]
 unfold uG;simp only[F,aC,J,G];rfl
theorem RU(ns:List Int)(Y:ns.length<=63):bT 13 B7 [.lst (ns.map .int)]=some (.bl true):=by
 obtain⟨b,eb,ok⟩:=SU ns Y;obtain⟨M',ks,q,F,b0,b1,b2,b3,ev,h0,h1,h2,G⟩:=QI (ns:=ns) ok;have J:=vC (C6 ks) (by decide) rfl;have N:=vC (CU q) (by decide) rfl;have U:=vC (DM F) (by decide) rfl;have a1:∀a b c d:D,fS [a,b,c,d] 1=some b:=λ_ _ _ _=>rfl
 have a2:∀a b c d:D,fS [a,b,c,d] 2=some c:=λ_ _ _ _=>rfl
 have a3:∀a b c d:D,fS [a,b,c,d] 3=some d:=λ_ _ _ _=>rfl
 refine aM ?_;have st:∀ {o:Option Out},bE (uG 7 11 mM c5 UV (λρ=>aB (aQ a6 (aA 2) (eC (.int 0))) (aB (aA 4) (aB (aA 5) (aB (aA 6) aJ))) ρ)) MX [some (.lst (ns.map .int)),some (oI b),some (.lst [.int M',.lst (ks.map .str),.lst (q.map cY),.lst (F.map bY)]),some (.lst [.bl b0,.bl b1,.bl b2,.bl b3]),some (.lst (ks.map .str)),some (.lst (q.map cY)),some (.lst (F.map bY)),some .non,some (.lst [.bl false,.bl false,.bl false,.bl false]),some (.bl false),some (.bl false),none,none]=o->B7 (aD 13 [.lst (ns.map .int)])=o:=λ{o} e=>by
  unfold B7;rw[aG (aP (d:=oI b) (by simp_all[aD,eb]))];rw[aG (ρ':=[some (.lst (ns.map .int)),some (oI b),some (.lst [.int M',.lst (ks.map .str),.lst (q.map cY),.lst (F.map bY)]),some (.lst [.bl b0,.bl b1,.bl b2,.bl b3]),none,none,none,none,none,none,none,none,none]) (by simp_all[aD,ev])];rw[aG (aP (d:=.lst (ks.map .str)) (by simp_all[a1,fO]))];rw[aG (aP (d:=.lst (q.map cY)) (by simp_all[a2,fO]))];rw[aG (aP (d:=.lst (F.map bY)) (by simp_all[a3,fO]))];rw[aG (aP (d:=.non) (by simp[-XG,-XH,aC,aE]))];rw[aG (aP (d:=.lst [.bl false,.bl false,.bl false,.bl false]) (by simp[-XG,-XH,aC,aE]))];rw[aG (aP (d:=.bl false) (by simp[-XG,-XH,aC,aE]))];rw[aG (aP (d:=.bl false) (by simp[-XG,-XH,aC,aE]))];exact e
 obtain⟨i0,i1,i2,i3⟩:=MM (b0:=b0) (b1:=b1) (b2:=b2) (b3:=b3);have W:UI b.M:=ok.hM;cases e0:b0 with
 | true=>
  subst e0;rw[if_pos rfl]at h0;exact st ((aG (B4 (mk:=[true,false,false,false]) (uP h0.1 h0.2) rfl)).trans (nX J N U (by simp[-XG,-XH,aC,aE]) (i0 rfl) (by simp[-XG,-XH,aC,aE])))
 | false=>
  subst e0;rw[if_neg XZ]at h0;subst h0;cases e1:b1 with
  | true=>
   subst e1;rw[if_pos rfl]at h1;exact st ((aG (B4 (mk:=[false,true,false,false]) (uR W h1.1 h1.2.1 h1.2.2) rfl)).trans (nX J N U (by simp[-XG,-XH,aC,aE]) (i1 rfl rfl) (by simp[-XG,-XH,aC,aE])))
  | false=>
   subst e1;rw[if_neg XZ]at h1;subst h1;cases e2:b2 with
   | true=>
    subst e2;rw[if_pos rfl]at h2;exact st ((aG (B4 (mk:=[false,false,true,false]) (uX W ok.hn.1 ok.hn.2 h2.1 h2.2) rfl)).trans (nX J N U (by simp[-XG,-XH,aC,aE]) (i2 rfl rfl rfl) (by simp[-XG,-XH,aC,aE])))
   | false=>
    subst e2;rw[if_neg XZ]at h2;subst h2;cases e3:b3 with
    | true=>
     subst e3;rw[if_pos rfl]at G;exact st ((aG (B4 (mk:=[false,false,false,true]) (lB W ok.hn.1 ok.hn.2 ok.rl ok.ro ((j6 W.1 G.1 G.2.1).2 G.2.2)) rfl)).trans (nX J N U (by simp[-XG,-XH,aC,aE]) (i3 rfl rfl rfl rfl) (by simp[-XG,-XH,aC,aE])))
    | false=>
     subst e3;rw[if_neg XZ]at G;subst G;refine st ((aG (S6 (DR ok) (OV ok))).trans ?_);have vd:=RY ok;have al:=JS (by decide) (N7 ok);have av:yI [.lst [.bl false,.bl false,.bl false,.bl false]]=some (.bl false):=rfl;simp_all[-q_any,MX,a1,a2,a3,J,N,U,av,vd,al]
theorem VD:Bds top tab:=by
 unfold tab
 repeat (refine Bds.cons ?_ ?_;· (repeat intro _);rfl)
 exact Bds.nil
theorem P9{l:zda}{w:World}{K:XF}{h:Heap}{mg:Str->Option Value}{fa:Addr}{k:Nat}(X:K.In h)(G:h.Ns YK mg)(a2:mg "law" = some (.ref fa))(D:Des K top tab)(B:Nos K blt)(J:Gis K WC)
  {f0:Addr} {a3 ay:Option Addr} {a4:Array (Option Value)} {a1 az ax aw as au:Value} (a0:zar K YK "law" = some (some (.ref f0))) (l0:K.lookup f0=some ⟨a1,a3,.func (Z0 "law" "law" (d7 s_law) (bO s_law) (aF s_law) .none az ax aw ay as au),a4⟩) (c0:zba K as "law" = true) (k0:zaw K (.ref f0)=true)
  {ak:Addr} {aq:Option Addr} {ar:Nat} {ap:Array (Option Value)} {an al ao am:Tok} (gaWORDS:zar K YK "WORDS" = some (some (.ref ak))) (glWORDS:K.lookup ak=some ⟨.type "tuple",aq,.seq #[.str "let" an,.str "in" al,.str "pick" ao,.str "again" am] ar,ap⟩)
  {q aj F ah ac ad ai aa Y ab af U N ag ae:Addr} (cl:My.Ces K [("ChiefError",q),("NoDeed",aj),("NoForm",F),("NoHead",ah),("NoKind",ac),("NoMake",ad),("NoName",ai),("NoNumber",aa),("NoReading",Y),("NoRoad",ab),("NoText",af),("NoWheel",U),("OutOfSteps",N),("TooBig",ag),("Uneven",ae)])
  (exNoForm:My.Exq K F) (ybNoForm:YG K (.ref F) (.type "BaseException")=some true) (syNoForm:YG K (.ref F) (.ref F)=some true) (suNoForm:My.Sus K F [])
  (exNoKind:My.Exq K ac) (ybNoKind:YG K (.ref q) (.type "BaseException")=some true) (syNoKind:YG K (.ref ac) (.ref q)=some true) (suNoKind:My.Sus K ac [("NoDeed",aj),("NoForm",F),("NoHead",ah),("NoMake",ad),("NoName",ai),("NoNumber",aa),("NoReading",Y),("NoRoad",ab),("NoText",af),("NoWheel",U),("OutOfSteps",N),("TooBig",ag),("Uneven",ae)])
  (exNoMake:My.Exq K ad) (ybNoMake:YG K (.ref q) (.type "BaseException")=some true) (syNoMake:YG K (.ref ad) (.ref q)=some true) (suNoMake:My.Sus K ad [("NoDeed",aj),("NoForm",F),("NoHead",ah),("NoKind",ac),("NoName",ai),("NoNumber",aa),("NoReading",Y),("NoRoad",ab),("NoText",af),("NoWheel",U),("OutOfSteps",N),("TooBig",ag),("Uneven",ae)])
  (exNoRoad:My.Exq K ab) (ybNoRoad:YG K (.ref q) (.type "BaseException")=some true) (syNoRoad:YG K (.ref ab) (.ref q)=some true) (suNoRoad:My.Sus K ab [("NoDeed",aj),("NoForm",F),("NoHead",ah),("NoKind",ac),("NoMake",ad),("NoName",ai),("NoNumber",aa),("NoReading",Y),("NoText",af),("NoWheel",U),("OutOfSteps",N),("TooBig",ag),("Uneven",ae)])
  (exNoWheel:My.Exq K U) (ybNoWheel:YG K (.ref q) (.type "BaseException")=some true) (syNoWheel:YG K (.ref U) (.ref q)=some true) (suNoWheel:My.Sus K U [("NoDeed",aj),("NoForm",F),("NoHead",ah),("NoKind",ac),("NoMake",ad),("NoName",ai),("NoNumber",aa),("NoReading",Y),("NoRoad",ab),("NoText",af),("OutOfSteps",N),("TooBig",ag),("Uneven",ae)])
  (ok:∀base:Heap,K.In base->base.Ns YK mg->Txt K mg->My.BodyOk l.prog w K mg base "law" s_law ["script", "raw", "bent", "bits", "kinds", "roads", "makes", "found", "marks", "other", "another", "e", "first"] k (My.yE K)) :
  ∃fd:ZK,(∀(s:XE) (v:Value),BindsTo s fd ⟨[v],[]⟩ [("script",v)])/\∀base:Heap,K.In base->base.Ns YK mg->FnOk l.prog w K mg base AA (k+1) fa fd ["script"] (My.yE K):=by
 have e:=a2.symm.trans (za2 X G a0);cases e;have F0:=HW (st:=s_law) l0 c0 k0;have T:Txt K mg:=⟨Des.d X G D VD,λx hx=>PySem.W.mg_none_of X G (B x hx),Gis.d X G J,⟨⟨_,za2 X G gaWORDS,_,_,_,glWORDS,rfl,rfl,by show 4<=XQ;decide,.cons ⟨_,rfl⟩ (.cons ⟨_,rfl⟩ (.cons ⟨_,rfl⟩ (.cons ⟨_,rfl⟩ (.nil))))⟩⟩,My.rA X G cl exNoForm ybNoForm syNoForm suNoForm (by simp) (by simp) (by simp),My.rA X G cl exNoKind ybNoKind syNoKind suNoKind (by simp) (by simp) (by simp),My.rA X G cl exNoMake ybNoMake syNoMake suNoMake (by simp) (by simp) (by simp),My.rA X G cl exNoRoad ybNoRoad syNoRoad suNoRoad (by simp) (by simp) (by simp),My.rA X G cl exNoWheel ybNoWheel syNoWheel suNoWheel (by simp) (by simp) (by simp)⟩;refine⟨Z0 "law" "law" (d7 s_law) (bO s_law) (aF s_law) .none az ax aw ay as au,λs v=>.of_eq rfl,λbase kb nb=>?_⟩;exact(ok base kb nb T).fn F0 sc_law (λvs H Q E h=>by obtain⟨a,ns,e,_⟩:=h;rw[e];rfl)
end Law
namespace PySem.W.Fast
theorem tw17765944469346203001:0=0:=rfl
theorem tw9827846502223352756:0=0:=rfl
theorem tw10609208401976027755:0=0:=rfl
theorem tw11209628804006755528:0=0:=rfl
theorem tw16735619195764753814:0=0:=rfl
theorem tw10020698334252666268:0=0:=rfl
theorem tw14983498071937151123:0=0:=rfl
theorem tw2837036810077888971:0=0:=rfl
theorem tw4018647477230990214:0=0:=rfl
theorem tw6094051995305968046:0=0:=rfl
theorem tw8238272717417556274:0=0:=rfl
theorem tw12260059151300741565:0=0:=rfl
theorem tw18099891460461499278:0=0:=rfl
theorem tw1475752547872939377:0=0:=rfl
theorem tw14391737534240801160:0=0:=rfl
theorem tw4556996356924915760:0=0:=rfl
theorem tw10313422818752596317:0=0:=rfl
theorem tw14741110873138434403:0=0:=rfl
theorem tw4279817256926748829:0=0:=rfl
theorem tw4696925612011419806:0=0:=rfl
theorem tw3303273496225921145:0=0:=rfl
theorem tw6235005998534318884:0=0:=rfl
theorem tw13180157684534505803:0=0:=rfl
theorem tw12364251712209216362:0=0:=rfl
theorem tw13416521521032201676:0=0:=rfl
theorem tw16525958968852896865:0=0:=rfl
theorem tw17041858218443897285:0=0:=rfl
theorem tw13009378165023680610:0=0:=rfl
theorem tw15326959493234874014:0=0:=rfl
theorem tw10658999448935030370:0=0:=rfl
theorem tw7919214737672456013:0=0:=rfl
theorem tw15474619201444515123:0=0:=rfl
theorem tw9990331347361219552:0=0:=rfl
theorem tw4838007294510135531:0=0:=rfl
theorem tw597499555807039941:0=0:=rfl
theorem tw13013984129993334848:0=0:=rfl
theorem tw7286798781924559254:0=0:=rfl
theorem tw4192522567287834250:0=0:=rfl
theorem tw6028073090884394055:0=0:=rfl
theorem tw18327735280419809757:0=0:=rfl
theorem tw7923416906739209109:0=0:=rfl
theorem tw1236199352400406493:0=0:=rfl
theorem tw10558188404562029096:0=0:=rfl
theorem tw767592753518924237:0=0:=rfl
theorem tw5534302466163427084:0=0:=rfl
theorem tw7079670826664074244:0=0:=rfl
theorem tw15968358288376473889:0=0:=rfl
theorem tw1606889079728925030:0=0:=rfl
theorem tw18015235268471171774:0=0:=rfl
theorem tw9674456811732414316:0=0:=rfl
theorem tw2409655175610269757:0=0:=rfl
theorem tw10674728575438830208:0=0:=rfl
theorem tw17445141372166322309:0=0:=rfl
theorem tw18367294119934256756:0=0:=rfl
theorem tw8109877717478829362:0=0:=rfl
theorem tw4655453547219853261:0=0:=rfl
theorem tw10336084575889757011:0=0:=rfl
theorem tw2300391291843492405:0=0:=rfl
theorem tw10165165831226832437:0=0:=rfl
theorem tw6306022009520553972:0=0:=rfl
theorem tw9791005937310076403:0=0:=rfl
theorem tw4233919309973761684:0=0:=rfl
theorem tw6610106174606091936:0=0:=rfl
theorem tw3217006590515219294:0=0:=rfl
theorem tw1775186718265384163:0=0:=rfl
theorem tw15790965580505185344:0=0:=rfl
theorem tw13640730382747458467:0=0:=rfl
theorem tw15626274352201751114:0=0:=rfl
theorem tw12079582871995316073:0=0:=rfl
theorem tw11503785967472366053:0=0:=rfl
theorem tw12900675080720309898:0=0:=rfl
theorem tw8765118058665369986:0=0:=rfl
theorem tw17783642807561702997:0=0:=rfl
theorem tw15702932999104971385:0=0:=rfl
theorem tw16099826971711469059:0=0:=rfl
theorem tw14105317807386783136:0=0:=rfl
theorem tw5083108281007893230:0=0:=rfl
theorem tw17640031086544925840:0=0:=rfl
theorem tw17995191824207408264:0=0:=rfl
theorem tw10651106166480349416:0=0:=rfl
theorem tw8005427834052007873:0=0:=rfl
theorem tw14649192238294546868:0=0:=rfl
theorem tw12688521813900091694:0=0:=rfl
theorem tw8899160264331371946:0=0:=rfl
theorem tw2930608513566473461:0=0:=rfl
theorem tw17955792733799788770:0=0:=rfl
theorem tw16487116725993096708:0=0:=rfl
theorem tw1390801241788121915:0=0:=rfl
theorem tw17517687534976852281:0=0:=rfl
theorem tw10901197478236885034:0=0:=rfl
theorem tw8838508313340545298:0=0:=rfl
theorem tw11873667888302823043:0=0:=rfl
theorem tw17638202307298715588:0=0:=rfl
theorem tw12514942549253591565:0=0:=rfl
theorem tw16020880258750940948:0=0:=rfl
theorem tw14143762954574564650:0=0:=rfl
theorem tw5485039764480359902:0=0:=rfl
theorem tw17695001913663415143:0=0:=rfl
theorem tw13743034368165232837:0=0:=rfl
theorem tw8897993561159514829:0=0:=rfl
theorem tw15815760074896033875:0=0:=rfl
theorem tw18024393134370819639:0=0:=rfl
theorem tw7667171776028604058:0=0:=rfl
theorem tw2698021270808282451:0=0:=rfl
theorem tw10653059297958699566:0=0:=rfl
theorem tw6662383490502672358:0=0:=rfl
theorem tw4145957679608825917:0=0:=rfl
theorem tw2112540572511009907:0=0:=rfl
theorem tw5482198279615615451:0=0:=rfl
theorem tw4023611631145974455:0=0:=rfl
theorem tw1118542381057119916:0=0:=rfl
theorem tw14623411053343221437:0=0:=rfl
theorem tw15157709231393604846:0=0:=rfl
theorem tw1916264861432890814:0=0:=rfl
theorem tw15922755436188073944:0=0:=rfl
theorem tw12928333171905984028:0=0:=rfl
theorem tw12141870302736751469:0=0:=rfl
theorem tw6973321500925183817:0=0:=rfl
theorem tw5235272592930488588:0=0:=rfl
theorem tw1215706941869524048:0=0:=rfl
theorem tw12356414343314277429:0=0:=rfl
theorem tw16850587421694464901:0=0:=rfl
theorem tw15853673077177498853:0=0:=rfl
theorem tw12035743986230756912:0=0:=rfl
theorem tw9061899061518656827:0=0:=rfl
theorem tw18153277079042146540:0=0:=rfl
theorem tw15324216104298232868:0=0:=rfl
theorem tw332658937086929184:0=0:=rfl
theorem tw6087730051623509869:0=0:=rfl
theorem tw8773903775759198627:0=0:=rfl
theorem tw16306666111738753364:0=0:=rfl
theorem tw2538491532456554780:0=0:=rfl
theorem tw16342643644537528360:0=0:=rfl
theorem tw3544225027614600980:0=0:=rfl
theorem tw5873987777575514941:0=0:=rfl
theorem tw755579745250808634:0=0:=rfl
theorem tw17986042217486860621:0=0:=rfl
theorem tw14490752196224417487:0=0:=rfl
theorem tw11455840772631823250:0=0:=rfl
theorem tw4934211767792582838:0=0:=rfl
theorem tw13527249348028938795:0=0:=rfl
theorem tw13487723009006888903:0=0:=rfl
theorem tw10866469774542237358:0=0:=rfl
theorem tw701477668074414138:0=0:=rfl
theorem tw11019791359646110038:0=0:=rfl
theorem tw7002885290819687395:0=0:=rfl
theorem tw11099344638391447348:0=0:=rfl
theorem tw4168724814958719869:0=0:=rfl
theorem tw10849065419017246852:0=0:=rfl
theorem tw145153950256388585:0=0:=rfl
theorem tw5152899071536290105:0=0:=rfl
theorem tw8535562093162410743:0=0:=rfl
theorem tw4874234819477427011:0=0:=rfl
theorem tw16145260569276797589:0=0:=rfl
theorem tw9082200746068052482:0=0:=rfl
theorem tw14130966873509317478:0=0:=rfl
theorem tw13288767920892807269:0=0:=rfl
theorem tw11777430125042552385:0=0:=rfl
theorem tw7878992962988176592:0=0:=rfl
theorem tw15723194334639606161:0=0:=rfl
theorem tw8597507180121137512:0=0:=rfl
theorem tw17421275253870929599:0=0:=rfl
theorem tw1067549261298651089:0=0:=rfl
theorem tw8478545391175094214:0=0:=rfl
theorem tw13775081541163072964:0=0:=rfl
theorem tw12738582741314027935:0=0:=rfl
theorem tw8971606502093894127:0=0:=rfl
theorem tw14977917523413048570:0=0:=rfl
theorem tw14626499191054585908:0=0:=rfl
theorem tw5042600722779324856:0=0:=rfl
theorem tw16740970860876125293:0=0:=rfl
theorem tw6202314762254733011:0=0:=rfl
theorem tw17347067941987361814:0=0:=rfl
theorem tw2155075842094970312:0=0:=rfl
theorem tw1513870796187548546:0=0:=rfl
theorem tw15066090358332860077:0=0:=rfl
theorem tw11147021800558228153:0=0:=rfl
theorem tw13035562175888973230:0=0:=rfl
theorem tw12095598549241633326:0=0:=rfl
theorem tw11565017010447367137:0=0:=rfl
theorem tw1364499829212829829:0=0:=rfl
theorem tw11694263734422876372:0=0:=rfl
theorem tw17910947814960966858:0=0:=rfl
theorem tw6277341091106148556:0=0:=rfl
theorem tw1608437212079447041:0=0:=rfl
theorem tw2458013751592460528:0=0:=rfl
theorem tw10487118844824852336:0=0:=rfl
theorem tw4996048346774334080:0=0:=rfl
theorem tw5735495847374348940:0=0:=rfl
theorem tw5723478696760841143:0=0:=rfl
theorem tw18048522509558249839:0=0:=rfl
theorem tw14238553405444672095:0=0:=rfl
theorem tw4246547448681620607:0=0:=rfl
theorem tw16717530762544648592:0=0:=rfl
theorem tw15291394613815782753:0=0:=rfl
theorem tw6670887873633218233:0=0:=rfl
theorem tw16417589117649250154:0=0:=rfl
theorem tw4983564121057968389:0=0:=rfl
theorem tw17527324934997642394:0=0:=rfl
theorem tw14411295101918441520:0=0:=rfl
theorem tw11180623134262809168:0=0:=rfl
theorem tw6313736168936132210:0=0:=rfl
theorem tw5050774690771430848:0=0:=rfl
theorem tw5324863133304049785:0=0:=rfl
theorem tw5780515662615936479:0=0:=rfl
theorem tw4614560739807806183:0=0:=rfl
theorem tw17316953693373955015:0=0:=rfl
theorem tw2246407249918017427:0=0:=rfl
end PySem.W.Fast
open PySem PySem.W PyProof.Rows
set_option maxRecDepth 100000 in
set_option maxHeartbeats 0 in
theorem PySem.Challenge.cw_chiefway_k13_books_refused_holds : PySem.Challenge.rw_chiefway_k13_books_refused.Holds := by
 w_on;o_law;k_head;(case hw=>w_witness2)
 k_fill
 refine My.walk (l:=PySem.Challenge.rw_chiefway_k13_books_refused) (k:=13) (by decide) rfl rfl (λw h Y=>PySem.W.kIn_of Y) ?F
 case F=>
  intro w mg U h KX G N;refine' Law.P9 (k:=12) KX G N ?D ?B ?J ?a0 ?l0 ?c0 ?k0 ?gaWORDS ?glWORDS ?cl ?exNoForm ?ybNoForm ?syNoForm ?suNoForm ?exNoKind ?ybNoKind ?syNoKind ?suNoKind ?exNoMake ?ybNoMake ?syNoMake ?suNoMake ?exNoRoad ?ybNoRoad ?syNoRoad ?suNoRoad ?exNoWheel ?ybNoWheel ?syNoWheel ?suNoWheel ?ok
  (case D=>unfold Law.tab;(repeat (apply P.Des.cons;(case a=>k_is);(case l=>k_is);(case c=>k_is);(case k=>k_is)));exact P.Des.nil)
  (case B=>unfold Law.blt;(repeat (apply P.Nos.cons;(case a=>k_is)));exact P.Nos.nil)
  (case J=>unfold Law.WC;(repeat (apply P.Gis.cons;(case a=>k_is)));exact P.Gis.nil)
  (case a0=>k_is)
  (case l0=>k_is)
  (case c0=>k_is)
  (case k0=>k_is)
  (case gaWORDS=>k_is)
  (case glWORDS=>k_is)
  (case cl=>(repeat (apply My.Ces.cons;(case a=>k_is);(case c=>k_is);(case t=>k_is)));exact My.Ces.nil)
  (case exNoForm=>refine' My.Exq.mk ?e ?ga ?gt ?cl ?ob ?be ?gg ?tk ?sv;(case e=>k_exc);(case ga=>k_is);(case gt=>k_is);(case cl=>k_is);(case ob=>k_is);(case be=>k_is);(case gg=>k_is);(case tk=>k_is);(case sv=>k_is))
  (case ybNoForm=>k_is)
  (case syNoForm=>k_is)
  (case suNoForm=>(repeat (apply My.Sus.cons;(case b=>k_is);(case n=>rfl)));exact My.Sus.nil)
  (case exNoKind=>refine' My.Exq.mk ?e ?ga ?gt ?cl ?ob ?be ?gg ?tk ?sv;(case e=>k_exc);(case ga=>k_is);(case gt=>k_is);(case cl=>k_is);(case ob=>k_is);(case be=>k_is);(case gg=>k_is);(case tk=>k_is);(case sv=>k_is))
  (case ybNoKind=>k_is)
  (case syNoKind=>k_is)
  (case suNoKind=>(repeat (apply My.Sus.cons;(case b=>k_is);(case n=>rfl)));exact My.Sus.nil)
  (case exNoMake=>refine' My.Exq.mk ?e ?ga ?gt ?cl ?ob ?be ?gg ?tk ?sv;(case e=>k_exc);(case ga=>k_is);(case gt=>k_is);(case cl=>k_is);(case ob=>k_is);(case be=>k_is);(case gg=>k_is);(case tk=>k_is);(case sv=>k_is))
  (case ybNoMake=>k_is)
  (case syNoMake=>k_is)
  (case suNoMake=>(repeat (apply My.Sus.cons;(case b=>k_is);(case n=>rfl)));exact My.Sus.nil)
  (case exNoRoad=>refine' My.Exq.mk ?e ?ga ?gt ?cl ?ob ?be ?gg ?tk ?sv;(case e=>k_exc);(case ga=>k_is);(case gt=>k_is);(case cl=>k_is);(case ob=>k_is);(case be=>k_is);(case gg=>k_is);(case tk=>k_is);(case sv=>k_is))
  (case ybNoRoad=>k_is)
  (case syNoRoad=>k_is)
  (case suNoRoad=>(repeat (apply My.Sus.cons;(case b=>k_is);(case n=>rfl)));exact My.Sus.nil)
  (case exNoWheel=>refine' My.Exq.mk ?e ?ga ?gt ?cl ?ob ?be ?gg ?tk ?sv;(case e=>k_exc);(case ga=>k_is);(case gt=>k_is);(case cl=>k_is);(case ob=>k_is);(case be=>k_is);(case gg=>k_is);(case tk=>k_is);(case sv=>k_is))
  (case ybNoWheel=>k_is)
  (case syNoWheel=>k_is)
  (case suNoWheel=>(repeat (apply My.Sus.cons;(case b=>k_is);(case n=>rfl)));exact My.Sus.nil)
  (case ok=>exact λbase kb nb T=>P.P1 (f:=Law.B7) (O':=[]) rfl (λU q A outer s H E hr=>Law.NF.2 T U q A outer s H E hr) Law.RU)
